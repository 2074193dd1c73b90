/-
  HISTOGRAMS: hist.Add itself. Condition: each number is of 64 bits with a sign.
-/
import Derived.Test.YtebdlmjpgohngaaHisJ
namespace Go.Proofs.Ytebdlmjpgohngaa
open Go.RowKit

/-- What Add leaves. -/
def AddsP (v g m : Nat) (d : HD) (b t x : Int) (w : World) (e : Ending) (w' : World) : Prop :=
  e = .returned (.int .i64 (addE d b t x)) ∧ Kept v g m (addD d b t x) w' ∧ But2 g m w w'
theorem AddsP.none {v g m : Nat} {d : HD} {b t x : Int} {w : World} (h : Kept v g m d w) {E : Int} (h0 : E ≠ 0) (hE : addE d b t x = E) {w' : World} (hb : Below w.heap.size w w') : AddsP v g m d b t x w (.returned (.int .i64 E)) w' := by
  refine ⟨by rw [hE], ?_, But2.of_below hb⟩
  rw [show addD d b t x = d from if_pos (by rw [hE]; exact h0)]
  exact h.below hb

theorem add_nil (b t x : Int) (w : World) : Calls Try.prog 37 #[.pointer none, .int .i64 b, .int .i64 t, .int .i64 x] w fun e w' => e = .returned (.int .i64 8) ∧ w' = w := by
  go_enter Try.func37, Try.ntmps37
  go_wp2_with fail
  go_ret
  exact ⟨rfl, rfl⟩

set_option maxHeartbeats 1000000 in
theorem add_wrong (v g m : Nat) (d : HD) (b t x : Int) (w : World) (h : Kept v g m d w) (hr : rightD d = false) :
    Calls Try.prog 37 #[.pointer (some ⟨v, 0, none⟩), .int .i64 b, .int .i64 t, .int .i64 x] w fun e w' => AddsP v g m d b t x w e w' := by
  have HP : Hid (∀ w', Below w.heap.size w w' → AddsP v g m d b t x w (.returned (.int .i64 8)) w') := fun w' hb => AddsP.none h (by decide) (if_pos hr) hb
  obtain ⟨ac, nc, cc, am, nm, cm, hv, hR⟩ := h.read
  have hq := fun w => right_any d.k d.b d.c ac am nc cc nm cm w
  rw [hR.right, hr] at hq
  obtain ⟨a0, a1, a2, a3, a4⟩ := hv.five
  clear hR hv h hr
  go_enter Try.func37, Try.ntmps37
  go_wp2_with fail
  refine (hq _).mono ?_
  rintro e w1 ⟨rfl, c1⟩
  clear a0 a1 a2 a3 a4 hq
  have HC := Lib.hid c1
  clear c1
  go_wp2_with fail
  go_ret
  exact HP.out _ HC.out

/-- What Add leaves of a count. -/
def CntP (g pn : Nat) (x y : Int) (w : World) (e : Ending) (w' : World) : Prop :=
  e = .returned (.int .i64 (plE y x)) ∧ Lst KL g pn [if plE y x = 0 then plV y x else y] w' ∧ But g w w' ∧ Outs g pn 1 w w'

set_option maxHeartbeats 1000000 in
theorem addC_walk (v g m pn nc cc nm cm : Nat) (db dc b t x P y : Int) (hx : Whole x) (hy : Whole y) (w : World) (h : VarH v 0 db dc (.slice (some ⟨g, 0, none⟩) nc cc) (.slice (some ⟨m, 0, none⟩) nm cm) w) (hL : Lst KL g pn [y] w)
    (hq : ∀ w, Calls Try.prog 51 #[.agg #[.int .i64 0, .int .i64 db, .int .i64 dc, .slice (some ⟨g, 0, none⟩) nc cc, .slice (some ⟨m, 0, none⟩) nm cm]] w fun e w' => e = .returned (.bool true) ∧ Below w.heap.size w w')
    (b1 : ¬ b < 0) (b2 : b < db) (t1 : ¬ t < 0) (t2 : t < dc) (x1 : ¬ x < 0) (hP : wrap64 (b * dc) = P) (hp : wrap64 (P + t) = (pn : Int)) (hc1 : pn + 1 ≤ cc) (hc : pn ≤ 65792) :
    Calls Try.prog 37 #[.pointer (some ⟨v, 0, none⟩), .int .i64 b, .int .i64 t, .int .i64 x] w fun e w' => CntP g pn x y w e w' := by
  have HV := Lib.hid h
  have HL := Lib.hid hL
  obtain ⟨a0, a1, a2, a3, a4⟩ := h.five
  have HX := Lib.hid (And.intro hx hy)
  have HC1 := Lib.hid (And.intro hc1 hc)
  have hw3 : wrap64 ((pn : Int) + 1) = (pn : Int) + 1 := by unfold wrap64; omega
  have HW3 := Lib.hid hw3
  have HP2 := Lib.hid hp
  clear hx hy h hL hc1 hc hw3 hp
  go_enter Try.func37, Try.ntmps37
  go_wp2_with fail
  refine (hq _).mono ?_
  rintro e w1 ⟨rfl, c1⟩
  clear a0 a1 a2 a3 a4 hq
  have HC := Lib.hid c1
  obtain ⟨a0, a1, a2, a3, a4⟩ := (HV.out.below c1 HV.out.lt).five
  clear c1
  have hp := HP2.out
  go_upto_region 12 with fail
  rw [hp]
  clear b1 b2 t1 t2 hP hp x1
  have hw3 := HW3.out
  have q1 : (pn : Int) + 1 ≤ (cc : Int) := by have := HC1.out; omega
  have q2 : ¬ (cc = pn) := by have := HC1.out; omega
  go_upto_region 13 with fail
  have hL := HL.out.below HC.out HL.out.lt
  have c4 := alloc_below w1 (.cells #[.int .i64 x] 2)
  have n1 := (Lst.made (K := KL) w1 [x])
  have hL2 := hL.below c4 hL.lt
  have HG : Hid (∀ e w', CombP (fun j => plE ([y].getD j 0) ([x].getD j 0)) (fun j => plV ([y].getD j 0) ([x].getD j 0)) g pn 1 [y] (w1.alloc (.cells #[.int .i64 x] 2)) e w' → CntP g pn x y w e w') := by
    rintro e w' ⟨k, err, rfl, hran, hL3, hB, hO⟩
    have c5 : Below w.heap.size w (w1.alloc (.cells #[.int .i64 x] 2)) := HC.out.alloc HC.out.size _
    have c6 := Outs.below (Outs.refl g pn 1 w) c5 HL.out.lt
    have he : err = plE y x := by rw [hran.first]; rfl
    refine ⟨by rw [he], ?_, (But.of_below c5).trans hB, ⟨fun k hk => (hO.cell k hk).trans (c6.cell k hk), fun k => (hO.frozen k).trans (c6.frozen k)⟩⟩
    rcases hran.fin with ⟨rfl, h0⟩ | ⟨hk, h0, h3⟩
    · rw [if_pos (by rw [← he]; exact h0)]
      exact hL3
    · obtain rfl : k = 0 := by omega
      rw [if_neg (by rw [← he]; exact h3)]
      exact hL3
  have hq := combL_any 54 plV plE way_plus g pn g pn w1.heap.size 0 1 (cc - pn) 1 (cc - pn) 1 1 [y] (fun j => [y].getD j 0) (fun j => [x].getD j 0) rfl (by decide) (by decide) (by decide) _ hL2 (fun j hj => hL2.cell j hj) n1.lt (fun j hj => n1.cell j hj) (.inr rfl) (by have := hL.lt; omega)
    (fun j hj => by
      obtain rfl : j = 0 := by omega
      exact HX.out.2)
    (fun j hj => by
      obtain rfl : j = 0 := by omega
      exact HX.out.1)
  clear hL hL2 n1 c4 q1 q2 hw3
  go_wp2_with fail
  refine hq.mono ?_
  intro e w' hC
  have HF := Lib.hid (HG.out e w' hC)
  obtain ⟨he, _⟩ := HF.out
  subst he
  clear hC
  go_wp2_with fail
  go_ret
  exact HF.out

set_option maxHeartbeats 1000000 in
theorem addM_walk (v g m n nc cc nm cm : Nat) (db dc t x y0 y1 y2 : Int) (ht : Whole t) (hx : Whole x) (h0 : Whole y0) (h1 : Whole y1) (h2 : Whole y2) (w : World) (h : VarH v 1 db dc (.slice (some ⟨g, 0, none⟩) nc cc) (.slice (some ⟨m, 0, none⟩) nm cm) w) (hL : Lst KL m (n * 3) [y0, y1, y2] w)
    (hq : ∀ w, Calls Try.prog 51 #[.agg #[.int .i64 1, .int .i64 db, .int .i64 dc, .slice (some ⟨g, 0, none⟩) nc cc, .slice (some ⟨m, 0, none⟩) nm cm]] w fun e w' => e = .returned (.bool true) ∧ Below w.heap.size w w')
    (b2 : (n : Int) < db) (x1 : ¬ x < 0) (hc1 : n + 1 ≤ cm) (hc : n ≤ 65792) :
    Calls Try.prog 37 #[.pointer (some ⟨v, 0, none⟩), .int .i64 (n : Int), .int .i64 t, .int .i64 x] w fun e w' => AddP m (n * 3) t x y0 y1 y2 w e w' := by
  have HV := Lib.hid h
  have HL := Lib.hid hL
  obtain ⟨a0, a1, a2, a3, a4⟩ := h.five
  have HX := Lib.hid (And.intro ht (And.intro hx (And.intro h0 (And.intro h1 h2))))
  have HC1 := Lib.hid (And.intro hc1 hc)
  have hw3 : wrap64 ((n : Int) + 1) = (n : Int) + 1 := by unfold wrap64; omega
  have HW3 := Lib.hid hw3
  clear ht hx h0 h1 h2 h hL hc1 hc hw3
  go_enter Try.func37, Try.ntmps37
  go_wp2_with fail
  refine (hq _).mono ?_
  rintro e w1 ⟨rfl, c1⟩
  clear a0 a1 a2 a3 a4 hq
  have HC := Lib.hid c1
  obtain ⟨a0, a1, a2, a3, a4⟩ := (HV.out.below c1 HV.out.lt).five
  clear c1
  go_upto_region 10 with fail
  clear b2 x1
  have hw3 := HW3.out
  have q1 : (n : Int) + 1 ≤ (cm : Int) := by have := HC1.out; omega
  have q2 : ¬ (cm = n) := by have := HC1.out; omega
  obtain ⟨k1, k2, k3, k4, k5⟩ := HX.out
  have hq := addM_any m (n * 3) (cm - n) t x y0 y1 y2 k1 k2 k3 k4 k5 w1 (HL.out.below HC.out HL.out.lt)
  clear k1 k2 k3 k4 k5
  go_wp2_with fail
  refine hq.mono ?_
  rintro e w' ⟨rfl, hR, hB, hO⟩
  have c6 := Outs.below (Outs.refl m (n * 3) 3 w) HC.out HL.out.lt
  have HF : Hid (AddP m (n * 3) t x y0 y1 y2 w (.returned (.int .i64 (adE t x y0 y1 y2))) w') := ⟨rfl, hR, (But.of_below HC.out).trans hB, ⟨fun k hk => (hO.cell k hk).trans (c6.cell k hk), fun k => (hO.frozen k).trans (c6.frozen k)⟩⟩
  clear hR hB hO c6
  go_wp2_with fail
  go_ret
  exact HF.out
set_option maxHeartbeats 4000000 in
theorem add_right (v g m : Nat) (d : HD) (b t x : Int) (ht : Whole t) (hx : Whole x) (w : World) (h : Kept v g m d w) (hr : rightD d = true) :
    Calls Try.prog 37 #[.pointer (some ⟨v, 0, none⟩), .int .i64 b, .int .i64 t, .int .i64 x] w fun e w' => AddsP v g m d b t x w e w' := by
  have HN : Hid (∀ E : Int, E ≠ 0 → addE d b t x = E → ∀ w', Below w.heap.size w w' → AddsP v g m d b t x w (.returned (.int .i64 E)) w') := fun E h0 hE w' hb => AddsP.none h h0 hE hb
  obtain ⟨r0, r1, r2⟩ := rightD_true hr
  obtain ⟨C, M, hv, hR, wl, wm, hgm, hvg, hvm⟩ := id h
  rcases hR with ⟨rfl, _, _⟩ | ⟨nm, cc, cm, rfl, rfl, e3, e4, e5, l1, l2⟩
  · exact absurd hr (by decide)
  · have hq := fun w => right_any d.k d.b d.c (some ⟨g, 0, none⟩) (some ⟨m, 0, none⟩) d.lc.length cc nm cm w
    have hRd : Reads d (some ⟨g, 0, none⟩) d.lc.length (some ⟨m, 0, none⟩) nm w := ⟨rfl, e3, l1.holds, l2.holds, wl, wm⟩
    rw [hRd.right, hr] at hq
    have HA0 : Hid (addE d b t x = if b < 0 ∨ d.b ≤ b then 5 else if d.k = 0 ∧ (t < 0 ∨ d.c ≤ t) then 5 else if x < 0 then 1 else
      if d.k = 1 then adE t x (d.lm.getD (b.toNat * 3) 0) (d.lm.getD (b.toNat * 3 + 1) 0) (d.lm.getD (b.toNat * 3 + 2) 0) else plE (d.lc.getD (place d b t) 0) x) := by
      show _ = _; unfold addE; rw [if_neg (by rw [hr]; decide)]
    have hv0 := hv
    obtain ⟨a0, a1, a2, a3, a4⟩ := hv.five
    by_cases g1 : b < 0
    · have HP := Lib.hid (HN.out 5 (by decide) (HA0.out.trans (if_pos (.inl g1))))
      clear h hv hv0 hRd wl wm hgm hvg hvm e3 e4 e5 l1 l2 r0 r1 r2 HA0 HN ht hx
      go_enter Try.func37, Try.ntmps37
      go_wp2_with fail
      refine (hq _).mono ?_
      rintro e w1 ⟨rfl, c1⟩
      clear a0 a1 a2 a3 a4 hq
      have HC := Lib.hid c1
      clear c1
      go_wp2_with fail
      go_ret
      exact HP.out _ HC.out
    by_cases g2 : d.b ≤ b
    · have HP := Lib.hid (HN.out 5 (by decide) (HA0.out.trans (if_pos (.inr g2))))
      have HV := Lib.hid hv
      clear h hv hv0 hRd wl wm hgm hvg hvm e3 e4 e5 l1 l2 r0 r1 r2 HA0 HN ht hx
      go_enter Try.func37, Try.ntmps37
      go_wp2_with fail
      refine (hq _).mono ?_
      rintro e w1 ⟨rfl, c1⟩
      clear a0 a1 a2 a3 a4 hq
      have HC := Lib.hid c1
      obtain ⟨a0, a1, a2, a3, a4⟩ := (HV.out.below c1 HV.out.lt).five
      clear c1
      go_wp2_with fail
      go_ret
      exact HP.out _ HC.out
    have HA1 := Lib.hid (HA0.out.trans (if_neg (by omega)))
    by_cases g3 : d.k = 0
    · obtain ⟨dk, db, dc, dlc, dlm⟩ := d
      simp only at *
      subst g3
      have hc : lenC 0 db dc = (dlc.length : Int) := r1.symm
      have hC2 : 1 ≤ db ∧ db ≤ 257 ∧ 2 ≤ dc ∧ dc ≤ 256 ∧ (dlc.length : Int) = db * dc := by
        have e := hc
        unfold lenC at e
        split at e
        · rename_i q
          exact ⟨q.1, q.2.1, q.2.2.2.1, q.2.2.2.2, e.symm⟩
        · have : lenM 0 db dc = 0 := if_neg (by omega)
          rw [this, hc] at r0
          omega
      by_cases g4 : t < 0
      · have HP := Lib.hid (HN.out 5 (by decide) (HA1.out.trans (if_pos ⟨rfl, .inl g4⟩)))
        have HV := Lib.hid hv
        have b1 : b < db := by omega
        clear h hv hv0 hRd wl wm hgm hvg hvm e3 e4 e5 l1 l2 r0 r1 r2 HA0 HA1 HN ht hx hc hC2
        go_enter Try.func37, Try.ntmps37
        go_wp2_with fail
        refine (hq _).mono ?_
        rintro e w1 ⟨rfl, c1⟩
        clear a0 a1 a2 a3 a4 hq
        have HC := Lib.hid c1
        obtain ⟨a0, a1, a2, a3, a4⟩ := (HV.out.below c1 HV.out.lt).five
        clear c1
        go_wp2_with fail
        go_ret
        exact HP.out _ HC.out
      by_cases g5 : dc ≤ t
      · have HP := Lib.hid (HN.out 5 (by decide) (HA1.out.trans (if_pos ⟨rfl, .inr g5⟩)))
        have HV := Lib.hid hv
        have b1 : b < db := by omega
        clear h hv hv0 hRd wl wm hgm hvg hvm e3 e4 e5 l1 l2 r0 r1 r2 HA0 HA1 HN ht hx hc hC2
        go_enter Try.func37, Try.ntmps37
        go_wp2_with fail
        refine (hq _).mono ?_
        rintro e w1 ⟨rfl, c1⟩
        clear a0 a1 a2 a3 a4 hq
        have HC := Lib.hid c1
        obtain ⟨a0, a1, a2, a3, a4⟩ := (HV.out.below c1 HV.out.lt).five
        clear c1
        go_wp2_with fail
        go_ret
        exact HP.out _ HC.out
      have HA2 := Lib.hid (HA1.out.trans (if_neg (by omega)))
      by_cases g6 : x < 0
      · have HP := Lib.hid (HN.out 1 (by decide) (HA2.out.trans (if_pos g6)))
        have HV := Lib.hid hv
        have b1 : b < db := by omega
        have b2 : t < dc := by omega
        clear g2 g5
        clear h hv hv0 hRd wl wm hgm hvg hvm e3 e4 e5 l1 l2 r0 r1 r2 HA0 HA1 HN ht hx HA2 hc hC2
        go_enter Try.func37, Try.ntmps37
        go_wp2_with fail
        refine (hq _).mono ?_
        rintro e w1 ⟨rfl, c1⟩
        clear a0 a1 a2 a3 a4 hq
        have HC := Lib.hid c1
        obtain ⟨a0, a1, a2, a3, a4⟩ := (HV.out.below c1 HV.out.lt).five
        clear c1
        go_wp2_with fail
        go_ret
        exact HP.out _ HC.out
      obtain ⟨pn, hpn⟩ : ∃ pn : Nat, (pn : Int) = b * dc + t := by
        have := Int.mul_nonneg (show 0 ≤ b by omega) (show 0 ≤ dc by omega)
        exact ⟨(b * dc + t).toNat, by omega⟩
      have hpl : pn < dlc.length := by
        have h1 := Int.mul_le_mul_of_nonneg_right (show b + 1 ≤ db by omega) (show 0 ≤ dc by omega)
        rw [Int.add_mul] at h1
        omega
      have hlc : dlc.length ≤ 65792 := by
        have := mul_room hC2.1 hC2.2.1 hC2.2.2.1 hC2.2.2.2.1
        omega
      have hb0 := Int.mul_nonneg (show 0 ≤ b by omega) (show 0 ≤ dc by omega)
      have hplc : place ⟨0, db, dc, dlc, dlm⟩ b t = pn := by show (b * dc + t).toNat = pn; omega
      have hA3 : addE ⟨0, db, dc, dlc, dlm⟩ b t x = plE (dlc.getD pn 0) x := by
        refine HA2.out.trans ((if_neg g6).trans ((if_neg (by show ¬ (0 : Int) = 1; decide)).trans ?_))
        rw [hplc]
      have hw1 : wrap64 (b * dc) = b * dc := by unfold wrap64; omega
      have hw2 : wrap64 (b * dc + t) = (pn : Int) := by unfold wrap64; omega
      refine (addC_walk v g m pn dlc.length cc nm cm db dc b t x (b * dc) (dlc.getD pn 0) hx (wl pn hpl) w hv (l1.sub1 hpl) hq (by omega) (by omega) g4 (by omega) g6 hw1 hw2 (by omega) (by omega)).mono ?_
      rintro e w' ⟨rfl, hL, hB, hO⟩
      refine ⟨by rw [hA3], ?_, hB.fst⟩
      have hvv := hv.but hB hvg
      have l2' := l2.but hB (Ne.symm hgm)
      by_cases z : plE (dlc.getD pn 0) x = 0
      · rw [if_pos z] at hL
        have l1' := l1.join1 hO hL
        have e : addD ⟨0, db, dc, dlc, dlm⟩ b t x = ⟨0, db, dc, dlc.set pn (plV (dlc.getD pn 0) x), dlm⟩ := by
          unfold addD
          rw [if_neg (by rw [hA3, z]; decide), if_neg (by show ¬ (0 : Int) = 1; decide), hplc]
        rw [e]
        refine ⟨_, _, hvv, .inr ⟨nm, cc, cm, by simp, rfl, e3, by simpa using e4, e5, l1', l2'⟩, ?_, wm, hgm, hvg, hvm⟩
        intro j hj
        simp at hj
        show Whole ((dlc.set pn (plV (dlc.getD pn 0) x)).getD j 0)
        by_cases q : pn = j
        · subst q
          rw [show (dlc.set pn (plV (dlc.getD pn 0) x)).getD pn 0 = plV (dlc.getD pn 0) x by simp [List.getD_eq_getElem?_getD, hj]]
          exact fitV_whole _
        · rw [show (dlc.set pn (plV (dlc.getD pn 0) x)).getD j 0 = dlc.getD j 0 by simp [List.getD_eq_getElem?_getD, q]]
          exact wl j hj
      · rw [if_neg z] at hL
        have l1' := l1.join1 hO hL
        rw [show dlc.set pn (dlc.getD pn 0) = dlc by
          apply ext_getD (by simp)
          intro j hj
          by_cases q : pn = j
          · subst q; simp [List.getD_eq_getElem?_getD, hpl]
          · simp [List.getD_eq_getElem?_getD, q]] at l1'
        rw [show addD ⟨0, db, dc, dlc, dlm⟩ b t x = ⟨0, db, dc, dlc, dlm⟩ from if_pos (by rw [hA3]; exact z)]
        exact ⟨_, _, hvv, .inr ⟨nm, cc, cm, rfl, rfl, e3, e4, e5, l1', l2'⟩, wl, wm, hgm, hvg, hvm⟩
    · obtain ⟨dk, db, dc, dlc, dlm⟩ := d
      simp only at *
      have hk : dk = 1 := by
        by_cases q : dk = 1
        · exact q
        · have a1 : lenC dk db dc = 0 := if_neg (by omega)
          have a2 : lenM dk db dc = 0 := if_neg (by omega)
          rw [a1, a2] at r0; omega
      subst hk
      have hM2 : db ≤ 257 ∧ dlm.length = nm * 3 ∧ (nm : Int) = db := by
        have e : lenM 1 db dc = db := by
          have a1 : lenC 1 db dc = 0 := if_neg (by omega)
          have a2 : 0 < lenM 1 db dc := by omega
          unfold lenM at a2 ⊢
          split at a2
          · rename_i q; rw [if_pos q]
          · omega
        have := lenM_in 1 db dc
        omega
      have HA2 := Lib.hid (HA1.out.trans (if_neg (by omega)))
      by_cases g6 : x < 0
      · have HP := Lib.hid (HN.out 1 (by decide) (HA2.out.trans (if_pos g6)))
        have HV := Lib.hid hv
        have b1 : b < db := by omega
        clear g2 h hv hv0 hRd wl wm hgm hvg hvm e3 e4 e5 l1 l2 r0 r1 r2 HA0 HA1 HA2 HN ht hx hM2 g3
        go_enter Try.func37, Try.ntmps37
        go_wp2_with fail
        refine (hq _).mono ?_
        rintro e w1 ⟨rfl, c1⟩
        clear a0 a1 a2 a3 a4 hq
        have HC := Lib.hid c1
        obtain ⟨a0, a1, a2, a3, a4⟩ := (HV.out.below c1 HV.out.lt).five
        clear c1
        go_wp2_with fail
        go_ret
        exact HP.out _ HC.out
      obtain ⟨n, rfl⟩ : ∃ n : Nat, b = (n : Int) := ⟨b.toNat, by omega⟩
      have hA3 : addE ⟨1, db, dc, dlc, dlm⟩ n t x = adE t x (dlm.getD (n * 3) 0) (dlm.getD (n * 3 + 1) 0) (dlm.getD (n * 3 + 2) 0) :=
        HA2.out.trans ((if_neg g6).trans (if_pos rfl))
      have hnl : n * 3 + 2 < dlm.length := by omega
      refine (addM_walk v g m n dlc.length cc nm cm db dc t x _ _ _ ht hx (wm _ (by show n * 3 < dlm.length; omega)) (wm _ (by show n * 3 + 1 < dlm.length; omega)) (wm _ hnl) w hv (l2.sub3 hnl) hq (by omega) g6 (by omega) (by omega)).mono ?_
      rintro e w' ⟨rfl, hL, hB, hO⟩
      refine ⟨by rw [hA3], ?_, hB.snd⟩
      have hvv := hv.but hB hvm
      have l1' := l1.but hB hgm
      by_cases z : adE t x (dlm.getD (n * 3) 0) (dlm.getD (n * 3 + 1) 0) (dlm.getD (n * 3 + 2) 0) = 0
      · unfold adL at hL
        rw [if_pos z] at hL
        have l2' := l2.join3 hnl hO hL
        have e : addD ⟨1, db, dc, dlc, dlm⟩ n t x = ⟨1, db, dc, dlc, lm3 dlm n (plV (dlm.getD (n * 3) 0) x) (plV (dlm.getD (n * 3 + 1) 0) (t * x)) (plV (dlm.getD (n * 3 + 2) 0) (t * (t * x)))⟩ := by
          unfold addD
          rw [if_neg (by rw [hA3, z]; decide), if_pos rfl]
          rfl
        rw [e]
        refine ⟨_, _, hvv, .inr ⟨nm, cc, cm, rfl, rfl, by show (lm3 dlm n _ _ _).length = _; rw [lm3_len]; exact e3, e4, e5, l1', l2'⟩, wl, ?_, hgm, hvg, hvm⟩
        intro j hj
        have hj2 : j < dlm.length := by
          have : j < (lm3 dlm n (plV (dlm.getD (n * 3) 0) x) (plV (dlm.getD (n * 3 + 1) 0) (t * x)) (plV (dlm.getD (n * 3 + 2) 0) (t * (t * x)))).length := hj
          rwa [lm3_len] at this
        show Whole ((lm3 dlm n _ _ _).getD j 0)
        rw [lm3_get _ _ _ _ _ hnl]
        split
        · exact fitV_whole _
        · split
          · exact fitV_whole _
          · split
            · exact fitV_whole _
            · exact wm j hj2
      · rw [adL_no z] at hL
        have l2' := l2.join3 hnl hO hL
        rw [show lm3 dlm n (dlm.getD (n * 3) 0) (dlm.getD (n * 3 + 1) 0) (dlm.getD (n * 3 + 2) 0) = dlm by
          apply ext_getD (lm3_len _ _ _ _ _)
          intro j hj
          rw [lm3_get _ _ _ _ _ hnl]
          split
          · rename_i q; rw [q]
          · split
            · rename_i q; rw [q]
            · split
              · rename_i q; rw [q]
              · rfl] at l2'
        rw [show addD ⟨1, db, dc, dlc, dlm⟩ n t x = ⟨1, db, dc, dlc, dlm⟩ from if_pos (by rw [hA3]; exact z)]
        exact ⟨_, _, hvv, .inr ⟨nm, cc, cm, rfl, rfl, e3, e4, e5, l1', l2'⟩, wl, wm, hgm, hvg, hvm⟩

/-- Whatever it holds. -/
theorem add_any (v g m : Nat) (d : HD) (b t x : Int) (ht : Whole t) (hx : Whole x) (w : World) (h : Kept v g m d w) :
    Calls Try.prog 37 #[.pointer (some ⟨v, 0, none⟩), .int .i64 b, .int .i64 t, .int .i64 x] w fun e w' => AddsP v g m d b t x w e w' := by
  cases hr : rightD d
  · exact add_wrong v g m d b t x w h hr
  · exact add_right v g m d b t x ht hx w h hr
end Go.Proofs.Ytebdlmjpgohngaa
