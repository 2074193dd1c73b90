/-
  HistTurns: its walk. Condition: no more than 1000 counts and 300 moments each; else it is the chapter's example.
-/
import Derived.Test.YtdpcplhmnpglgaaHisO
namespace Go.Proofs.Ytdpcplhmnpglgaa
open Go.RowKit

/-- A variable that holds a histogram, as it is read. -/
structure HV (v : Nat) (d : HD) (ac : Option Addr) (nc cc : Nat) (am : Option Addr) (nm cm : Nat) (w : World) : Prop where
  v : VarH v d.k d.b d.c (.slice ac nc cc) (.slice am nm cm) w
  r : Reads d ac nc am nm w
theorem HV.below {v : Nat} {d : HD} {ac am : Option Addr} {nc cc nm cm : Nat} {w w' : World} (h : HV v d ac nc cc am nm cm w) (b : Below w.heap.size w w') : HV v d ac nc cc am nm cm w' := ⟨h.v.below b h.v.lt, h.r.below b⟩
theorem HV.drew {v : Nat} {d : HD} {ac am : Option Addr} {nc cc nm cm : Nat} {w : World} (h : HV v d ac nc cc am nm cm w) : HV v d ac nc cc am nm cm w.drew := ⟨h.v.drew, h.r.drew⟩
theorem HV.drewN {v : Nat} {d : HD} {ac am : Option Addr} {nc cc nm cm : Nat} {w : World} (h : HV v d ac nc cc am nm cm w) (n : Nat) : HV v d ac nc cc am nm cm (w.drewN n) := ⟨h.v.drewN n, h.r.drewN n⟩
theorem HV.new {d : HD} {ac am : Option Addr} {nc cc nm cm : Nat} {w w' : World} (h : Reads d ac nc am nm w) (e : w.alloc (.cells #[.int .i64 d.k, .int .i64 d.b, .int .i64 d.c, .slice ac nc cc, .slice am nm cm] 29) = w') : HV w.heap.size d ac nc cc am nm cm w' ∧ Below w.heap.size w w' ∧ w'.heap.size = w.heap.size + 1 := by
  subst e
  exact ⟨⟨VarH.new _ _ _ _ _ _ _, h.below (alloc_below _ _)⟩, alloc_below _ _, by simp⟩


set_option maxHeartbeats 2000000 in
theorem turns_great (a b c : HD) (aca ama acb amb acc amc : Option Addr) (nca cca nma cma ncb ccb nmb cmb ncc ccc nmc cmc : Nat) (w : World) (ha : Reads a aca nca ama nma w) (hb : Reads b acb ncb amb nmb w) (hc : Reads c acc ncc amc nmc w) (hg : (1000 < nca ∨ 300 < nma) ∨ (1000 < ncb ∨ 300 < nmb) ∨ (1000 < ncc ∨ 300 < nmc)) :
    Calls Try.prog 8 #[.agg #[.int .i64 a.k, .int .i64 a.b, .int .i64 a.c, .slice aca nca cca, .slice ama nma cma], .agg #[.int .i64 b.k, .int .i64 b.b, .int .i64 b.c, .slice acb ncb ccb, .slice amb nmb cmb], .agg #[.int .i64 c.k, .int .i64 c.b, .int .i64 c.c, .slice acc ncc ccc, .slice amc nmc cmc]] w fun e w' => e = .returned (.bool true) ∧ Below w.heap.size w w' := by
  obtain ⟨W1, hW1⟩ : ∃ W1, w.alloc (.cells #[.int .i64 a.k, .int .i64 a.b, .int .i64 a.c, .slice aca nca cca, .slice ama nma cma] 29) = W1 := ⟨_, rfl⟩
  obtain ⟨va, k1, s1⟩ := HV.new ha hW1
  obtain ⟨W2, hW2⟩ : ∃ W2, W1.alloc (.cells #[.int .i64 b.k, .int .i64 b.b, .int .i64 b.c, .slice acb ncb ccb, .slice amb nmb cmb] 29) = W2 := ⟨_, rfl⟩
  obtain ⟨vb, k2, s2⟩ := HV.new (hb.below k1) hW2
  obtain ⟨W3, hW3⟩ : ∃ W3, W2.alloc (.cells #[.int .i64 c.k, .int .i64 c.b, .int .i64 c.c, .slice acc ncc ccc, .slice amc nmc cmc] 29) = W3 := ⟨_, rfl⟩
  obtain ⟨vc, k3, s3⟩ := HV.new ((hc.below k1).below k2) hW3
  have HB : Hid (Below w.heap.size w W3) := (k1.trans (k2.mono k1.size)).trans (k3.mono (Nat.le_trans k1.size k2.size))
  replace va := (va.below k2).below k3
  replace vb := vb.below k3
  rw [s2, s1] at vc
  rw [s1] at vb
  rw [s1] at s2
  clear k1 k2 k3 s3
  go_enter Try.func8, Try.ntmps8
  go_upto_region 1 with fail
  clear hW1 hW2 hW3 s1 s2
  have gA := fun w => great_any a.k a.b a.c aca ama nca cca nma cma w
  have gB := fun w => great_any b.k b.b b.c acb amb ncb ccb nmb cmb w
  have gC := fun w => great_any c.k c.b c.c acc amc ncc ccc nmc cmc w
  have hg2 : decide (1000 < nca ∨ 300 < nma) = true ∨ decide (1000 < ncb ∨ 300 < nmb) = true ∨ decide (1000 < ncc ∨ 300 < nmc) = true := by simpa using hg
  generalize decide (1000 < nca ∨ 300 < nma) = qa at *
  generalize decide (1000 < ncb ∨ 300 < nmb) = qb at *
  generalize decide (1000 < ncc ∨ 300 < nmc) = qc at *
  have HG := Lib.hid hg2
  have HVB := Lib.hid vb
  have HVC := Lib.hid vc
  clear hg hg2 ha hb hc vb vc
  obtain ⟨a0, a1, a2, a3, a4⟩ := va.v.five
  clear va
  go_wp2_with fail
  refine (gA _).mono ?_
  rintro e W4 ⟨rfl, c4⟩
  clear a0 a1 a2 a3 a4 gA
  replace HVB := Lib.hid (HVB.out.below c4)
  replace HVC := Lib.hid (HVC.out.below c4)
  replace HB := Lib.hid (HB.out.trans (c4.mono HB.out.size))
  clear c4
  cases qa
  · obtain ⟨b0, b1, b2, b3, b4⟩ := HVB.out.v.five
    go_wp2_with fail
    refine (gB _).mono ?_
    rintro e W5 ⟨rfl, c5⟩
    clear b0 b1 b2 b3 b4 gB HVB
    replace HVC := Lib.hid (HVC.out.below c5)
    replace HB := Lib.hid (HB.out.trans (c5.mono HB.out.size))
    clear c5
    cases qb
    · obtain ⟨x0, x1, x2, x3, x4⟩ := HVC.out.v.five
      obtain rfl : qc = true := by have := HG.out; simpa using this
      clear HG
      go_wp2_with fail
      refine (gC _).mono ?_
      rintro e W6 ⟨rfl, c6⟩
      clear x0 x1 x2 x3 x4 gC HVC
      replace HB := Lib.hid (HB.out.trans (c6.mono HB.out.size))
      clear c6
      go_wp2_with fail
      refine (fixed_any _).mono ?_
      rintro e W7 ⟨rfl, c7⟩
      replace HB := Lib.hid (HB.out.trans (c7.mono HB.out.size))
      clear c7
      go_wp2_with fail
      go_ret
      exact ⟨rfl, HB.out⟩
    · clear gC HVC HG
      go_wp2_with fail
      refine (fixed_any _).mono ?_
      rintro e W7 ⟨rfl, c7⟩
      replace HB := Lib.hid (HB.out.trans (c7.mono HB.out.size))
      clear c7
      go_wp2_with fail
      go_ret
      exact ⟨rfl, HB.out⟩
  · clear gC HVC HG gB HVB
    go_wp2_with fail
    refine (fixed_any _).mono ?_
    rintro e W7 ⟨rfl, c7⟩
    replace HB := Lib.hid (HB.out.trans (c7.mono HB.out.size))
    clear c7
    go_wp2_with fail
    go_ret
    exact ⟨rfl, HB.out⟩


set_option maxHeartbeats 4000000 in
theorem turns_any (a b c : HD) (aca ama acb amb acc amc : Option Addr) (nca cca nma cma ncb ccb nmb cmb ncc ccc nmc cmc : Nat) (w : World) (ha : Reads a aca nca ama nma w) (hb : Reads b acb ncb amb nmb w) (hc : Reads c acc ncc amc nmc w) (hga : ¬ (1000 < nca ∨ 300 < nma)) (hgb : ¬ (1000 < ncb ∨ 300 < nmb)) (hgc : ¬ (1000 < ncc ∨ 300 < nmc)) :
    Calls Try.prog 8 #[.agg #[.int .i64 a.k, .int .i64 a.b, .int .i64 a.c, .slice aca nca cca, .slice ama nma cma], .agg #[.int .i64 b.k, .int .i64 b.b, .int .i64 b.c, .slice acb ncb ccb, .slice amb nmb cmb], .agg #[.int .i64 c.k, .int .i64 c.b, .int .i64 c.c, .slice acc ncc ccc, .slice amc nmc cmc]] w fun e w' => e = .returned (.bool true) ∧ Below w.heap.size w w' := by
  obtain ⟨W1, hW1⟩ : ∃ W1, w.alloc (.cells #[.int .i64 a.k, .int .i64 a.b, .int .i64 a.c, .slice aca nca cca, .slice ama nma cma] 29) = W1 := ⟨_, rfl⟩
  obtain ⟨va, k1, s1⟩ := HV.new ha hW1
  obtain ⟨W2, hW2⟩ : ∃ W2, W1.alloc (.cells #[.int .i64 b.k, .int .i64 b.b, .int .i64 b.c, .slice acb ncb ccb, .slice amb nmb cmb] 29) = W2 := ⟨_, rfl⟩
  obtain ⟨vb, k2, s2⟩ := HV.new (hb.below k1) hW2
  obtain ⟨W3, hW3⟩ : ∃ W3, W2.alloc (.cells #[.int .i64 c.k, .int .i64 c.b, .int .i64 c.c, .slice acc ncc ccc, .slice amc nmc cmc] 29) = W3 := ⟨_, rfl⟩
  obtain ⟨vc, k3, s3⟩ := HV.new ((hc.below k1).below k2) hW3
  have HB : Hid (Below w.heap.size w W3) := (k1.trans (k2.mono k1.size)).trans (k3.mono (Nat.le_trans k1.size k2.size))
  replace va := (va.below k2).below k3
  replace vb := vb.below k3
  rw [s2, s1] at vc
  rw [s1] at vb
  rw [s1] at s2
  clear k1 k2 k3 s3
  go_enter Try.func8, Try.ntmps8
  go_upto_region 1 with fail
  clear hW1 hW2 hW3 s1 s2
  have gA := fun w => great_any a.k a.b a.c aca ama nca cca nma cma w
  have gB := fun w => great_any b.k b.b b.c acb amb ncb ccb nmb cmb w
  have gC := fun w => great_any c.k c.b c.c acc amc ncc ccc nmc cmc w
  rw [decide_eq_false hga] at gA
  rw [decide_eq_false hgb] at gB
  rw [decide_eq_false hgc] at gC
  have HBD : Hid (a.lc.length ≤ 1000 ∧ a.lm.length ≤ 900 ∧ b.lc.length ≤ 1000 ∧ b.lm.length ≤ 900) := by
    have := ha.nc; have := ha.nm; have := hb.nc; have := hb.nm
    show _ ∧ _; omega
  clear hga hgb hgc ha hb hc
  replace va := Lib.hid va
  replace vb := Lib.hid vb
  replace vc := Lib.hid vc
  obtain ⟨a0, a1, a2, a3, a4⟩ := va.out.v.five
  go_wp2_with fail
  refine (gA _).mono ?_
  rintro e W4 ⟨rfl, c4⟩
  clear a0 a1 a2 a3 a4 gA
  replace va := Lib.hid (va.out.below c4)
  replace vb := Lib.hid (vb.out.below c4)
  replace vc := Lib.hid (vc.out.below c4)
  replace HB := Lib.hid (HB.out.trans (c4.mono HB.out.size))
  clear c4
  obtain ⟨b0, b1, b2, b3, b4⟩ := vb.out.v.five
  go_wp2_with fail
  refine (gB _).mono ?_
  rintro e W5 ⟨rfl, c5⟩
  clear b0 b1 b2 b3 b4 gB
  replace va := Lib.hid (va.out.below c5)
  replace vb := Lib.hid (vb.out.below c5)
  replace vc := Lib.hid (vc.out.below c5)
  replace HB := Lib.hid (HB.out.trans (c5.mono HB.out.size))
  clear c5
  obtain ⟨x0, x1, x2, x3, x4⟩ := vc.out.v.five
  go_upto_region 3 with (refine (gC _).mono ?_; rintro e W6 ⟨rfl, c6⟩)
  clear x0 x1 x2 x3 x4 gC
  replace va := Lib.hid (va.out.below c6)
  replace vb := Lib.hid (vb.out.below c6)
  replace vc := Lib.hid (vc.out.below c6)
  replace HB := Lib.hid (HB.out.trans (c6.mono HB.out.size))
  clear c6
  obtain ⟨p0, p1, p2, p3, p4⟩ := va.out.v.five
  obtain ⟨q0, q1, q2, q3, q4⟩ := vb.out.v.five
  have hm := merge_any a b aca ama acb amb nca cca nma cma ncb ccb nmb cmb W6 va.out.r vb.out.r
  obtain ⟨x, HX⟩ : ∃ d, Hid (bothD plusW a b = d) := ⟨_, rfl⟩
  obtain ⟨ex, HEX⟩ : ∃ d, Hid (bothE plusW a b = d) := ⟨_, rfl⟩
  rw [HX.out, HEX.out] at hm
  go_wp2_with fail
  refine hm.mono ?_
  rintro e Vx ⟨vx, rfl, ⟨acx, ncx, ccx, amx, nmx, cmx, rfl, rx, _⟩, cx⟩
  clear p0 p1 p2 p3 p4 q0 q1 q2 q3 q4 hm
  obtain ⟨Wx, hWx⟩ : ∃ W, Vx.alloc (.cells #[.int .i64 x.k, .int .i64 x.b, .int .i64 x.c, .slice acx ncx ccx, .slice amx nmx cmx] 29) = W := ⟨_, rfl⟩
  obtain ⟨vx, kx, _⟩ := HV.new rx hWx
  have c2 := Lib.hid (cx.trans (kx.mono cx.size))
  replace vx := Lib.hid vx
  clear rx cx kx
  obtain ⟨ox, hbx⟩ : ∃ n, Vx.heap.size = n := ⟨_, rfl⟩
  rw [hbx] at vx
  go_upto_region 4 with fail
  clear hWx hbx
  replace va := Lib.hid (va.out.below c2.out)
  replace vb := Lib.hid (vb.out.below c2.out)
  replace vc := Lib.hid (vc.out.below c2.out)
  replace HB := Lib.hid (HB.out.trans (c2.out.mono HB.out.size))
  clear c2
  obtain ⟨p0, p1, p2, p3, p4⟩ := vb.out.v.five
  obtain ⟨q0, q1, q2, q3, q4⟩ := va.out.v.five
  have hm := merge_any b a acb amb aca ama ncb ccb nmb cmb nca cca nma cma Wx vb.out.r va.out.r
  have HY : Hid (bothD plusW b a = x) := by rw [bothD_comm]; exact HX
  have HEY : Hid (bothE plusW b a = ex) := by rw [bothE_comm]; exact HEX
  rw [HY.out, HEY.out] at hm
  obtain ⟨y, HYX⟩ : ∃ y, Hid (y = x) := ⟨_, rfl⟩
  rw [← HYX.out] at hm
  go_wp2_with fail
  refine hm.mono ?_
  rintro e Vy ⟨vy, rfl, ⟨acy, ncy, ccy, amy, nmy, cmy, rfl, ry, _⟩, cy⟩
  clear p0 p1 p2 p3 p4 q0 q1 q2 q3 q4 hm
  obtain ⟨Wy, hWy⟩ : ∃ W, Vy.alloc (.cells #[.int .i64 y.k, .int .i64 y.b, .int .i64 y.c, .slice acy ncy ccy, .slice amy nmy cmy] 29) = W := ⟨_, rfl⟩
  obtain ⟨vy, ky, _⟩ := HV.new ry hWy
  have c2 := Lib.hid (cy.trans (ky.mono cy.size))
  replace vy := Lib.hid vy
  clear ry cy ky
  obtain ⟨oy, hby⟩ : ∃ n, Vy.heap.size = n := ⟨_, rfl⟩
  rw [hby] at vy
  go_upto_region 5 with fail
  clear hWy hby
  replace va := Lib.hid (va.out.below c2.out)
  replace vb := Lib.hid (vb.out.below c2.out)
  replace vc := Lib.hid (vc.out.below c2.out)
  replace vx := Lib.hid (vx.out.below c2.out)
  replace HB := Lib.hid (HB.out.trans (c2.out.mono HB.out.size))
  clear c2
  obtain ⟨p0, p1, p2, p3, p4⟩ := vx.out.v.five
  obtain ⟨q0, q1, q2, q3, q4⟩ := vy.out.v.five
  have hlx := both_len plusW a b
  rw [HX.out] at hlx
  have hs := same_any x y acx amx acy amy ncx ccx nmx cmx ncy ccy nmy cmy Wy vx.out.r vy.out.r (by have := HBD.out; have := vx.out.r.nc; omega) (by have := HBD.out; have := vx.out.r.nm; omega)
  rw [show sameD x y = true by rw [HYX.out]; exact sameD_refl x] at hs
  clear hlx
  go_wp2_with fail
  refine hs.mono ?_
  rintro e Ws ⟨rfl, cs⟩
  clear p0 p1 p2 p3 p4 q0 q1 q2 q3 q4 hs
  go_upto_region 7 with fail
  replace va := Lib.hid (va.out.below cs)
  replace vb := Lib.hid (vb.out.below cs)
  replace vc := Lib.hid (vc.out.below cs)
  replace vx := Lib.hid (vx.out.below cs)
  replace vy := Lib.hid (vy.out.below cs)
  replace HB := Lib.hid (HB.out.trans (cs.mono HB.out.size))
  clear cs
  obtain ⟨p0, p1, p2, p3, p4⟩ := vx.out.v.five
  obtain ⟨q0, q1, q2, q3, q4⟩ := vc.out.v.five
  have hm := merge_any x c acx amx acc amc ncx ccx nmx cmx ncc ccc nmc cmc Ws vx.out.r vc.out.r
  obtain ⟨l, HL⟩ : ∃ d, Hid (bothD plusW x c = d) := ⟨_, rfl⟩
  obtain ⟨el, HEL⟩ : ∃ d, Hid (bothE plusW x c = d) := ⟨_, rfl⟩
  rw [HL.out, HEL.out] at hm
  go_wp2_with fail
  refine hm.mono ?_
  rintro e Vl ⟨vl, rfl, ⟨acl, ncl, ccl, aml, nml, cml, rfl, rl, _⟩, cl⟩
  clear p0 p1 p2 p3 p4 q0 q1 q2 q3 q4 hm
  obtain ⟨Wl, hWl⟩ : ∃ W, Vl.alloc (.cells #[.int .i64 l.k, .int .i64 l.b, .int .i64 l.c, .slice acl ncl ccl, .slice aml nml cml] 29) = W := ⟨_, rfl⟩
  obtain ⟨vl, kl, _⟩ := HV.new rl hWl
  have c2 := Lib.hid (cl.trans (kl.mono cl.size))
  replace vl := Lib.hid vl
  clear rl cl kl
  obtain ⟨ol, hbl⟩ : ∃ n, Vl.heap.size = n := ⟨_, rfl⟩
  rw [hbl] at vl
  go_upto_region 8 with fail
  clear hWl hbl
  replace va := Lib.hid (va.out.below c2.out)
  replace vb := Lib.hid (vb.out.below c2.out)
  replace vc := Lib.hid (vc.out.below c2.out)
  replace vx := Lib.hid (vx.out.below c2.out)
  replace vy := Lib.hid (vy.out.below c2.out)
  replace HB := Lib.hid (HB.out.trans (c2.out.mono HB.out.size))
  clear c2
  obtain ⟨p0, p1, p2, p3, p4⟩ := vb.out.v.five
  obtain ⟨q0, q1, q2, q3, q4⟩ := vc.out.v.five
  have hm := merge_any b c acb amb acc amc ncb ccb nmb cmb ncc ccc nmc cmc Wl vb.out.r vc.out.r
  obtain ⟨z, HZ⟩ : ∃ d, Hid (bothD plusW b c = d) := ⟨_, rfl⟩
  obtain ⟨ez, HEZ⟩ : ∃ d, Hid (bothE plusW b c = d) := ⟨_, rfl⟩
  rw [HZ.out, HEZ.out] at hm
  go_wp2_with fail
  refine hm.mono ?_
  rintro e Vz ⟨vz, rfl, ⟨acz, ncz, ccz, amz, nmz, cmz, rfl, rz, _⟩, cz⟩
  clear p0 p1 p2 p3 p4 q0 q1 q2 q3 q4 hm
  obtain ⟨Wz, hWz⟩ : ∃ W, Vz.alloc (.cells #[.int .i64 z.k, .int .i64 z.b, .int .i64 z.c, .slice acz ncz ccz, .slice amz nmz cmz] 29) = W := ⟨_, rfl⟩
  obtain ⟨vz, kz, _⟩ := HV.new rz hWz
  have c2 := Lib.hid (cz.trans (kz.mono cz.size))
  replace vz := Lib.hid vz
  clear rz cz kz
  obtain ⟨oz, hbz⟩ : ∃ n, Vz.heap.size = n := ⟨_, rfl⟩
  rw [hbz] at vz
  go_upto_region 9 with fail
  clear hWz hbz
  replace va := Lib.hid (va.out.below c2.out)
  replace vb := Lib.hid (vb.out.below c2.out)
  replace vc := Lib.hid (vc.out.below c2.out)
  replace vx := Lib.hid (vx.out.below c2.out)
  replace vy := Lib.hid (vy.out.below c2.out)
  replace vl := Lib.hid (vl.out.below c2.out)
  replace HB := Lib.hid (HB.out.trans (c2.out.mono HB.out.size))
  clear c2
  obtain ⟨p0, p1, p2, p3, p4⟩ := va.out.v.five
  obtain ⟨q0, q1, q2, q3, q4⟩ := vz.out.v.five
  have hm := merge_any a z aca ama acz amz nca cca nma cma ncz ccz nmz cmz Wz va.out.r vz.out.r
  obtain ⟨r, HR⟩ : ∃ d, Hid (bothD plusW a z = d) := ⟨_, rfl⟩
  obtain ⟨er, HER⟩ : ∃ d, Hid (bothE plusW a z = d) := ⟨_, rfl⟩
  rw [HR.out, HER.out] at hm
  go_wp2_with fail
  refine hm.mono ?_
  rintro e Vr ⟨vr, rfl, ⟨acr, ncr, ccr, amr, nmr, cmr, rfl, rr, _⟩, cr⟩
  clear p0 p1 p2 p3 p4 q0 q1 q2 q3 q4 hm
  obtain ⟨Wr, hWr⟩ : ∃ W, Vr.alloc (.cells #[.int .i64 r.k, .int .i64 r.b, .int .i64 r.c, .slice acr ncr ccr, .slice amr nmr cmr] 29) = W := ⟨_, rfl⟩
  obtain ⟨vr, kr, _⟩ := HV.new rr hWr
  have c2 := Lib.hid (cr.trans (kr.mono cr.size))
  replace vr := Lib.hid vr
  clear rr cr kr
  obtain ⟨or, hbr⟩ : ∃ n, Vr.heap.size = n := ⟨_, rfl⟩
  rw [hbr] at vr
  go_upto_region 10 with fail
  clear hWr hbr
  replace va := Lib.hid (va.out.below c2.out)
  replace vb := Lib.hid (vb.out.below c2.out)
  replace vc := Lib.hid (vc.out.below c2.out)
  replace vx := Lib.hid (vx.out.below c2.out)
  replace vy := Lib.hid (vy.out.below c2.out)
  replace vl := Lib.hid (vl.out.below c2.out)
  replace vz := Lib.hid (vz.out.below c2.out)
  replace HB := Lib.hid (HB.out.trans (c2.out.mono HB.out.size))
  clear c2
  by_cases e1 : ex = 0
  · by_cases e2 : el = 0
    · by_cases e3 : ez = 0
      · by_cases e4 : er = 0
        · have HLR : Hid (l = r) := by
            have h1 : bothE plusW a b = 0 := HEX.out.trans e1
            have h2 : bothE plusW (bothD plusW a b) c = 0 := by rw [HX.out]; exact HEL.out.trans e2
            have h3 : bothE plusW b c = 0 := HEZ.out.trans e3
            have h4 : bothE plusW a (bothD plusW b c) = 0 := by rw [HZ.out]; exact HER.out.trans e4
            have := both_turns h1 h2 h3 h4
            rw [HX.out, HZ.out, HL.out, HR.out] at this
            exact this
          have hlx := both_len plusW x c
          have hlx2 := both_len plusW a b
          rw [HL.out] at hlx
          rw [HX.out] at hlx2
          obtain ⟨p0, p1, p2, p3, p4⟩ := vl.out.v.five
          obtain ⟨q0, q1, q2, q3, q4⟩ := vr.out.v.five
          have HLEN : Hid (ncl ≤ 1048576 ∧ nml ≤ 1048576) := by
            have := HBD.out; have := vl.out.r.nc; have := vl.out.r.nm
            show _ ∧ _
            omega
          subst e1 e2 e3 e4
          clear hlx hlx2 p0 p1 p2 p3 p4 q0 q1 q2 q3 q4
          go_upto_region 12 with fail
          go_wp2_with fail
          refine (fixed_any _).mono ?_
          rintro e W7 ⟨rfl, c7⟩
          replace HB := Lib.hid (HB.out.trans (c7.mono HB.out.size))
          replace vl := Lib.hid (vl.out.below c7)
          replace vr := Lib.hid (vr.out.below c7)
          clear c7
          obtain ⟨p0, p1, p2, p3, p4⟩ := vl.out.v.five
          obtain ⟨q0, q1, q2, q3, q4⟩ := vr.out.v.five
          have hs := same_any l r acl aml acr amr ncl ccl nml cml ncr ccr nmr cmr W7 vl.out.r vr.out.r HLEN.out.1 HLEN.out.2
          rw [show sameD l r = true by rw [HLR.out]; exact sameD_refl r] at hs
          go_wp2_with fail
          refine hs.mono ?_
          rintro e W8 ⟨rfl, c8⟩
          replace HB := Lib.hid (HB.out.trans (c8.mono HB.out.size))
          clear p0 p1 p2 p3 p4 q0 q1 q2 q3 q4 hs c8
          go_wp2_with fail
          go_ret
          exact ⟨rfl, HB.out⟩
        · have gb : (er != 0) = true := by simpa using e4
          subst e1 e2 e3
          clear e4
          go_wp2_with fail
          refine (fixed_any _).mono ?_
          rintro e W7 ⟨rfl, c7⟩
          replace HB := Lib.hid (HB.out.trans (c7.mono HB.out.size))
          clear c7
          go_wp2_with fail
          go_ret
          exact ⟨rfl, HB.out⟩
      · have gb : (ez != 0) = true := by simpa using e3
        subst e1 e2
        clear e3
        go_wp2_with fail
        refine (fixed_any _).mono ?_
        rintro e W7 ⟨rfl, c7⟩
        replace HB := Lib.hid (HB.out.trans (c7.mono HB.out.size))
        clear c7
        go_wp2_with fail
        go_ret
        exact ⟨rfl, HB.out⟩
    · have gb : (el != 0) = true := by simpa using e2
      subst e1
      clear e2
      go_wp2_with fail
      refine (fixed_any _).mono ?_
      rintro e W7 ⟨rfl, c7⟩
      replace HB := Lib.hid (HB.out.trans (c7.mono HB.out.size))
      clear c7
      go_wp2_with fail
      go_ret
      exact ⟨rfl, HB.out⟩
  · have gb : (ex != 0) = true := by simpa using e1
    clear e1
    go_wp2_with fail
    refine (fixed_any _).mono ?_
    rintro e W7 ⟨rfl, c7⟩
    replace HB := Lib.hid (HB.out.trans (c7.mono HB.out.size))
    clear c7
    go_wp2_with fail
    go_ret
    exact ⟨rfl, HB.out⟩
end Go.Proofs.Ytdpcplhmnpglgaa
