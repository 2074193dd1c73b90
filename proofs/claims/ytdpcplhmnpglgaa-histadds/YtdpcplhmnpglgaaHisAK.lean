/-
  HistAdds: its walk. Conditions: as the law asks; else it is the chapter's example.
-/
import Derived.Test.YtdpcplhmnpglgaaHisAJ
namespace Go.Proofs.Ytdpcplhmnpglgaa
open Go.RowKit

theorem adds_great (k b c : Int) (n cap : Nat) (a : Option Addr) (h : 100 < n) (w : World) :
    Calls Try.prog 3 #[.agg #[.int .i64 k, .int .i64 b, .int .i64 c], .slice a n cap] w fun e w' => e = .returned (.bool true) ∧ Below w.heap.size w w' := by
  obtain ⟨W1, hW1⟩ : ∃ W1, w.alloc (.cells #[.int .i64 k, .int .i64 b, .int .i64 c] 23) = W1 := ⟨_, rfl⟩
  have b1 : Below w.heap.size w W1 := hW1 ▸ alloc_below w _
  have HB := Lib.hid b1
  have h3 : (100 : Int) < (n : Int) := by omega
  clear h b1
  go_enter Try.func3, Try.ntmps3
  go_upto_region 1 with fail
  clear hW1
  go_wp2_with fail
  refine (fixed_any _).mono ?_
  rintro e w' ⟨rfl, c⟩
  go_wp2_with fail
  go_ret
  exact ⟨rfl, HB.out.trans (c.mono HB.out.size)⟩

set_option maxRecDepth 20000 in
set_option maxHeartbeats 4000000 in
theorem adds_any (k b c : Int) (n cap : Nat) (a : Option Addr) (l : List Int) (hl : l.length = n * 3) (hw : Wholes l) (hn : n ≤ 100) (w : World) (hh : HoldsE KL w a l) :
    Calls Try.prog 3 #[.agg #[.int .i64 k, .int .i64 b, .int .i64 c], .slice a n cap] w fun e w' => e = .returned (.bool true) ∧ Below w.heap.size w w' := by
  obtain ⟨d, E, hr, hs1, hs2, hN, hR⟩ := new_both k b c
  have HN := Lib.hid hn
  have HL := Lib.hid hl
  have HLW := Lib.hid hw
  have HH := Lib.hid hh
  have HE := Lib.hid hr
  have HSZ := Lib.hid (And.intro hs1 hs2)
  have t3 : ¬ (100 : Int) < (n : Int) := by omega
  have bS := AtM.new w k b c 23
  obtain ⟨W1, hW1⟩ : ∃ W1, w.alloc (.cells #[.int .i64 k, .int .i64 b, .int .i64 c] 23) = W1 := ⟨_, rfl⟩
  rw [hW1] at bS
  have b1 : Below w.heap.size w W1 := hW1 ▸ alloc_below w _
  replace bS := Lib.hid bS
  have HB := Lib.hid b1
  have HWB : Hid (w.heap.size ≤ W1.heap.size) := b1.size
  clear hl hw hn hh hr hs1 hs2 b1
  go_enter Try.func3, Try.ntmps3
  go_upto_region 1 with fail
  clear hW1
  obtain ⟨_, s0, s1, s2⟩ := bS.out
  simp only [Nat.zero_add] at s1 s2
  go_wp2_with fail
  refine (hN _).mono ?_
  rintro e W2 ⟨ac, nc, cc, am, nm, cm, rfl, c2, hH⟩
  clear s0 s1 s2 hN t3
  have bS2 := bS.out.below c2 bS.out.lt
  replace HB := Lib.hid (HB.out.trans (c2.mono HB.out.size))
  clear c2 bS
  go_upto_region 4 with fail
  have bH := VarH.new W2 d.k d.b d.c (.slice ac nc cc) (.slice am nm cm) 29
  have c3 := alloc_below W2 (.cells #[.int .i64 d.k, .int .i64 d.b, .int .i64 d.c, .slice ac nc cc, .slice am nm cm] 29)
  obtain ⟨W3, hW3⟩ : ∃ W3, W2.alloc (.cells #[.int .i64 d.k, .int .i64 d.b, .int .i64 d.c, .slice ac nc cc, .slice am nm cm] 29) = W3 := ⟨_, rfl⟩
  rw [hW3] at bH c3 ⊢
  have hold := hH W3 c3 bH
  have hv3 := bH.lt
  have bS3 := bS2.below c3 bS2.lt
  replace HB := Lib.hid (HB.out.trans (c3.mono HB.out.size))
  obtain ⟨v, hv⟩ : ∃ v, W2.heap.size = v := ⟨_, rfl⟩
  rw [hv] at hold hv3 ⊢
  obtain ⟨B, hB⟩ : ∃ B, W1.heap.size = B := ⟨_, rfl⟩
  rw [hB] at hold
  rw [hB] at HWB
  have HBB := HWB
  clear HWB
  replace hold := Lib.hid hold
  clear hH bH c3 hW3 hv hB bS2
  obtain ⟨_, s0, s1, s2⟩ := bS3
  simp only [Nat.zero_add] at s1 s2
  go_wp2_with fail
  refine (hR _).mono ?_
  rintro e W4 ⟨ac, nc, cc, am, nm, cm, rfl, c4, hRd, hZ, hO⟩
  clear s0 s1 s2 hR
  replace hold := Lib.hid (hold.out.below c4)
  replace HB := Lib.hid (HB.out.trans (c4.mono HB.out.size))
  have hv4 : v < W4.heap.size := Nat.lt_of_lt_of_le hv3 c4.size
  have HVV : Hid (w.heap.size ≤ W4.heap.size) := HB.out.size
  clear c4
  go_upto_region 5 with fail
  have bW := VarH.new W4 d.k d.b d.c (.slice ac nc cc) (.slice am nm cm) 29
  have c5 := alloc_below W4 (.cells #[.int .i64 d.k, .int .i64 d.b, .int .i64 d.c, .slice ac nc cc, .slice am nm cm] 29)
  obtain ⟨W5, hW5⟩ : ∃ W5, W4.alloc (.cells #[.int .i64 d.k, .int .i64 d.b, .int .i64 d.c, .slice ac nc cc, .slice am nm cm] 29) = W5 := ⟨_, rfl⟩
  rw [hW5] at bW c5 ⊢
  obtain ⟨vW, hvW⟩ : ∃ v, W4.heap.size = v := ⟨_, rfl⟩
  rw [hvW] at bW hO hv4 HVV ⊢
  replace hold := Lib.hid (hold.out.below c5)
  replace HB := Lib.hid (HB.out.trans (c5.mono HB.out.size))
  have want : Hid (Want v vW d ac nc cc am nm cm W5) := ⟨bW, hRd.below c5, hZ, ⟨fun ad e => ⟨by have := (hO.1 ad e).1; omega, by have := (hO.1 ad e).2; omega⟩, fun ad e => ⟨by have := (hO.2 ad e).1; omega, by have := (hO.2 ad e).2; omega⟩⟩⟩
  have HV : Hid (v < vW) := hv4
  clear hRd hZ hO bW c5 hW5 hvW hv4 hv3
  go_cut [55] (fun s wx => s = .bool false ∧ Below W5.heap.size W5 wx)
  case first =>
    obtain ⟨ac', nc', cc', am', nm', cm', hv, hR⟩ := hold.out.read
    obtain ⟨a0, a1, a2, a3, a4⟩ := hv.five
    obtain ⟨b0, b1, b2, b3, b4⟩ := want.out.V.five
    have hsame := same_any d d ac' am' ac am nc' cc' nm' cm' nc cc nm cm W5 hR want.out.R (by have := HSZ.out; have := hR.nc; omega) (by have := HSZ.out; have := hR.nm; omega)
    rw [sameD_refl] at hsame
    by_cases hE : E = 0
    · have hright := fun w => right_any d.k d.b d.c ac' am' nc' cc' nm' cm' w
      rw [hR.right, HE.out hE] at hright
      subst hE
      go_wp2_with fail
      refine hsame.mono ?_
      rintro e W6 ⟨rfl, c6⟩
      clear a0 a1 a2 a3 a4 b0 b1 b2 b3 b4
      obtain ⟨a0, a1, a2, a3, a4⟩ := (hv.below c6 hv.lt).five
      go_wp2_with fail
      refine (hright _).mono ?_
      rintro e W7 ⟨rfl, c7⟩
      clear a0 a1 a2 a3 a4
      go_wp2_with fail
      go_meet
      exact ⟨rfl, c6.trans (c7.mono c6.size)⟩
    · have hE2 : (E == 0) = false := by simpa using hE
      clear hE
      go_wp2_with fail
      refine hsame.mono ?_
      rintro e W6 ⟨rfl, c6⟩
      clear a0 a1 a2 a3 a4 b0 b1 b2 b3 b4
      go_wp2_with fail
      go_meet
      exact ⟨rfl, c6⟩
  case rest =>
    obtain ⟨rfl, c6⟩ := hcut
    have hold0 := Lib.hid (hold.out.below c6)
    have want0 := Lib.hid (want.out.below c6)
    have HB0 := Lib.hid (HB.out.trans (c6.mono HB.out.size))
    clear hold want HB c6 HE
    go_wp2_with fail
    go_loopw [58] (fun iv wr => ∃ (i : Nat) (D : HD) (ac : Option Addr) (nc cc : Nat) (am : Option Addr) (nm cm : Nat), i ≤ n ∧ iv = .int .i64 i ∧ Hid (Hold v B D wr) ∧ Hid (Want v vW D ac nc cc am nm cm wr) ∧ Hid (D.lc.length ≤ 65792 ∧ D.lm.length ≤ 771) ∧ Hid (Below w.heap.size w wr)) (fun iv _ => n - (intOf iv).toNat)
    case atStart => exact ⟨0, d, _, _, _, _, _, _, by omega, rfl, hold0.out, want0.out, HSZ.out, HB0.out⟩
    case round =>
      obtain ⟨i, D, ac, nc, cc, am, nm, cm, hj, rfl, HO, HW, HS, HB⟩ := hrel
      by_cases hlt : i < n
      · have i1 : (i : Int) < (n : Int) := by omega
        obtain ⟨g, off, rfl, hg, cX⟩ := (HH.out.below HB.out).cells (by have := HL.out; omega)
        have x0 := cX (i * 3) (by have := HL.out; omega)
        have x1 := cX (i * 3 + 1) (by have := HL.out; omega)
        have x2 := cX (i * 3 + 2) (by have := HL.out; omega)
        have HWX := Lib.hid (And.intro (HLW.out (i * 3 + 1) (by have := HL.out; omega)) (HLW.out (i * 3 + 2) (by have := HL.out; omega)))
        rw [← Nat.add_assoc] at x1 x2
        have HLT := Lib.hid hlt
        have HNN : Hid (n ≤ 1048576) := by have := HN.out; show _ ≤ _; omega
        generalize l.getD (i * 3) 0 = y0 at *
        generalize l.getD (i * 3 + 1) 0 = y1 at *
        generalize l.getD (i * 3 + 2) 0 = y2 at *
        obtain ⟨D2, hD2⟩ : ∃ D2, addD D y0 y1 y2 = D2 := ⟨_, rfl⟩
        obtain ⟨E2, hE2⟩ : ∃ E2, addE D y0 y1 y2 = E2 := ⟨_, rfl⟩
        have HS2 : Hid (D2.lc.length ≤ 65792 ∧ D2.lm.length ≤ 771) := by
          have := addD_len D y0 y1 y2
          rw [hD2] at this
          rw [show D2.lc.length = D.lc.length from this.1, show D2.lm.length = D.lm.length from this.2]
          exact HS.out
        have HD2 := Lib.hid hD2
        have HE2 := Lib.hid hE2
        clear cX hj hlt hD2 hE2 hg
        go_upto_region 10 with fail
        have bX := AtM.new wr y0 y1 y2 38
        have c1 := alloc_below wr (.cells #[.int .i64 y0, .int .i64 y1, .int .i64 y2] 38)
        obtain ⟨W1, hW1⟩ : ∃ W1, wr.alloc (.cells #[.int .i64 y0, .int .i64 y1, .int .i64 y2] 38) = W1 := ⟨_, rfl⟩
        rw [hW1] at bX c1 ⊢
        have hvX : v ≤ wr.heap.size := by have := HW.out.V.lt; have := HV.out; omega
        obtain ⟨vX, hX⟩ : ∃ v, wr.heap.size = v := ⟨_, rfl⟩
        rw [hX] at bX hvX ⊢
        replace HO := Lib.hid (HO.out.below c1)
        replace HW := Lib.hid (HW.out.below c1)
        replace HB := Lib.hid (HB.out.trans (c1.mono HB.out.size))
        clear c1 hW1 hX x0 x1 x2
        have hA := add_hold v B D y0 y1 y2 HWX.out.1 HWX.out.2 W1 HO.out D2 E2 HD2.out HE2.out
        obtain ⟨lX, s0, s1, s2⟩ := bX
        simp only [Nat.zero_add] at s1 s2
        have bX : Hid (AtM vX 0 y0 y1 y2 W1) := ⟨lX, s0, by simpa using s1, by simpa using s2⟩
        clear lX
        go_wp2_with fail
        refine hA.mono ?_
        rintro e W2 ⟨rfl, hO2, hI⟩
        clear hA s0 s1 s2
        have bX2 := bX.out.keep hI.size (hI.block vX bX.out.lt (.inr hvX))
        replace HW := Lib.hid (HW.out.butI hI HV.out)
        replace HB := Lib.hid (HB.out.trans (hI.below HBB.out HB.out.size))
        replace HO := Lib.hid hO2
        clear hI hO2 bX hvX
        have hA := radd_want D ac am nc cc nm cm y0 y1 y2 W2 HW.out.R HW.out.Z HWX.out.1 HWX.out.2 D2 E2 HD2.out HE2.out
        obtain ⟨_, s0, s1, s2⟩ := bX2
        simp only [Nat.zero_add] at s1 s2
        obtain ⟨b0, b1, b2, b3, b4⟩ := HW.out.V.five
        go_wp2_with fail
        refine hA.mono ?_
        rintro e W3 ⟨ac2, nc2, cc2, am2, nm2, cm2, rfl, hR2, hZ2, hN2, c3⟩
        have HON : Hid (On (fun b => v < b ∧ b ≠ vW) ac2 am2) := hN2 _ (fun b hb => ⟨by have := HV.out; have := HW.out.V.lt; omega, by have := HW.out.V.lt; omega⟩) HW.out.O
        clear hA s0 s1 s2 b0 b1 b2 b3 b4 hN2
        replace HO := Lib.hid (HO.out.below c3)
        have HVW := Lib.hid (HW.out.V.below c3 HW.out.V.lt)
        replace HB := Lib.hid (HB.out.trans (c3.mono HB.out.size))
        clear c3 HW
        go_upto_region 12 with fail
        have bN := VarH.new W3 D2.k D2.b D2.c (.slice ac2 nc2 cc2) (.slice am2 nm2 cm2) 29
        have c4 := alloc_below W3 (.cells #[.int .i64 D2.k, .int .i64 D2.b, .int .i64 D2.c, .slice ac2 nc2 cc2, .slice am2 nm2 cm2] 29)
        obtain ⟨W4, hW4⟩ : ∃ W4, W3.alloc (.cells #[.int .i64 D2.k, .int .i64 D2.b, .int .i64 D2.c, .slice ac2 nc2 cc2, .slice am2 nm2 cm2] 29) = W4 := ⟨_, rfl⟩
        rw [hW4] at bN c4 ⊢
        obtain ⟨vN, hvN⟩ : ∃ v, W3.heap.size = v := ⟨_, rfl⟩
        rw [hvN] at bN ⊢
        replace HO := Lib.hid (HO.out.below c4)
        replace HVW := Lib.hid (HVW.out.below c4 HVW.out.lt)
        replace HB := Lib.hid (HB.out.trans (c4.mono HB.out.size))
        replace hR2 := hR2.below c4
        clear c4 hW4 hvN
        obtain ⟨ac3, nc3, cc3, am3, nm3, cm3, hv3, hR3⟩ := HO.out.read
        have hsame := same_any D2 D2 ac3 am3 ac2 am2 nc3 cc3 nm3 cm3 nc2 cc2 nm2 cm2 W4 hR3 hR2 (by have := HS2.out; have := hR3.nc; omega) (by have := HS2.out; have := hR3.nm; omega)
        rw [sameD_refl] at hsame
        obtain ⟨a0, a1, a2, a3, a4⟩ := hv3.five
        obtain ⟨b0, b1, b2, b3, b4⟩ := bN.five
        replace hR2 := Lib.hid hR2
        replace bN := Lib.hid bN
        clear hv3 hR3
        go_wp2_with fail
        refine hsame.mono ?_
        rintro e W5 ⟨rfl, c5⟩
        clear a0 a1 a2 a3 a4 b0 b1 b2 b3 b4 hsame
        replace HO := Lib.hid (HO.out.below c5)
        replace HVW := Lib.hid (HVW.out.below c5 HVW.out.lt)
        replace HB := Lib.hid (HB.out.trans (c5.mono HB.out.size))
        replace hR2 := Lib.hid (hR2.out.below c5)
        obtain ⟨b0, b1, b2, b3, b4⟩ := (bN.out.below c5 bN.out.lt).five
        obtain ⟨r0, r1, r2, r3, r4⟩ := HVW.out.five
        obtain ⟨y0', y1', y2', y3', y4'⟩ := HVW.out.soft
        clear c5 bN
        have HBT := set5_but W5 vW (.int .i64 D2.k) (.int .i64 D2.b) (.int .i64 D2.c) (.slice ac2 nc2 cc2) (.slice am2 nm2 cm2)
        have HWN : Hid (Want v vW D2 ac2 nc2 cc2 am2 nm2 cm2 (set5 W5 vW (.int .i64 D2.k) (.int .i64 D2.b) (.int .i64 D2.c) (.slice ac2 nc2 cc2) (.slice am2 nm2 cm2))) :=
          ⟨HVW.out.set D2.k D2.b D2.c (.slice ac2 nc2 cc2) (.slice am2 nm2 cm2), hR2.out.keepN HON.out HBT.size (fun b hb hN => HBT.block b hb hN.2), hZ2, HON.out⟩
        have HON2 := Lib.hid (HO.out.but HBT HV.out)
        have HBN := Lib.hid (HB.out.trans (HBT.below (by exact HVV.out) HB.out.size))
        have HNM := Lib.hid (next_num HLT.out HNN.out)
        clear HBT
        go_wp2_with fail
        go_roundw
        case rel => exact ⟨i + 1, D2, _, _, _, _, _, _, HLT.out, (by first | exact congrArg (Value.int .i64) HNM.out.1 | exact congrArg (Value.int .i64) (Int.natCast_succ i).symm), HON2.out, HWN.out, HS2.out, HBN.out⟩
        case measure => first | exact HNM.out.2 | (have := HLT.out; simp only [intOf]; omega)
      · obtain rfl : n = i := by omega
        clear hlt hj
        go_wp2_with fail
        refine (fixed_any _).mono ?_
        rintro e W1 ⟨rfl, c1⟩
        go_wp2_with fail
        refine (add_nil _ _ _ _).mono ?_
        rintro e W2 ⟨rfl, rfl⟩
        go_wp2_with fail
        go_ret
        exact ⟨rfl, HB.out.trans (c1.mono HB.out.size)⟩
end Go.Proofs.Ytdpcplhmnpglgaa
