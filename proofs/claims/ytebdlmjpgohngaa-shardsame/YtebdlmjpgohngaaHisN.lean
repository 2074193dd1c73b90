/-
  HISTOGRAMS: the document's Same, of any two. No more than 2^20 numbers.
-/
import Derived.Test.YtebdlmjpgohngaaHisL
namespace Go.Proofs.Ytebdlmjpgohngaa
open Go.RowKit

/-- The same histogram? -/
def sameD (a b : HD) : Bool := decide (a.k = b.k ∧ a.b = b.b ∧ a.c = b.c ∧ a.lc = b.lc ∧ a.lm = b.lm)
theorem sameD_refl (a : HD) : sameD a a = true := by simp [sameD]

/-- Two that are looked at. -/
structure Two (a a' : HD) (ac am ac' am' : Option Addr) (nc cc nm cm nc' cc' nm' cm' : Nat) (v v' : Nat) (w : World) : Prop where
  A : VarH v a.k a.b a.c (.slice ac nc cc) (.slice am nm cm) w
  B : VarH v' a'.k a'.b a'.c (.slice ac' nc' cc') (.slice am' nm' cm') w
  r : Reads a ac nc am nm w
  r' : Reads a' ac' nc' am' nm' w
theorem Reads.drewN {d : HD} {ac am : Option Addr} {nc nm : Nat} {w : World} (h : Reads d ac nc am nm w) (n : Nat) : Reads d ac nc am nm (w.drewN n) := ⟨h.nc, h.nm, h.hc, h.hm, h.wc, h.wm⟩
theorem Reads.drew {d : HD} {ac am : Option Addr} {nc nm : Nat} {w : World} (h : Reads d ac nc am nm w) : Reads d ac nc am nm w.drew := ⟨h.nc, h.nm, h.hc, h.hm, h.wc, h.wm⟩
section
variable {a a' : HD} {ac am ac' am' : Option Addr} {nc cc nm cm nc' cc' nm' cm' : Nat} {v v' : Nat} {w w' : World}
theorem Two.drewN (h : Two a a' ac am ac' am' nc cc nm cm nc' cc' nm' cm' v v' w) (n : Nat) : Two a a' ac am ac' am' nc cc nm cm nc' cc' nm' cm' v v' (w.drewN n) := ⟨h.A.drewN n, h.B.drewN n, h.r.drewN n, h.r'.drewN n⟩
theorem Two.below (h : Two a a' ac am ac' am' nc cc nm cm nc' cc' nm' cm' v v' w) (b : Below w.heap.size w w') : Two a a' ac am ac' am' nc cc nm cm nc' cc' nm' cm' v v' w' := ⟨h.A.below b h.A.lt, h.B.below b h.B.lt, h.r.below b, h.r'.below b⟩
end
theorem drawB {B : Nat} {a w : World} (h : Below B a w) (n : Nat) : Below B a (w.drewN n) := ⟨h.os, h.tape, h.output, h.size, h.block⟩

set_option maxHeartbeats 1000000 in
/-- Where all but the numbers is alike: they are gone through. -/
theorem same_walk (a a' : HD) (ac am ac' am' : Option Addr) (nc cc nm cm cc' cm' : Nat) (w : World) (h : Reads a ac nc am nm w) (h' : Reads a' ac' nc am' nm w) (e1 : a.k = a'.k) (e2 : a.b = a'.b) (e3 : a.c = a'.c) (hn1 : nc ≤ 1048576) (hn2 : nm ≤ 1048576) :
    Calls Try.prog 18 #[.agg #[.int .i64 a.k, .int .i64 a.b, .int .i64 a.c, .slice ac nc cc, .slice am nm cm], .agg #[.int .i64 a'.k, .int .i64 a'.b, .int .i64 a'.c, .slice ac' nc cc', .slice am' nm cm']] w fun e w' =>
      e = .returned (.bool (sameD a a')) ∧ Below w.heap.size w w' := by
  have bA := VarH.new w a.k a.b a.c (.slice ac nc cc) (.slice am nm cm) 45
  obtain ⟨W1, hW1⟩ : ∃ W1, w.alloc (.cells #[.int .i64 a.k, .int .i64 a.b, .int .i64 a.c, .slice ac nc cc, .slice am nm cm] 45) = W1 := ⟨_, rfl⟩
  rw [hW1] at bA
  have s1 : W1.heap.size = w.heap.size + 1 := by rw [← hW1]; simp
  have bB := VarH.new W1 a'.k a'.b a'.c (.slice ac' nc cc') (.slice am' nm cm') 45
  obtain ⟨W2, hW2⟩ : ∃ W2, W1.alloc (.cells #[.int .i64 a'.k, .int .i64 a'.b, .int .i64 a'.c, .slice ac' nc cc', .slice am' nm cm'] 45) = W2 := ⟨_, rfl⟩
  rw [hW2, s1] at bB
  have k1 : Below w.heap.size w W1 := hW1 ▸ alloc_below w _
  have k2 : Below W1.heap.size W1 W2 := hW2 ▸ alloc_below W1 _
  have hB : Below w.heap.size w W2 := k1.trans (k2.mono k1.size)
  have hT : Two a a' ac am ac' am' nc cc nm cm nc cc' nm cm' w.heap.size (w.heap.size + 1) W2 := ⟨bA.below k2 bA.lt, bB, h.below hB, h'.below hB⟩
  have HE := Lib.hid (And.intro e1 (And.intro e2 e3))
  have HN1 := Lib.hid hn1
  have HN2 := Lib.hid hn2
  clear bA bB k1 k2 e1 e2 e3 hn1 hn2
  go_enter Try.func18, Try.ntmps18
  go_upto_region 1 with fail
  clear hW1 hW2 s1
  obtain ⟨a0, a1, a2, a3, a4⟩ := hT.A.five
  obtain ⟨b0, b1, b2, b3, b4⟩ := hT.B.five
  have HT := Lib.hid hT
  have HBB := Lib.hid hB
  rw [← HE.out.1] at b0
  rw [← HE.out.2.1] at b1
  rw [← HE.out.2.2] at b2
  clear hT hB
  go_upto_region 3 with fail
  clear a0 a1 a2 a3 a4 b0 b1 b2 b3 b4
  go_wp2_with fail
  go_loopw [5] (fun iv wr => ∃ j : Nat, j ≤ nc ∧ iv = .int .i64 j ∧ Hid (∀ i, i < j → a.lc.getD i 0 = a'.lc.getD i 0) ∧ Hid (Two a a' ac am ac' am' nc cc nm cm nc cc' nm cm' w.heap.size (w.heap.size + 1) wr) ∧ Hid (Below w.heap.size w wr)) (fun iv _ => nc - (intOf iv).toNat)
  case atStart => exact ⟨0, by omega, rfl, fun i h => by omega, HT.out, HBB.out⟩
  case round =>
    obtain ⟨j, hj, rfl, HA, HT, HB⟩ := hrel
    obtain ⟨a0, a1, a2, a3, a4⟩ := HT.out.A.five
    obtain ⟨b0, b1, b2, b3, b4⟩ := HT.out.B.five
    by_cases hlt : j < nc
    · have i1 : (j : Int) < (nc : Int) := by omega
      obtain ⟨g, o, rfl, hg, cX⟩ := HT.out.r.hc.cells (by have := HT.out.r.nc; omega)
      obtain ⟨g', o', rfl, hg', cY⟩ := HT.out.r'.hc.cells (by have := HT.out.r'.nc; omega)
      have c1 := cX j (by have := HT.out.r.nc; omega)
      have c2 := cY j (by have := HT.out.r'.nc; omega)
      have HLT := Lib.hid hlt
      have HXX : Hid (a.lc.getD j 0 = a'.lc.getD j 0 → ∀ i, i < j + 1 → a.lc.getD i 0 = a'.lc.getD i 0) := by
        intro he i hi
        by_cases q : i < j
        · exact HA.out i q
        · obtain rfl : i = j := by omega
          exact he
      have HNN : Hid (a.lc.getD j 0 ≠ a'.lc.getD j 0 → sameD a a' = false) := by
        intro he
        simp only [sameD, decide_eq_false_iff_not]
        rintro ⟨_, _, _, q, _⟩
        rw [q] at he
        exact he rfl
      generalize a.lc.getD j 0 = x at *
      generalize a'.lc.getD j 0 = y at *
      clear cX cY hlt hj hg hg'
      by_cases he : x = y
      · subst he
        have HX2 := Lib.hid (HXX.out rfl)
        clear HXX HNN
        go_wp2_with fail
        go_quiet (fail)
        clear c1 c2
        go_wp2_with fail
        go_roundw
        case rel => exact ⟨j + 1, HLT.out, congrArg (Value.int .i64) (next_num HLT.out HN1.out).1, HX2.out, HT.out.drewN _, drawB HB.out _⟩
        case measure => exact (next_num HLT.out HN1.out).2
      · have HF := Lib.hid (HNN.out he)
        have gb : (x != y) = true := by simpa using he
        clear HXX HNN he
        go_wp2_with fail
        go_quiet (fail)
        clear c1 c2
        go_wp2_with fail
        go_ret
        exact ⟨by rw [HF.out]; rfl, drawB HB.out _⟩
    · obtain rfl : nc = j := by omega
      have HLC : Hid (a.lc = a'.lc) := ext_getD (by rw [HT.out.r.nc, HT.out.r'.nc]) (fun i hi => HA.out i (by rw [HT.out.r.nc] at hi; exact hi))
      clear HA hlt
      go_upto_region 8 with fail
      clear a0 a1 a2 a3 a4 b0 b1 b2 b3 b4
      go_wp2_with fail
      go_loopw [6] (fun iv wr => ∃ j : Nat, j ≤ nm ∧ iv = .int .i64 j ∧ Hid (∀ i, i < j * 3 → a.lm.getD i 0 = a'.lm.getD i 0) ∧ Hid (Two a a' ac am ac' am' nc cc nm cm nc cc' nm cm' w.heap.size (w.heap.size + 1) wr) ∧ Hid (Below w.heap.size w wr)) (fun iv _ => nm - (intOf iv).toNat)
      case atStart => exact ⟨0, by omega, rfl, fun i h => by omega, HT.out, HB.out⟩
      case round =>
        obtain ⟨j, hj, rfl, HA, HT, HB⟩ := hrel
        obtain ⟨a0, a1, a2, a3, a4⟩ := HT.out.A.five
        obtain ⟨b0, b1, b2, b3, b4⟩ := HT.out.B.five
        by_cases hlt : j < nm
        · have i1 : (j : Int) < (nm : Int) := by omega
          obtain ⟨g, o, rfl, hg, cX⟩ := HT.out.r.hm.cells (by have := HT.out.r.nm; omega)
          obtain ⟨g', o', rfl, hg', cY⟩ := HT.out.r'.hm.cells (by have := HT.out.r'.nm; omega)
          have x0 := cX (j * 3) (by have := HT.out.r.nm; omega)
          have x1 := cX (j * 3 + 1) (by have := HT.out.r.nm; omega)
          have x2 := cX (j * 3 + 2) (by have := HT.out.r.nm; omega)
          have y0 := cY (j * 3) (by have := HT.out.r'.nm; omega)
          have y1 := cY (j * 3 + 1) (by have := HT.out.r'.nm; omega)
          have y2 := cY (j * 3 + 2) (by have := HT.out.r'.nm; omega)
          rw [← Nat.add_assoc] at x1 x2 y1 y2
          have HLT := Lib.hid hlt
          have HXX : Hid (a.lm.getD (j * 3) 0 = a'.lm.getD (j * 3) 0 → a.lm.getD (j * 3 + 1) 0 = a'.lm.getD (j * 3 + 1) 0 → a.lm.getD (j * 3 + 2) 0 = a'.lm.getD (j * 3 + 2) 0 → ∀ i, i < (j + 1) * 3 → a.lm.getD i 0 = a'.lm.getD i 0) := by
            intro h0 h1 h2 i hi
            by_cases q : i < j * 3
            · exact HA.out i q
            · have : i = j * 3 ∨ i = j * 3 + 1 ∨ i = j * 3 + 2 := by omega
              rcases this with rfl | rfl | rfl
              · exact h0
              · exact h1
              · exact h2
          have HNN : Hid (∀ i, a.lm.getD i 0 ≠ a'.lm.getD i 0 → sameD a a' = false) := by
            intro i he
            simp only [sameD, decide_eq_false_iff_not]
            rintro ⟨_, _, _, _, q⟩
            rw [q] at he
            exact he rfl
          have N0 := Lib.hid (HNN.out (j * 3))
          have N1 := Lib.hid (HNN.out (j * 3 + 1))
          have N2 := Lib.hid (HNN.out (j * 3 + 2))
          generalize a.lm.getD (j * 3) 0 = u0 at *
          generalize a'.lm.getD (j * 3) 0 = z0 at *
          generalize a.lm.getD (j * 3 + 1) 0 = u1 at *
          generalize a'.lm.getD (j * 3 + 1) 0 = z1 at *
          generalize a.lm.getD (j * 3 + 2) 0 = u2 at *
          generalize a'.lm.getD (j * 3 + 2) 0 = z2 at *
          clear cX cY hlt hj hg hg' HNN
          by_cases e0 : u0 = z0
          · subst e0
            by_cases e1 : u1 = z1
            · subst e1
              by_cases e2 : u2 = z2
              · subst e2
                have HX2 := Lib.hid (HXX.out rfl rfl rfl)
                clear HXX N0 N1 N2
                go_wp2_with fail
                go_quiet (fail)
                clear x0 x1 x2 y0 y1 y2
                go_wp2_with fail
                go_roundw
                case rel => exact ⟨j + 1, HLT.out, congrArg (Value.int .i64) (next_num HLT.out HN2.out).1, HX2.out, HT.out.drewN _, drawB HB.out _⟩
                case measure => exact (next_num HLT.out HN2.out).2
              · have HF := Lib.hid (N2.out e2)
                clear HXX N0 N1 N2
                go_wp2_with fail
                go_quiet (fail)
                clear x0 x1 x2 y0 y1 y2
                go_wp2_with fail
                go_ret
                exact ⟨by rw [HF.out]; rfl, drawB HB.out _⟩
            · have HF := Lib.hid (N1.out e1)
              clear HXX N0 N1 N2
              go_wp2_with fail
              go_quiet (fail)
              clear x0 x1 x2 y0 y1 y2
              go_wp2_with fail
              go_ret
              exact ⟨by rw [HF.out]; rfl, drawB HB.out _⟩
          · have HF := Lib.hid (N0.out e0)
            clear HXX N0 N1 N2
            go_wp2_with fail
            go_quiet (fail)
            clear x0 x1 x2 y0 y1 y2
            go_wp2_with fail
            go_ret
            exact ⟨by rw [HF.out]; rfl, drawB HB.out _⟩
        · have HS : Hid (sameD a a' = true) := by
            have hjn : j = nm := by omega
            have := ext_getD (l := a.lm) (l' := a'.lm) (by rw [HT.out.r.nm, HT.out.r'.nm]) (fun i hi => HA.out i (by rw [HT.out.r.nm] at hi; omega))
            show _ = _
            simp only [sameD, decide_eq_true_eq]
            exact ⟨HE.out.1, HE.out.2.1, HE.out.2.2, HLC.out, this⟩
          obtain rfl : nm = j := by omega
          clear HA hlt
          go_wp2_with fail
          go_ret
          exact ⟨by rw [HS.out]; rfl, HB.out⟩

set_option maxHeartbeats 1000000 in
/-- Where something but the numbers is unlike. -/
theorem unlike_walk (a a' : HD) (ac am ac' am' : Option Addr) (nc cc nm cm nc' cc' nm' cm' : Nat) (w : World) (hd : a.k ≠ a'.k ∨ a.b ≠ a'.b ∨ a.c ≠ a'.c ∨ nc ≠ nc' ∨ nm ≠ nm') :
    Calls Try.prog 18 #[.agg #[.int .i64 a.k, .int .i64 a.b, .int .i64 a.c, .slice ac nc cc, .slice am nm cm], .agg #[.int .i64 a'.k, .int .i64 a'.b, .int .i64 a'.c, .slice ac' nc' cc', .slice am' nm' cm']] w fun e w' =>
      e = .returned (.bool false) ∧ Below w.heap.size w w' := by
  obtain ⟨k, b, c, lc, lm⟩ := a
  obtain ⟨k', b', c', lc', lm'⟩ := a'
  simp only at *
  have HB : Hid (Below w.heap.size w ((w.alloc (.cells #[.int .i64 k, .int .i64 b, .int .i64 c, .slice ac nc cc, .slice am nm cm] 45)).alloc (.cells #[.int .i64 k', .int .i64 b', .int .i64 c', .slice ac' nc' cc', .slice am' nm' cm'] 45))) :=
    ((Below.refl _ w).alloc (Nat.le_refl _) _).alloc (by simp) _
  by_cases e1 : k = k'
  · have g1 : (k != k') = false := by simpa using e1
    by_cases e2 : b = b'
    · have g2 : (b != b') = false := by simpa using e2
      by_cases e3 : c = c'
      · have g3 : (c != c') = false := by simpa using e3
        by_cases e4 : nc = nc'
        · have g4 : ((nc : Int) != (nc' : Int)) = false := by simp; omega
          have g5 : ((nm : Int) != (nm' : Int)) = true := by simp; omega
          clear hd e1 e2 e3 e4
          go_enter Try.func18, Try.ntmps18
          go_wp2_with fail
          go_ret
          exact ⟨rfl, HB.out⟩
        · have g4 : ((nc : Int) != (nc' : Int)) = true := by simp; omega
          clear hd e1 e2 e3 e4
          go_enter Try.func18, Try.ntmps18
          go_wp2_with fail
          go_ret
          exact ⟨rfl, HB.out⟩
      · have g3 : (c != c') = true := by simpa using e3
        clear hd e1 e2 e3
        go_enter Try.func18, Try.ntmps18
        go_wp2_with fail
        go_ret
        exact ⟨rfl, HB.out⟩
    · have g2 : (b != b') = true := by simpa using e2
      clear hd e1 e2
      go_enter Try.func18, Try.ntmps18
      go_wp2_with fail
      go_ret
      exact ⟨rfl, HB.out⟩
  · have g1 : (k != k') = true := by simpa using e1
    clear hd e1
    go_enter Try.func18, Try.ntmps18
    go_wp2_with fail
    go_ret
    exact ⟨rfl, HB.out⟩

/-- The same, of any two. -/
theorem same_any (a a' : HD) (ac am ac' am' : Option Addr) (nc cc nm cm nc' cc' nm' cm' : Nat) (w : World) (h : Reads a ac nc am nm w) (h' : Reads a' ac' nc' am' nm' w) (hn1 : nc ≤ 1048576) (hn2 : nm ≤ 1048576) :
    Calls Try.prog 18 #[.agg #[.int .i64 a.k, .int .i64 a.b, .int .i64 a.c, .slice ac nc cc, .slice am nm cm], .agg #[.int .i64 a'.k, .int .i64 a'.b, .int .i64 a'.c, .slice ac' nc' cc', .slice am' nm' cm']] w fun e w' =>
      e = .returned (.bool (sameD a a')) ∧ Below w.heap.size w w' := by
  by_cases hd : a.k ≠ a'.k ∨ a.b ≠ a'.b ∨ a.c ≠ a'.c ∨ nc ≠ nc' ∨ nm ≠ nm'
  · have : sameD a a' = false := by
      simp only [sameD, decide_eq_false_iff_not]
      rintro ⟨q1, q2, q3, q4, q5⟩
      have r1 := h.nc
      have r2 := h.nm
      rw [q4, h'.nc] at r1
      rw [q5, h'.nm] at r2
      omega
    rw [this]
    exact unlike_walk a a' ac am ac' am' nc cc nm cm nc' cc' nm' cm' w hd
  · obtain rfl : nc = nc' := by omega
    obtain rfl : nm = nm' := by omega
    exact same_walk a a' ac am ac' am' nc cc nm cm cc' cm' w h h' (by omega) (by omega) (by omega) hn1 hn2
end Go.Proofs.Ytebdlmjpgohngaa
