/-
  bins.Of: the matrix of a dataset by any edges; or why not. Conditions: at most 1000 values, of 64 bits each; rows and columns of 64 bits with a sign; at most 2^20 edges of a column, of 64 bits each.
-/
import Derived.Test.YtjaogmbeoldefaaBinR
import Derived.Test.YtjaogmbeoldefaaBinV
namespace Go.Proofs.Ytjaogmbeoldefaa
open Go.RowKit

theorem cell_any (a : Option Addr) (cap n : Nat) (E : List Nat) (hn : E.length = n) (hb : n ≤ 1048576) (h64 : ∀ e ∈ E, e < 18446744073709551616) (f : Nat) (hf : f < 18446744073709551616) (w : World) (hr : HoldsE KF w a E) :
    Calls Try.prog 36 #[.slice a n cap, .float .f64 f] w fun e w' => e = .returned (.int .u16 ((cellN E f : Nat) : Int)) ∧ w = w' := by
  have C := bin_any a cap n E hn hb h64 f hf w hr
  unfold cellN
  generalize binL E f = x at *
  clear hn hb h64 hf hr
  go_enter Try.func36, Try.ntmps36
  go_wp2_with fail
  refine C.mono ?_
  rintro e w' ⟨rfl, rfl⟩
  go_wp2_with fail
  go_ret
  exact ⟨congrArg (fun y => Ending.returned (Value.int .u16 y)) (show min (x : Int) 65535 = ((min x 65535 : Nat) : Int) by omega), rfl⟩

theorem Dat.on' {N : Nat} {f : Nat → Value} {w w' : World} (h : Dat N f w) (b : Below w.heap.size w w') : Dat N f w' := h.below b h.lt
theorem HdX.grow {G g : Nat} {w w' : World} {h : Hdr} {E : List Nat} (k : HdX G w h E) (b : But G w w') (hg : g = G ∨ g = w.heap.size) : HdX g w' h E := by
  refine ⟨k.1, ?_⟩
  rcases k.2 with k | ⟨g', off, h1, h2, h3, h4⟩
  · exact .inl k
  · exact .inr ⟨g', off, h1, by rcases hg with rfl | rfl; exact h2; omega, Nat.lt_of_lt_of_le h3 b.size, fun j hj => (b.cell h3 h2).trans (h4 j hj)⟩
theorem HdsX.grow {G g : Nat} {w w' : World} {hs : List Hdr} {L : List (List Nat)} (k : HdsX G w hs L) (b : But G w w') (hg : g = G ∨ g = w.heap.size) : HdsX g w' hs L := ⟨k.1, fun j hj => (k.2 j hj).grow b hg⟩
theorem run_made0 {α : Type} {K : Kind α} (ok : K.Ok) (w : World) (n : Nat) (hn : n ≤ 1048576) :
    ∃ cur : Array Value, (Instr.makeSlice K.s (.int .i64 0) (.int .i64 (n : Int))).run Try.prog w = .ok (.slice (some ⟨w.heap.size, 0, none⟩) 0 n) (w.alloc (.cells cur K.e)) ∧ cur.size = n := by
  obtain ⟨i0, hi, hz0, hz1, hz2⟩ := info_parts ok.info
  have hb := ok.bytes
  have hmul : (K.b : Int) * (n : Int) ≤ 281474976710656 := by
    have := Nat.mul_le_mul hb hn
    have e : ((K.b * n : Nat) : Int) ≤ 281474976710656 := by omega
    simpa using e
  have := run_make (P := Try.prog) w K.s K.e i0 (K.enc K.z) ok.under hi hz0 .i64 .i64 0 (n : Int) (by omega) (by omega) (by rw [hz2]; exact hmul) (by omega)
  refine ⟨_, this, ?_⟩
  rw [hz1]
  simp [madeCells]

set_option maxRecDepth 20000 in
set_option maxHeartbeats 2000000 in
theorem ofM_no (k c b t d l p r q : Int) (aV a1 : Option Addr) (nV cV n1 c1 : Nat) (T : Value) (h : (n1 : Int) ≠ q ∨ fitB r q nV = false) (w : World) :
    Calls Try.prog 15 #[ds k c b t d l p r q (.slice aV nV cV) T, .slice a1 n1 c1] w fun e w' => NoTurn e ∧ Below w.heap.size w w' := by
  have D0 := lay_dat w 33 k c b t d l p r q (.slice aV nV cV) T
  have b0 := lay_below w 33 k c b t d l p r q (.slice aV nV cV) T
  have z0 := lay_size w 33 k c b t d l p r q (.slice aV nV cV) T
  have HB1 := lay3_below (lay w 33 k c b t d l p r q (.slice aV nV cV) T) 0 0 (.slice none 0 0)
  have HM1 := lay3_m (lay w 33 k c b t d l p r q (.slice aV nV cV) T) 0 0 (.slice none 0 0)
  rw [z0] at HM1
  have HB := b0.trans (HB1.mono b0.size)
  have c1' := fits_any r q nV (lay3 (lay w 33 k c b t d l p r q (.slice aV nV cV) T) 0 0 (.slice none 0 0))
  clear D0 b0 z0 HB1
  unfold ds
  by_cases h1 : (n1 : Int) = q
  · have h2 : fitB r q nV = false := by rcases h with h | h; exact absurd h1 h; exact h
    rw [h2] at c1'
    have g1 : ((n1 : Int) != q) = false := by simpa using h1
    clear h h2 h1
    go_enter Try.func15, Try.ntmps15
    go_wp2_with fail
    change Calls _ _ _ (lay3 (lay w 33 k c b t d l p r q (.slice aV nV cV) T) 0 0 (.slice none 0 0)) _
    generalize lay3 (lay w 33 k c b t d l p r q (.slice aV nV cV) T) 0 0 (.slice none 0 0) = w1 at *
    obtain ⟨N, hN⟩ : ∃ N, w.heap.size = N := ⟨_, rfl⟩
    have HNN : Hid (w.heap.size ≤ N) := Nat.le_of_eq hN
    rw [hN] at HM1 ⊢
    have HB1 := Lib.hid HB
    have n0' := HM1
    clear hN HB
    obtain ⟨hlt, d0, d1, d2, f0, f1, f2⟩ := HM1
    refine c1'.mono ?_
    rintro e w' ⟨rfl, rfl⟩
    go_wp2_with fail
    change bodyPost _ _ _ _ _ (put3 w1 (N + 1) 0 0 (.slice none 0 0))
    obtain ⟨k1, k2⟩ := put3_facts n0' 0 0 (.slice none 0 0)
    have HB2 := HB1.out.trans (k2.below (by have := HNN.out; omega) HB1.out.size)
    obtain ⟨_, j0, j1, j2, _, _, _⟩ := k1
    generalize put3 w1 (N + 1) 0 0 (.slice none 0 0) = w9 at *
    refine bodyPost_ret (v := .tuple #[mx 0 0 (.slice none 0 0), .int .i64 8]) (by simp [mx, results, Try.results15, go_sem, j0, j1, j2]) rfl ?_
    exact ⟨rfl, HB2⟩
  · have g1 : ((n1 : Int) != q) = true := by simpa using h1
    clear h h1 c1'
    go_enter Try.func15, Try.ntmps15
    go_upto_region 2 with fail
    change Code.wp _ _ _ _ (lay3 (lay w 33 k c b t d l p r q (.slice aV nV cV) T) 0 0 (.slice none 0 0))
    generalize lay3 (lay w 33 k c b t d l p r q (.slice aV nV cV) T) 0 0 (.slice none 0 0) = w1 at *
    obtain ⟨N, hN⟩ : ∃ N, w.heap.size = N := ⟨_, rfl⟩
    have HNN : Hid (w.heap.size ≤ N) := Nat.le_of_eq hN
    rw [hN] at HM1 ⊢
    have HB1 := Lib.hid HB
    have n0' := HM1
    clear hN HB
    obtain ⟨hlt, d0, d1, d2, f0, f1, f2⟩ := HM1
    go_wp2_with fail
    change bodyPost _ _ _ _ _ (put3 w1 (N + 1) 0 0 (.slice none 0 0))
    obtain ⟨k1, k2⟩ := put3_facts n0' 0 0 (.slice none 0 0)
    have HB2 := HB1.out.trans (k2.below (by have := HNN.out; omega) HB1.out.size)
    obtain ⟨_, j0, j1, j2, _, _, _⟩ := k1
    generalize put3 w1 (N + 1) 0 0 (.slice none 0 0) = w9 at *
    refine bodyPost_ret (v := .tuple #[mx 0 0 (.slice none 0 0), .int .i64 8]) (by simp [mx, results, Try.results15, go_sem, j0, j1, j2]) rfl ?_
    exact ⟨rfl, HB2⟩

set_option maxRecDepth 20000 in
set_option maxHeartbeats 4000000 in
theorem ofM_ok (k c b t d l p : Int) (r q : Nat) (aV a1 : Option Addr) (nV cV c1 : Nat) (T : Value) (V : List Nat) (L : List (List Nat)) (hVl : V.length = nV) (hn : nV ≤ 1000) (hrq : r * q = nV) (hq : q ≤ 1000) (hr : r ≤ 16777216) (hc : nV ≤ cV) (ha : aV = none → cV = 0) (hfm : ∀ ad, aV = some ad → ∃ g off, ad = ⟨g, off, none⟩) (h64 : Bits64 V) (hL : L.length = q) (hLb : ∀ E ∈ L, E.length ≤ 1048576 ∧ Bits64 E) (w : World) (hV0 : HoldsE KF w aV V) (hR0 : HoldsR w a1 L) :
    Calls Try.prog 15 #[ds k c b t d l p r q (.slice aV nV cV) T, .slice a1 q c1] w fun e w' => GotT e w' w.heap.size r q nV (cellsL V r L) ∧ Below w.heap.size w w' := by
  have D0 := lay_dat w 33 k c b t d l p r q (.slice aV nV cV) T
  have b0 := lay_below w 33 k c b t d l p r q (.slice aV nV cV) T
  have z0 := lay_size w 33 k c b t d l p r q (.slice aV nV cV) T
  have B1 := lay3_below (lay w 33 k c b t d l p r q (.slice aV nV cV) T) 0 0 (.slice none 0 0)
  have R1 := lay3_m (lay w 33 k c b t d l p r q (.slice aV nV cV) T) 0 0 (.slice none 0 0)
  rw [z0] at R1
  have D1 := D0.below B1 D0.lt
  have HB := b0.trans (B1.mono b0.size)
  have cf := fits_any r q nV (lay3 (lay w 33 k c b t d l p r q (.slice aV nV cV) T) 0 0 (.slice none 0 0))
  rw [fit_nat hrq hr (by omega)] at cf
  have HCOL0 : Hid (∀ j, j < q → ∀ W, HoldsE KF W aV V → Calls Try.prog 31 #[ds k c b t d l p r q (.slice aV nV cV) T, .int .i64 (j : Int)] W fun e w' => (∃ v, e = .returned v ∧ Own KF w' W.heap.size v (colL V r j)) ∧ Below W.heap.size W w') := fun j hj W h => by
    have hr2 : r ≤ 1000 := by
      have := Nat.mul_le_mul_left r (show 1 ≤ q by omega)
      omega
    exact column_ok k c b t d l p r q j aV nV cV T V hVl hn hrq hj hq hr2 hc ha hfm W h
  have HNUM := Lib.hid (And.intro hVl (And.intro hrq (And.intro hq (And.intro hn hL))))
  have H64 := Lib.hid h64
  have HLB := Lib.hid hLb
  have HV0 := Lib.hid hV0
  have HR0 := Lib.hid hR0
  obtain ⟨D, HD⟩ : ∃ D, Hid (cellsL V r L = D) := ⟨_, rfl⟩
  rw [HD.out]
  have HDL : Hid (D.length = nV) := by show _ = _; rw [← HD.out, cellsL_len]; exact hVl
  have g1 : ((q : Int) != (q : Int)) = false := by simp
  unfold ds at *
  clear hVl hn hrq hq hr hc ha hfm h64 hL hLb hV0 hR0 D0 b0 z0 B1
  go_enter Try.func15, Try.ntmps15
  go_wp2_with fail
  change Calls _ _ _ (lay3 (lay w 33 k c b t d l p r q (.slice aV nV cV) T) 0 0 (.slice none 0 0)) _
  generalize lay3 (lay w 33 k c b t d l p r q (.slice aV nV cV) T) 0 0 (.slice none 0 0) = w0 at *
  obtain ⟨N, hN⟩ : ∃ N, w.heap.size = N := ⟨_, rfl⟩
  have HN := Lib.hid hN
  rw [hN] at D1 R1 ⊢
  clear hN
  refine cf.mono ?_
  rintro e w' ⟨rfl, rfl⟩
  have e9 : w0.cell? ⟨N, 9, none⟩ = some (.slice aV nV cV) := D1.c 9 (by decide)
  obtain ⟨cur, hmk, hcur⟩ := run_made0 okW w0 nV (by have := HNUM.out.2.2.2.1; omega)
  have own0 : Own KW (w0.alloc (.cells cur 59)) w0.heap.size (.slice (some ⟨w0.heap.size, 0, none⟩) 0 nV) [] := World.ownsRow_made w0 cur nV (Nat.le_refl _) (by have := HNUM.out.2.2.2.1; unfold maxLen; omega) (by rw [hcur, Nat.mul_one])
  have hmk : (Instr.makeSlice 40 (.int .i64 0) (.int .i64 (nV : Int))).run Try.prog w0 = .ok (.slice (some ⟨w0.heap.size, 0, none⟩) 0 nV) (w0.alloc (.cells cur 59)) := hmk
  have b4 := (Below.refl w0.heap.size w0).alloc (Nat.le_refl _) (.cells cur 59)
  generalize (Obj.cells cur 59) = ob at *
  have D2 := D1.below b4 D1.lt
  have R2 := R1.below b4 R1.lt
  have bel2 := HB.trans (b4.mono HB.size)
  have hNX := R1.lt
  have hXw := HB.size
  have hsX := b4.size
  clear cf D1 R1 HB b4 hcur
  go_wp2_with fail
  obtain ⟨X, hX⟩ : ∃ X, w0.heap.size = X := ⟨_, rfl⟩
  rw [hX] at own0 hNX hXw hsX ⊢
  have HNX := Lib.hid hNX
  have HXW := Lib.hid hXw
  clear hmk e9 hX hNX hXw
  go_loopw [6, 34] (fun s6 s34 wr => ∃ (jj mm cc G : Nat), s34 = .int .i64 (jj : Int) ∧ jj ≤ q ∧ s6 = .slice (some ⟨G, 0, none⟩) mm cc ∧ Own KW wr X (.slice (some ⟨G, 0, none⟩) mm cc) (D.take (jj * r)) ∧ Dat N (dv k c b t d l p r q (.slice aV nV cV) T) wr ∧ M3 (N + 1) 0 0 (.slice none 0 0) wr ∧ X ≤ wr.heap.size ∧ Below w.heap.size w wr) (fun _ v _ => q - (intOf v).toNat)
  case atStart => exact ⟨0, 0, nV, X, rfl, by omega, rfl, by rw [Nat.zero_mul, List.take_zero]; exact own0, D2, R2, hsX, bel2⟩
  case round =>
    obtain ⟨jj, mm, cc, G, rfl, hjj, rfl, own, D3, R3, hs3, bel⟩ := hrel
    clear own0 D2 R2 hsX bel2
    by_cases hlt : jj < q
    · have HJ := Lib.hid hlt
      have HJU := Lib.hid (up_is hlt (show q ≤ 16777216 by have := HNUM.out.2.2.1; omega))
      have HJV := Lib.hid (up_less hlt (show q ≤ 16777216 by have := HNUM.out.2.2.1; omega))
      have hjL : jj < L.length := by rw [HNUM.out.2.2.2.2]; exact hlt
      have hE64 := HLB.out (L.getD jj []) (by rw [List.getD_eq_getElem?_getD, List.getElem?_eq_getElem hjL]; exact List.getElem_mem hjL)
      obtain ⟨ge, oe, ae, ce, rfl, hge, hce, hEE⟩ := HR0.out.at hjL
      have hce3 := (bel.cell (p := ⟨ge, oe + jj, none⟩) hge).trans hce
      have HEE := Lib.hid hEE
      have HE64 := Lib.hid hE64
      have HCOL := HCOL0.out jj hlt wr (HV0.out.below bel)
      have HCLN := Lib.hid (col_len HNUM.out.1 HNUM.out.2.1 hlt)
      have hG3 := (World.ownsRow.lt own G rfl).2
      have HGX := Lib.hid (World.ownsRow.lt own G rfl).1
      obtain ⟨x0, x1, x2, x3, x4, x5, x6, x7, x8, x9, x10⟩ := D3.cells
      have i1 : (jj : Int) < (q : Int) := by omega
      obtain ⟨m3, hm3⟩ : ∃ m3, (L.getD jj []).length = m3 := ⟨_, rfl⟩
      rw [hm3] at hce3
      have HM3 := Lib.hid hm3
      have HLT := Lib.hid hlt
      clear hjL hge hce hEE hE64 hlt hjj hm3
      go_wp2_with fail
      refine HCOL.mono ?_
      rintro e w4 ⟨⟨v, rfl, ov⟩, b4⟩
      obtain ⟨⟨a2, m2, c2⟩, rfl, hx⟩ := hdX_own ov hG3
      have hm2 : m2 = r := hx.1.trans HCLN.out
      subst hm2
      have own4 := own.below b4
      have D4 := D3.on' b4
      have R4 := R3.on b4
      have hs4 := Nat.le_trans hs3 b4.size
      have bel4 := bel.trans (b4.mono bel.size)
      clear x0 x1 x2 x3 x4 x5 x6 x7 x8 x9 x10 ov b4 own D3 R3 hs3 bel hce3 HCOL hG3 HGX
      go_wp2_with fail
      go_loopw [6, 43] (fun s6 s43 wq => ∃ (i mm cc G : Nat), s43 = .int .i64 (i : Int) ∧ i ≤ m2 ∧ s6 = .slice (some ⟨G, 0, none⟩) mm cc ∧ Own KW wq X (.slice (some ⟨G, 0, none⟩) mm cc) (D.take (jj * m2 + i)) ∧ HdX G wq (a2, m2, c2) (colL V m2 jj) ∧ Dat N (dv k c b t d l p m2 q (.slice aV nV cV) T) wq ∧ M3 (N + 1) 0 0 (.slice none 0 0) wq ∧ X ≤ wq.heap.size ∧ Below w.heap.size w wq) (fun _ v _ => m2 - (intOf v).toNat)
      case atStart => exact ⟨0, mm, cc, G, rfl, by omega, rfl, own4, hx, D4, R4, hs4, bel4⟩
      case round =>
        obtain ⟨i, mm, cc, G, rfl, hi, rfl, own, hx, D5, R5, hs5, bel⟩ := hrel
        clear own4 D4 R4 hs4 bel4
        by_cases hlt : i < m2
        · have hpos := idx_lt HNUM.out.2.1 hlt HLT.out
          have HI := Lib.hid hlt
          have hmb : m2 ≤ 16777216 := by have := HNUM.out.2.2.2.1; omega
          have HIU := Lib.hid (up_is hlt hmb)
          have HIV := Lib.hid (up_less hlt hmb)
          have hil : i < (colL V m2 jj).length := by rw [HCLN.out]; exact hlt
          obtain ⟨g2, o2, ha2, hg2, hg2l, hc2⟩ : ∃ g off, a2 = some ⟨g, off, none⟩ ∧ g ≠ G ∧ g < wr.heap.size ∧ ∀ j, j < (colL V m2 jj).length → wr.cell? ⟨g, off + j, none⟩ = some (KF.enc ((colL V m2 jj).getD j KF.z)) := by
            rcases hx.2 with h | h
            · rw [h] at hil; simp at hil
            · exact h
          subst ha2
          obtain ⟨f, HF⟩ : ∃ f, Hid (V.getD (jj * m2 + i) 0 = f) := ⟨_, rfl⟩
          have hfv : (colL V m2 jj).getD i 0 = f := (col_at hlt).trans HF.out
          have cf : wr.cell? ⟨g2, o2 + i, none⟩ = some (.float .f64 f) := by
            rw [hc2 i hil]
            show some (Value.float .f64 ((colL V m2 jj).getD i 0)) = _
            rw [hfv]
          have hf64 : f < 18446744073709551616 := by
            rw [← HF.out]
            exact H64.out.at (by rw [HNUM.out.1]; exact hpos.1)
          have cc1 := fun W (h : HoldsE KF W ae (L.getD jj [])) => cell_any ae ce m3 (L.getD jj []) HM3.out (by rw [← HM3.out]; exact HE64.out.1) HE64.out.2 f hf64 W h
          have cc2 := cc1 wr (HEE.out.below bel)
          obtain ⟨z, HZ⟩ : ∃ z, Hid (cellN (L.getD jj []) f = z) := ⟨_, rfl⟩
          rw [HZ.out] at cc2
          have HST : Hid (D.take (jj * m2 + (i + 1)) = D.take (jj * m2 + i) ++ [(z : Int)]) := by
            show _ = _
            have := cells_step V m2 L (j := jj) (i := i) (by rw [HNUM.out.1]; exact hpos.1) hlt
            rw [HD.out, HF.out, HZ.out] at this
            exact this
          have HRM : Hid ((D.take (jj * m2 + i)).length + [(z : Int)].length ≤ 1048576) := by
            have h1 := HDL.out
            have h2 := HNUM.out.2.2.2.1
            show _ ≤ _
            rw [List.length_take]
            simp
            omega
          have i1 : (i : Int) < (m2 : Int) := by omega
          have hs6 : X ≤ (wr.alloc (.cells #[.int .u16 (z : Int)] 59)).heap.size := by simp; omega
          clear hpos hmb hil hc2 hfv hf64 cc1 hi hlt hg2 hg2l
          go_wp2_with (first
            | (go_at_call 36; refine cc2.mono ?_; rintro e w' ⟨rfl, rfl⟩)
            | (at_builtin; refine app_lies okW rfl _ _ rfl X hs6 _ (D.take (jj * m2 + i)) rfl (own.alloc _) _ 1 1 [(z : Int)] rfl (CameE.new (K := KW) _) HRM.out (by decide) ?_; intro g' cap' w' own' gr' lies' lt'))
          have bA := (Below.refl wr.heap.size wr).alloc (Nat.le_refl _) (.cells #[.int .u16 (z : Int)] 59)
          have hxA := hx.below bA
          have DA := D5.on' bA
          have RA := R5.on bA
          have belA := bel.trans (bA.mono bel.size)
          have bG := But.grown gr'
          have bX : Below X _ w' := (Below.refl X _).grown gr' hs6 (fun g hg => (World.ownsRow.lt (own.alloc (.cells #[.int .u16 (z : Int)] 59)) g hg).1)
          have hx' := hxA.grow bG (by rcases lies' with h | h; exact .inl (Option.some.inj h).symm; exact .inr h)
          have D' := DA.below bX (by have := HNX.out; omega)
          have R' := RA.below bX (by have := HNX.out; omega)
          have bel' := belA.trans (bX.mono HXW.out)
          have hs' := Nat.le_trans hs6 bX.size
          rw [← HST.out] at own'
          have HQ := Lib.hid (And.intro own' (And.intro hx' (And.intro D' (And.intro R' (And.intro hs' bel')))))
          clear own' hx' D' R' hs' bel' bX bG belA RA DA hxA bA own hx D5 R5 bel gr' lies' lt' hs6 cf hs5
          go_roundw
          case rel => exact ⟨i + 1, _, cap', g', HIU.out, HI.out, rfl, (by have h := HQ.out.1; rw [List.length_take] at h; exact h), HQ.out.2.1, HQ.out.2.2.1, HQ.out.2.2.2.1, HQ.out.2.2.2.2.1, HQ.out.2.2.2.2.2⟩
          case measure => exact HIV.out
        · obtain rfl : m2 = i := by omega
          have HST : Hid (jj * m2 + m2 = (jj + 1) * m2) := by show _ = _; rw [Nat.add_mul, Nat.one_mul]
          rw [HST.out] at own
          have HQ := Lib.hid (And.intro own (And.intro D5 (And.intro R5 (And.intro hs5 bel))))
          clear hlt hi own D5 R5 hs5 bel hx
          go_wp2_with fail
          go_roundw
          case rel => exact ⟨jj + 1, mm, cc, G, HJU.out, HJ.out, rfl, HQ.out.1, HQ.out.2.1, HQ.out.2.2.1, HQ.out.2.2.2.1, HQ.out.2.2.2.2⟩
          case measure => exact HJV.out
    · obtain rfl : q = jj := by omega
      have HT : Hid (D.take (q * r) = D) := by show _ = _; rw [List.take_of_length_le]; rw [HDL.out, Nat.mul_comm]; exact Nat.le_of_eq HNUM.out.2.1.symm
      rw [HT.out] at own
      have e7 : wr.cell? ⟨N, 7, none⟩ = some (.int .i64 (r : Int)) := D3.c 7 (by decide)
      have e8 : wr.cell? ⟨N, 8, none⟩ = some (.int .i64 (q : Int)) := D3.c 8 (by decide)
      have HR := Lib.hid R3
      obtain ⟨_, r0, r1, r2, rf0, rf1, rf2⟩ := R3
      have HO := Lib.hid own
      have HBE := Lib.hid bel
      clear hlt hjj D3 own bel
      go_wp2_with fail
      change bodyPost _ _ _ _ _ (put3 wr (N + 1) r q (.slice (some ⟨G, 0, none⟩) mm cc))
      obtain ⟨k1, k2⟩ := put3_facts HR.out r q (.slice (some ⟨G, 0, none⟩) mm cc)
      have HB4 := HBE.out.trans (k2.below (by have := HN.out; omega) HBE.out.size)
      have HO4 := HO.out.but k2 HNX.out
      obtain ⟨_, j0, j1, j2, _, _, _⟩ := k1
      generalize put3 wr (N + 1) r q (.slice (some ⟨G, 0, none⟩) mm cc) = w9 at *
      refine bodyPost_ret (v := .tuple #[mx r q (.slice (some ⟨G, 0, none⟩) mm cc), .int .i64 0]) (by simp [mx, results, Try.results15, go_sem, j0, j1, j2]) rfl ?_
      refine ⟨?_, HB4⟩
      have hdl := HDL.out
      rcases HO4.lst with ⟨h1, h2⟩ | ⟨G', cap, h1, hG, hc, _, hL⟩
      · cases h1
      · cases h1
        exact ⟨_, cc, by rw [← hdl], hdl, by rw [← hdl]; exact hc, (fun h => by cases h), .inr ⟨G, rfl, by have := HXW.out; omega, hL⟩⟩
end Go.Proofs.Ytjaogmbeoldefaa
