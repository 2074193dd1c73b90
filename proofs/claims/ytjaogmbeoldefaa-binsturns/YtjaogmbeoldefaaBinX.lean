/-
  THE DOCUMENT's Turn: the matrix with a column turned, cell by cell. Condition: at most 2^20 cells and numbers.
-/
import Derived.Test.YtjaogmbeoldefaaBinW
namespace Go.Proofs.Ytjaogmbeoldefaa
open Go.RowKit

theorem mul_nat_wrap {a b n : Nat} (h : a * b ≤ n) (hn : n ≤ 16777216) : wrap64 ((a : Int) * (b : Int)) = ((a * b : Nat) : Int) := by
  rw [← Int.natCast_mul]
  generalize a * b = m at *
  unfold wrap64
  omega
theorem add_nat_wrap {a b m : Nat} (h : a + b = m) (hn : m ≤ 16777216) : wrap64 ((a : Int) + (b : Int)) = (m : Int) := by
  unfold wrap64
  omega
theorem wrap_is (x : Int) : IntKind.i64.wrap x = wrap64 x := by
  simp [IntKind.wrap, IntKind.bits, IntKind.signed, wrap64]
  split <;> omega
set_option maxRecDepth 20000 in
set_option maxHeartbeats 8000000 in
theorem refTurn_ok (r q j n : Nat) (a aP : Option Addr) (c nP cP : Nat) (C p : List Int) (hC : C.length = n) (hn : n ≤ 1048570) (hP : p.length = nP) (hPb : nP ≤ 1048576) (hf : fitB r q n = true) (hj : j < q) (hg : permB p r = true) (w : World) (hw : HoldsE KW w a C) (hp : HoldsE KN w aP p) :
    Calls Try.prog 25 #[mx r q (.slice a n c), .int .i64 (j : Int), .slice aP nP cP] w fun e w' => GotT e w' w.heap.size r q n (turnL C r j p) ∧ Below w.heap.size w w' := by
  obtain ⟨k1, k2, k3⟩ := of_decide_eq_true hf
  have hrq : r * q = n := by
    rw [← Int.natCast_mul] at k3
    omega
  have hqb : q ≤ 16777216 := by omega
  have hrb : r ≤ 16777216 := by omega
  obtain ⟨hP0, hperm⟩ := permB_is hg
  obtain rfl : nP = r := by omega
  have HCHK := Lib.hid hperm.chk
  obtain ⟨D, HD⟩ : ∃ D, Hid (turnL C nP j p = D) := ⟨_, rfl⟩
  rw [HD.out]
  have HDL : Hid (D.length = n) := by show _ = _; rw [← HD.out, turnL_len]; exact hC
  have HB1 := lay3_below w nP q (.slice a n c)
  have HM1 := lay3_m w nP q (.slice a n c)
  have HB2 := lay3_below (lay3 w nP q (.slice a n c)) 0 0 (.slice none 0 0)
  have HM2 := lay3_m (lay3 w nP q (.slice a n c)) 0 0 (.slice none 0 0)
  have hs1 := lay3_size w nP q (.slice a n c)
  have HM := HM1.on HB2
  have HB := HB1.trans (HB2.mono HB1.size)
  rw [hs1] at HM2
  clear HB1 HM1 HB2 hs1
  unfold mx at *
  go_enter Try.func25, Try.ntmps25
  go_wp2_with fail
  change Calls _ _ _ (lay3 (lay3 w nP q (.slice a n c)) 0 0 (.slice none 0 0)) _
  generalize lay3 (lay3 w nP q (.slice a n c)) 0 0 (.slice none 0 0) = w0 at *
  obtain ⟨N, hN⟩ : ∃ N, w.heap.size = N := ⟨_, rfl⟩
  have HNN := Lib.hid hN
  have hNw : w.heap.size ≤ N := Nat.le_of_eq hN
  rw [hN] at HM HM2 ⊢
  clear hN
  have c2 := refRightM_any nP q a n c w0
  unfold mx at c2
  rw [hf] at c2
  have hp0 := hp.below HB
  have HB0 := Lib.hid HB
  have HN0 := Lib.hid hNw
  have HPP := Lib.hid (And.intro hP (And.intro hPb (And.intro hC (And.intro hn (And.intro hrq (And.intro hj (And.intro hqb hrb)))))))
  have HW := Lib.hid hw
  have HPW := Lib.hid hp
  have g1 : decide ((j : Int) < 0) = false := decide_eq_false (by omega)
  have g2 : decide ((j : Int) ≥ (q : Int)) = false := decide_eq_false (by omega)
  have g3 : decide (q ≤ j) = false := decide_eq_false (by omega)
  have c3 := fun W h => refPermutes_any aP nP cP p hP hPb nP W h
  rw [hg] at c3
  have HC3 := Lib.hid c3
  clear hf hP hP0 hj HB hNw hPb hC hn hrq hperm hw hp hg k1 k2 k3 hqb hrb c3
  refine c2.mono ?_
  rintro e w1 ⟨rfl, b1⟩
  have A1 := HM.on b1
  have R1 := HM2.on b1
  have HB1 := Lib.hid (HB0.out.trans (b1.mono HB0.out.size))
  have c3 := HC3.out w1 (hp0.below b1)
  clear c2 b1 HM HM2 hp0 HC3
  have m0 := A1.c0
  have m1 := A1.c1
  go_wp2_with fail
  refine c3.mono ?_
  rintro e w2 ⟨rfl, rfl⟩
  clear c3
  have HM1 := A1.on (lay3_below w1 nP q (.slice none 0 0))
  have HR1 := R1.on (lay3_below w1 nP q (.slice none 0 0))
  have HX1 := lay3_m w1 nP q (.slice none 0 0)
  have HBX := HB1.out.trans ((lay3_below w1 nP q (.slice none 0 0)).mono HB1.out.size)
  have hXN := R1.lt
  have hXw := HB1.out.size
  have hsz := lay3_size w1 nP q (.slice none 0 0)
  go_wp2_with fail
  change Code.wp _ _ _ _ (lay3 w1 nP q (.slice none 0 0))
  generalize lay3 w1 nP q (.slice none 0 0) = w3 at *
  obtain ⟨X, hX⟩ : ∃ X, w1.heap.size = X := ⟨_, rfl⟩
  rw [hX] at HX1 hXN hXw hsz ⊢
  have hs3 : X + 1 ≤ w3.heap.size := Nat.le_of_eq hsz.symm
  have HXN := Lib.hid hXN
  have HXW := Lib.hid hXw
  clear hX hsz A1 R1 m0 m1 hXN hXw g1 g2 g3
  go_loopw [9] (fun v wr => ∃ (jj : Nat) (av : Option Addr) (mm cc : Nat), v = .int .i64 (jj : Int) ∧ jj ≤ q ∧ M3 N nP q (.slice a n c) wr ∧ M3 (N + 1) 0 0 (.slice none 0 0) wr ∧ M3 X nP q (.slice av mm cc) wr ∧ Own KW wr (X + 1) (.slice av mm cc) (D.take (jj * nP)) ∧ X + 1 ≤ wr.heap.size ∧ Below w.heap.size w wr) (fun v _ => q - (intOf v).toNat)
  case atStart => exact ⟨0, none, 0, 0, rfl, by omega, HM1, HR1, HX1, by rw [Nat.zero_mul, List.take_zero]; exact Own.nil _ _, hs3, HBX⟩
  case round =>
    obtain ⟨jj, av, mm, cc, rfl, hjj, A0, R0, Y0, own0, hsz0, bel0⟩ := hrel
    clear HM1 HR1 HX1 HBX hs3
    by_cases hlt : jj < q
    · have HJJ := Lib.hid hlt
      have HJU := Lib.hid (up_is hlt HPP.out.2.2.2.2.2.2.1)
      have HJV := Lib.hid (up_less hlt HPP.out.2.2.2.2.2.2.1)
      have e1 := A0.c1
      have i1 : (jj : Int) < (q : Int) := by omega
      have HQN := Lib.hid ((idx_lt (r := nP) (q := q) (n := n) (j := jj) (i := 0) HPP.out.2.2.2.2.1))
      clear hlt hjj
      go_wp2_with fail
      clear e1
      go_loopw [10] (fun v wr => ∃ (i : Nat) (av : Option Addr) (mm cc : Nat), v = .int .i64 (i : Int) ∧ i ≤ nP ∧ M3 N nP q (.slice a n c) wr ∧ M3 (N + 1) 0 0 (.slice none 0 0) wr ∧ M3 X nP q (.slice av mm cc) wr ∧ Own KW wr (X + 1) (.slice av mm cc) (D.take (jj * nP + i)) ∧ X + 1 ≤ wr.heap.size ∧ Below w.heap.size w wr) (fun v _ => nP - (intOf v).toNat)
      case atStart => exact ⟨0, av, mm, cc, rfl, by omega, A0, R0, Y0, own0, hsz0, bel0⟩
      case round =>
        obtain ⟨i, av, mm, cc, rfl, hi, A, R, Y, own, hsz, bel⟩ := hrel
        clear A0 R0 Y0 own0 hsz0 bel0
        by_cases hlt : i < nP
        · have HIL := Lib.hid hlt
          have HIU := Lib.hid (up_is hlt HPP.out.2.2.2.2.2.2.2)
          have HIV := Lib.hid (up_less hlt HPP.out.2.2.2.2.2.2.2)
          have hip : i < p.length := by rw [HPP.out.1]; exact hlt
          have hir : i < nP := hlt
          have hpos := idx_lt HPP.out.2.2.2.2.1 hlt HJJ.out
          obtain ⟨gp, op, rfl, hgp, hrowp⟩ := HPW.out.at hip
          obtain ⟨ga, oa, rfl, hga, hrowa⟩ := HW.out.at (show 0 < C.length by have := HPP.out.2.2.1; omega)
          have hxp := (HCHK.out i hip).1
          obtain ⟨x, HX⟩ : ∃ x : Nat, Hid (p.getD i 0 = (x : Int)) := ⟨(p.getD i 0).toNat, by show _ = _; omega⟩
          rw [HX.out, HPP.out.1] at hxp
          have cp : wr.cell? ⟨gp, op + i, none⟩ = some (.int .i64 (x : Int)) := by rw [← HX.out]; exact (bel.cell (by exact hgp)).trans (hrowp i hip)
          have HTS := Lib.hid (take_step (D := D) (t := jj * nP + i) (by rw [HDL.out]; exact hpos.1))
          have HRM : Hid ((D.take (jj * nP + i)).length + 1 ≤ 1048576) := by
            show _ ≤ _
            have h1 := HDL.out
            have h2 := HPP.out.2.2.2.1
            rw [List.length_take]
            omega
          have HLEN : Hid ([(0 : Int)].length = 1) := rfl
          have HNX1 : Hid (N < X + 1) := by have := HXN.out; show _ < _; omega
          have HNX2 : Hid (N + 1 < X + 1) := by have := HXN.out; show _ < _; omega
          have HNE1 : Hid (N ≠ X) := by have := HXN.out; show _ ≠ _; omega
          have HNE2 : Hid (N + 1 ≠ X) := by have := HXN.out; show _ ≠ _; omega
          have HGX : Hid (ga < X + 1) := by have := HXW.out; show _ < _; omega
          have HNE3 : Hid (ga ≠ X) := by have := HXW.out; show _ ≠ _; omega
          have HWX : Hid (w.heap.size ≤ X + 1) := by have := HXW.out; show _ ≤ _; omega
          have HWX0 : Hid (w.heap.size ≤ X) := HXW
          have hgw : ga < wr.heap.size := Nat.lt_of_lt_of_le hga bel.size
          have i2 : (i : Int) < (nP : Int) := by omega
          have e0 := A.c0
          have HROWA := Lib.hid hrowa
          have HGA := Lib.hid hga
          have HPOS := Lib.hid hpos
          have HXP := Lib.hid hxp
          have HIR := Lib.hid hir
          clear hip hir hpos hrowp hrowa hxp hlt hi hgp hga
          have key : ∃ kx : Nat, Hid (kx < nP) ∧ Hid (if jj = j then p.getD i 0 = (kx : Int) else kx = i) := by
            by_cases e : jj = j
            · exact ⟨x, by have := HXP.out; show _ < _; omega, by show ite _ _ _; rw [if_pos e]; exact HX.out⟩
            · exact ⟨i, HIR, by show ite _ _ _; rw [if_neg e]⟩
          obtain ⟨kx, HKX, HKI⟩ := key
          have HTA := Lib.hid (turn_at (C := C) (p := p) (j := j) (show nP * q = C.length by rw [HPP.out.2.2.1]; exact HPP.out.2.2.2.2.1) HJJ.out HIR.out kx HKI.out)
          have hpx := (idx_lt HPP.out.2.2.2.2.1 HKX.out HJJ.out).1
          obtain ⟨z, HZ⟩ : ∃ z, Hid (C.getD (jj * nP + kx) 0 = z) := ⟨_, rfl⟩
          obtain ⟨m1, hm1⟩ : ∃ m1, jj * nP = m1 := ⟨_, rfl⟩
          have HMW := Lib.hid <| mul_nat_wrap (a := jj) (b := nP) (n := n) (by have := HPOS.out.2; omega) (by have := HPP.out.2.2.2.1; omega)
          obtain ⟨m2, hm2⟩ : ∃ m2, jj * nP + kx = m2 := ⟨_, rfl⟩
          have HAW := Lib.hid <| add_nat_wrap hm2 (by have := HPP.out.2.2.2.1; omega)
          rw [hm1] at HMW HAW
          clear hm1
          have ce0 : wr.cell? ⟨ga, oa + m2, none⟩ = some (.int .u16 z) := by
            rw [← HZ.out, hm2]; exact (bel.cell (by exact HGA.out)).trans (HROWA.out m2 (by have := HPP.out.2.2.1; omega))
          rw [hm2] at hpx
          have j3 : (m2 : Int) < (n : Int) := by omega
          have j4 : (0 : Int) ≤ (m2 : Int) := by omega
          have HST : Hid (D.take (jj * nP + (i + 1)) = D.take (jj * nP + i) ++ [z]) := by
            show _ = _
            rw [← Nat.add_assoc, HTS.out, ← HD.out, HTA.out, HZ.out]
          clear hpx hm2
          have b1 : jj = j → x = kx := fun e => by have := HKI.out; rw [if_pos e] at this; have := HX.out; omega
          have b2 : jj ≠ j → i = kx := fun e => by have := HKI.out; rw [if_neg e] at this; exact this.symm
          have HB1' := Lib.hid b1
          have HB2' := Lib.hid b2
          clear b1 b2 HKI HTA HTS
          by_cases e : jj = j
          · obtain rfl := HB1'.out e
            have g1 : ((jj : Int) == (j : Int)) = true := by rw [e]; simp
            clear e HB1' HB2'
            go_wp2_with fail
            clear cp e0 g1
            have mw : IntKind.i64.wrap ((jj : Int) * (nP : Int)) = (m1 : Int) := (wrap_is _).trans HMW.out
            have aw : IntKind.i64.wrap ((m1 : Int) + (x : Int)) = (m2 : Int) := (wrap_is _).trans HAW.out
            replace A := A.drew
            replace R := R.drew
            replace Y := Y.drew
            replace own := own.drew
            replace bel := bel.drew
            have ce : wr.drew.cell? ⟨ga, oa + m2, none⟩ = some (.int .u16 z) := ce0
            have hsz : X + 1 ≤ wr.drew.heap.size := hsz
            have hgw : ga < wr.drew.heap.size := hgw
            clear ce0
            refine wp_region_held_drew (S := (fun W => W.cell? ⟨N, 0, none⟩ = some (.int .i64 (nP : Int)) ∧ W.cell? ⟨N, 2, none⟩ = some (.slice (some ⟨ga, oa, none⟩) n c) ∧ W.cell? ⟨ga, oa + m2, none⟩ = some (.int .u16 z))) (by kernel_rfl) (by first | exact ⟨AZ.c0, AZ.c2, ceZ⟩ | exact ⟨A.c0, A.c2, ce⟩) (fun hHeld => ?_)
            refine takeQ (i := 0) (v := ?_) rfl (by kernel_rfl) (by kernel_rfl) (by kernel_rfl) (fun _ _ _ h => h) (by rfl) hHeld ?_ ?_
            rotate_left
            · (intro w' hSw; (try dsimp only at hSw); go_simp <;> (with_reducible rfl))
            try simp only [Act.put, List.setIfInBounds_toArray, List.set_cons_zero, List.set_cons_succ]
            refine takeQ (i := 2) (v := ?_) rfl (by kernel_rfl) (by kernel_rfl) (by kernel_rfl) (fun _ _ _ h => h) (by rfl) hHeld ?_ ?_
            rotate_left
            · (intro w' hSw; (try dsimp only at hSw); go_simp <;> (with_reducible rfl))
            try simp only [Act.put, List.setIfInBounds_toArray, List.set_cons_zero, List.set_cons_succ]
            refine takeQ (i := 3) (v := ?_) rfl (by kernel_rfl) (by kernel_rfl) (by kernel_rfl) (fun _ _ _ h => h) (by rfl) hHeld ?_ ?_
            rotate_left
            · (intro w' hSw; (try dsimp only at hSw); go_simp <;> (with_reducible rfl))
            try simp only [Act.put, List.setIfInBounds_toArray, List.set_cons_zero, List.set_cons_succ]
            refine takeQ (i := 4) (v := ?_) rfl (by kernel_rfl) (by kernel_rfl) (by kernel_rfl) (fun _ _ _ h => h) (by rfl) hHeld ?_ ?_
            rotate_left
            · (intro w' hSw; (try dsimp only at hSw); go_simp <;> (with_reducible rfl))
            try simp only [Act.put, List.setIfInBounds_toArray, List.set_cons_zero, List.set_cons_succ]
            refine takeQ (i := 5) (v := ?_) rfl (by kernel_rfl) (by kernel_rfl) (by kernel_rfl) (fun _ _ _ h => h) (by rfl) hHeld ?_ ?_
            rotate_left
            · (intro w' hSw; (try dsimp only at hSw); go_simp <;> (with_reducible rfl))
            try simp only [Act.put, List.setIfInBounds_toArray, List.set_cons_zero, List.set_cons_succ]
            refine takeQ (i := 6) (v := ?_) rfl (by kernel_rfl) (by kernel_rfl) (by kernel_rfl) (fun _ _ _ h => h) (by rfl) hHeld ?_ ?_
            rotate_left
            · (intro w' hSw; (try dsimp only at hSw); go_simp <;> (with_reducible rfl))
            try simp only [Act.put, List.setIfInBounds_toArray, List.set_cons_zero, List.set_cons_succ]
            refine takeQ (i := 7) (v := ?_) rfl (by kernel_rfl) (by kernel_rfl) (by kernel_rfl) (fun _ _ _ h => h) (by rfl) hHeld ?_ ?_
            rotate_left
            · (intro w' hSw; (try dsimp only at hSw); go_simp <;> (with_reducible rfl))
            try simp only [Act.put, List.setIfInBounds_toArray, List.set_cons_zero, List.set_cons_succ]
            refine takeQ (i := 8) (v := ?_) rfl (by kernel_rfl) (by kernel_rfl) (by kernel_rfl) (fun _ _ _ h => h) (by rfl) hHeld ?_ ?_
            rotate_left
            · (intro w' hSw; (try dsimp only at hSw); go_simp <;> (with_reducible rfl))
            try simp only [Act.put, List.setIfInBounds_toArray, List.set_cons_zero, List.set_cons_succ]
            refine takeQ (i := 9) (v := ?_) rfl (by kernel_rfl) (by kernel_rfl) (by kernel_rfl) (fun _ _ _ h => h) (by rfl) hHeld ?_ ?_
            rotate_left
            · (intro w' hSw; (try dsimp only at hSw); go_simp <;> (with_reducible rfl))
            try simp only [Act.put, List.setIfInBounds_toArray, List.set_cons_zero, List.set_cons_succ]
            refine takeQ (i := 10) (v := ?_) rfl (by kernel_rfl) (by kernel_rfl) (by kernel_rfl) (fun _ _ _ h => h) (by rfl) hHeld ?_ ?_
            rotate_left
            · (intro w' hSw; (try dsimp only at hSw); go_simp <;> (with_reducible rfl))
            try simp only [Act.put, List.setIfInBounds_toArray, List.set_cons_zero, List.set_cons_succ]
            refine takeQ (i := 11) (v := ?_) rfl (by kernel_rfl) (by kernel_rfl) (by kernel_rfl) (fun _ _ _ h => h) (by rfl) hHeld ?_ ?_
            rotate_left
            · (intro w' hSw; (try dsimp only at hSw); go_simp <;> (with_reducible rfl))
            try simp only [Act.put, List.setIfInBounds_toArray, List.set_cons_zero, List.set_cons_succ]
            refine bothL (i := 1) (j := 12) (by kernel_rfl) rfl rfl (by rfl) (by rfl) (fun K hK => ?_) (fun K hK => ?_)
            · have y9 : (wr.drew).cell? ⟨X, 2, none⟩ = some (.slice av mm cc) := Y.c2
              go_simp
              try dsimp only
              refine hK.out _ _ (by first | exact ⟨AZ.c0, AZ.c2, ceZ⟩ | exact ⟨A.c0, A.c2, ce⟩) (fun hHeld => ?_)
              clear hK K
              try simp only [Act.put, List.setIfInBounds_toArray, List.set_cons_zero, List.set_cons_succ]
              refine callL (i := 12) (by kernel_rfl) rfl (by rfl) (fun K hK => ?_)
              go_simp
              have b4 := (Below.refl wr.drew.heap.size wr.drew).alloc (Nat.le_refl _) (.cells #[.int .u16 z] 59)
              have cam : CameE KW (wr.drew.alloc (.cells #[.int .u16 z] 59)) (some ⟨wr.drew.heap.size, 0, none⟩) 1 [z] := CameE.new (K := KW) _
              replace own := own.alloc (.cells #[.int .u16 z] 59)
              replace ce := (b4.cell (p := ⟨ga, oa + m2, none⟩) hgw).trans ce
              replace A := A.below b4 A.lt
              replace R := R.below b4 R.lt
              replace Y := Y.below b4 Y.lt
              replace bel := bel.trans (b4.mono bel.size)
              have hs4 : X + 1 ≤ (wr.drew.alloc (.cells #[.int .u16 z] 59)).heap.size := Nat.le_trans hsz b4.size
              try dsimp only
              refine hK.out _ _ (by first | exact ⟨AZ.c0, AZ.c2, ceZ⟩ | exact ⟨A.c0, A.c2, ce⟩) (fun hHeld => ?_)
              clear hK K
              try simp only [Act.put, List.setIfInBounds_toArray, List.set_cons_zero, List.set_cons_succ]
              refine callL (i := 13) (by kernel_rfl) rfl (by rfl) (fun K hK => ?_)
              refine app_wp0 (w := wr.drew.alloc (.cells #[.int .u16 z] 59)) okW _ _ rfl (X + 1) hs4 _ _ rfl own (some ⟨wr.drew.heap.size, 0, none⟩) 1 1 [z] rfl cam (by exact HRM.out) ?_
              intro v6 w6 own6 gr6
              have b6 : Below (X + 1) _ w6 := (Below.refl _ _).grown gr6 hs4 (fun g hg => (World.ownsRow.lt own g hg).1)
              obtain ⟨a6, m6, c6, rfl⟩ : ∃ a n c, v6 = .slice a n c := (by obtain ⟨a, c, h, _⟩ := own6.holds; exact ⟨a, _, c, h⟩)
              replace ce := (b6.cell (p := ⟨ga, oa + m2, none⟩) HGX.out).trans ce
              replace A := A.below b6 HNX1.out
              replace R := R.below b6 HNX2.out
              replace Y := Y.below b6 (Nat.lt_succ_self X)
              replace bel := bel.trans (b6.mono HWX.out)
              have hs6 := Nat.le_trans hs4 b6.size
              have q9 := Y.c2
              have q9f := Y.f2
              have bz := But.setCell X 2 w6 (.slice a6 m6 c6)
              have YZ := Y.set2 (.slice a6 m6 c6)
              have AZ := A.but bz HNE1.out
              have RZ := R.but bz HNE2.out
              have ceZ := (bz.cell (p := ⟨ga, oa + m2, none⟩) (Nat.lt_of_lt_of_le HGX.out hs6) HNE3.out).trans ce
              have ownZ := own6.but bz (Nat.lt_succ_self X)
              have belZ := bel.trans (bz.below (B := w.heap.size) HWX0.out bel.size)
              have hsZ := Nat.le_trans hs6 bz.size
              try dsimp only
              refine hK.out _ _ (by first | exact ⟨AZ.c0, AZ.c2, ceZ⟩ | exact ⟨A.c0, A.c2, ce⟩) (fun hHeld => ?_)
              clear hK K
              try simp only [Act.put, List.setIfInBounds_toArray, List.set_cons_zero, List.set_cons_succ]
              refine callL (i := 14) (by kernel_rfl) rfl (by rfl) (fun K hK => ?_)
              go_simp
              try dsimp only
              refine hK.out _ _ (by first | exact ⟨AZ.c0, AZ.c2, ceZ⟩ | exact ⟨A.c0, A.c2, ce⟩) (fun hHeld => ?_)
              clear hK K
              try simp only [Act.put, List.setIfInBounds_toArray, List.set_cons_zero, List.set_cons_succ]
              refine callL (i := 15) (by kernel_rfl) rfl (by rfl) (fun K hK => ?_)
              go_simp
              try dsimp only
              refine hK.out _ _ (by first | exact ⟨AZ.c0, AZ.c2, ceZ⟩ | exact ⟨A.c0, A.c2, ce⟩) (fun hHeld => ?_)
              clear hK K
              try simp only [Act.put, List.setIfInBounds_toArray, List.set_cons_zero, List.set_cons_succ]
              refine wpAnyH_done (by kernel_rfl) ?_ _
              have HO : Hid (Own KW (w6.setCell ⟨X, 2, none⟩ (.slice a6 m6 c6)) (X + 1) (.slice a6 m6 c6) (D.take (jj * nP + (i + 1)))) := (by show Own KW _ _ _ _; rw [HST.out]; exact ownZ)
              have HB := Lib.hid belZ
              clear own6 gr6 b6 A R Y bel bz ownZ belZ ce ceZ cam own q9 q9f b4 hs4 hs6 hHeld
              generalize w6.setCell ⟨X, 2, none⟩ (.slice a6 m6 c6) = w7 at *
              go_wp2_with fail
              go_roundw
              case rel => exact ⟨i + 1, a6, m6, c6, HIU.out, HIL.out, AZ, RZ, YZ, HO.out, hsZ, HB.out⟩
              case measure => exact HIV.out
            · go_simp
              have b4 := (Below.refl wr.drew.heap.size wr.drew).alloc (Nat.le_refl _) (.cells #[.int .u16 z] 59)
              have cam : CameE KW (wr.drew.alloc (.cells #[.int .u16 z] 59)) (some ⟨wr.drew.heap.size, 0, none⟩) 1 [z] := CameE.new (K := KW) _
              replace own := own.alloc (.cells #[.int .u16 z] 59)
              replace ce := (b4.cell (p := ⟨ga, oa + m2, none⟩) hgw).trans ce
              replace A := A.below b4 A.lt
              replace R := R.below b4 R.lt
              replace Y := Y.below b4 Y.lt
              replace bel := bel.trans (b4.mono bel.size)
              have hs4 : X + 1 ≤ (wr.drew.alloc (.cells #[.int .u16 z] 59)).heap.size := Nat.le_trans hsz b4.size
              try dsimp only
              refine hK.out _ _ (by first | exact ⟨AZ.c0, AZ.c2, ceZ⟩ | exact ⟨A.c0, A.c2, ce⟩) (fun hHeld => ?_)
              clear hK K
              try simp only [Act.put, List.setIfInBounds_toArray, List.set_cons_zero, List.set_cons_succ]
              refine callL (i := 1) (by kernel_rfl) rfl (by rfl) (fun K hK => ?_)
              have y9 : (wr.alloc (.cells #[.int .u16 z] 59)).cell? ⟨X, 2, none⟩ = some (.slice av mm cc) := Y.c2
              go_simp
              try dsimp only
              refine hK.out _ _ (by first | exact ⟨AZ.c0, AZ.c2, ceZ⟩ | exact ⟨A.c0, A.c2, ce⟩) (fun hHeld => ?_)
              clear hK K
              try simp only [Act.put, List.setIfInBounds_toArray, List.set_cons_zero, List.set_cons_succ]
              refine callL (i := 13) (by kernel_rfl) rfl (by rfl) (fun K hK => ?_)
              refine app_wp0 (w := wr.drew.alloc (.cells #[.int .u16 z] 59)) okW _ _ rfl (X + 1) hs4 _ _ rfl own (some ⟨wr.drew.heap.size, 0, none⟩) 1 1 [z] rfl cam (by exact HRM.out) ?_
              intro v6 w6 own6 gr6
              have b6 : Below (X + 1) _ w6 := (Below.refl _ _).grown gr6 hs4 (fun g hg => (World.ownsRow.lt own g hg).1)
              obtain ⟨a6, m6, c6, rfl⟩ : ∃ a n c, v6 = .slice a n c := (by obtain ⟨a, c, h, _⟩ := own6.holds; exact ⟨a, _, c, h⟩)
              replace ce := (b6.cell (p := ⟨ga, oa + m2, none⟩) HGX.out).trans ce
              replace A := A.below b6 HNX1.out
              replace R := R.below b6 HNX2.out
              replace Y := Y.below b6 (Nat.lt_succ_self X)
              replace bel := bel.trans (b6.mono HWX.out)
              have hs6 := Nat.le_trans hs4 b6.size
              have q9 := Y.c2
              have q9f := Y.f2
              have bz := But.setCell X 2 w6 (.slice a6 m6 c6)
              have YZ := Y.set2 (.slice a6 m6 c6)
              have AZ := A.but bz HNE1.out
              have RZ := R.but bz HNE2.out
              have ceZ := (bz.cell (p := ⟨ga, oa + m2, none⟩) (Nat.lt_of_lt_of_le HGX.out hs6) HNE3.out).trans ce
              have ownZ := own6.but bz (Nat.lt_succ_self X)
              have belZ := bel.trans (bz.below (B := w.heap.size) HWX0.out bel.size)
              have hsZ := Nat.le_trans hs6 bz.size
              try dsimp only
              refine hK.out _ _ (by first | exact ⟨AZ.c0, AZ.c2, ceZ⟩ | exact ⟨A.c0, A.c2, ce⟩) (fun hHeld => ?_)
              clear hK K
              try simp only [Act.put, List.setIfInBounds_toArray, List.set_cons_zero, List.set_cons_succ]
              refine callL (i := 14) (by kernel_rfl) rfl (by rfl) (fun K hK => ?_)
              go_simp
              try dsimp only
              refine hK.out _ _ (by first | exact ⟨AZ.c0, AZ.c2, ceZ⟩ | exact ⟨A.c0, A.c2, ce⟩) (fun hHeld => ?_)
              clear hK K
              try simp only [Act.put, List.setIfInBounds_toArray, List.set_cons_zero, List.set_cons_succ]
              refine callL (i := 15) (by kernel_rfl) rfl (by rfl) (fun K hK => ?_)
              go_simp
              try dsimp only
              refine hK.out _ _ (by first | exact ⟨AZ.c0, AZ.c2, ceZ⟩ | exact ⟨A.c0, A.c2, ce⟩) (fun hHeld => ?_)
              clear hK K
              try simp only [Act.put, List.setIfInBounds_toArray, List.set_cons_zero, List.set_cons_succ]
              refine wpAnyH_done (by kernel_rfl) ?_ _
              have HO : Hid (Own KW (w6.setCell ⟨X, 2, none⟩ (.slice a6 m6 c6)) (X + 1) (.slice a6 m6 c6) (D.take (jj * nP + (i + 1)))) := (by show Own KW _ _ _ _; rw [HST.out]; exact ownZ)
              have HB := Lib.hid belZ
              clear own6 gr6 b6 A R Y bel bz ownZ belZ ce ceZ cam own q9 q9f b4 hs4 hs6 hHeld
              generalize w6.setCell ⟨X, 2, none⟩ (.slice a6 m6 c6) = w7 at *
              go_wp2_with fail
              go_roundw
              case rel => exact ⟨i + 1, a6, m6, c6, HIU.out, HIL.out, AZ, RZ, YZ, HO.out, hsZ, HB.out⟩
              case measure => exact HIV.out
          · obtain rfl := HB2'.out e
            have g1 : ((jj : Int) == (j : Int)) = false := by simp; omega
            clear e HB1' HB2'
            go_wp2_with fail
            clear cp e0 g1
            have mw : IntKind.i64.wrap ((jj : Int) * (nP : Int)) = (m1 : Int) := (wrap_is _).trans HMW.out
            have aw : IntKind.i64.wrap ((m1 : Int) + (i : Int)) = (m2 : Int) := (wrap_is _).trans HAW.out
            replace A := A.drew
            replace R := R.drew
            replace Y := Y.drew
            replace own := own.drew
            replace bel := bel.drew
            have ce : wr.drew.cell? ⟨ga, oa + m2, none⟩ = some (.int .u16 z) := ce0
            have hsz : X + 1 ≤ wr.drew.heap.size := hsz
            have hgw : ga < wr.drew.heap.size := hgw
            clear ce0
            refine wp_region_held_drew (S := (fun W => W.cell? ⟨N, 0, none⟩ = some (.int .i64 (nP : Int)) ∧ W.cell? ⟨N, 2, none⟩ = some (.slice (some ⟨ga, oa, none⟩) n c) ∧ W.cell? ⟨ga, oa + m2, none⟩ = some (.int .u16 z))) (by kernel_rfl) (by first | exact ⟨AZ.c0, AZ.c2, ceZ⟩ | exact ⟨A.c0, A.c2, ce⟩) (fun hHeld => ?_)
            refine takeQ (i := 0) (v := ?_) rfl (by kernel_rfl) (by kernel_rfl) (by kernel_rfl) (fun _ _ _ h => h) (by rfl) hHeld ?_ ?_
            rotate_left
            · (intro w' hSw; (try dsimp only at hSw); go_simp <;> (with_reducible rfl))
            try simp only [Act.put, List.setIfInBounds_toArray, List.set_cons_zero, List.set_cons_succ]
            refine takeQ (i := 2) (v := ?_) rfl (by kernel_rfl) (by kernel_rfl) (by kernel_rfl) (fun _ _ _ h => h) (by rfl) hHeld ?_ ?_
            rotate_left
            · (intro w' hSw; (try dsimp only at hSw); go_simp <;> (with_reducible rfl))
            try simp only [Act.put, List.setIfInBounds_toArray, List.set_cons_zero, List.set_cons_succ]
            refine takeQ (i := 3) (v := ?_) rfl (by kernel_rfl) (by kernel_rfl) (by kernel_rfl) (fun _ _ _ h => h) (by rfl) hHeld ?_ ?_
            rotate_left
            · (intro w' hSw; (try dsimp only at hSw); go_simp <;> (with_reducible rfl))
            try simp only [Act.put, List.setIfInBounds_toArray, List.set_cons_zero, List.set_cons_succ]
            refine takeQ (i := 4) (v := ?_) rfl (by kernel_rfl) (by kernel_rfl) (by kernel_rfl) (fun _ _ _ h => h) (by rfl) hHeld ?_ ?_
            rotate_left
            · (intro w' hSw; (try dsimp only at hSw); go_simp <;> (with_reducible rfl))
            try simp only [Act.put, List.setIfInBounds_toArray, List.set_cons_zero, List.set_cons_succ]
            refine takeQ (i := 5) (v := ?_) rfl (by kernel_rfl) (by kernel_rfl) (by kernel_rfl) (fun _ _ _ h => h) (by rfl) hHeld ?_ ?_
            rotate_left
            · (intro w' hSw; (try dsimp only at hSw); go_simp <;> (with_reducible rfl))
            try simp only [Act.put, List.setIfInBounds_toArray, List.set_cons_zero, List.set_cons_succ]
            refine takeQ (i := 6) (v := ?_) rfl (by kernel_rfl) (by kernel_rfl) (by kernel_rfl) (fun _ _ _ h => h) (by rfl) hHeld ?_ ?_
            rotate_left
            · (intro w' hSw; (try dsimp only at hSw); go_simp <;> (with_reducible rfl))
            try simp only [Act.put, List.setIfInBounds_toArray, List.set_cons_zero, List.set_cons_succ]
            refine takeQ (i := 7) (v := ?_) rfl (by kernel_rfl) (by kernel_rfl) (by kernel_rfl) (fun _ _ _ h => h) (by rfl) hHeld ?_ ?_
            rotate_left
            · (intro w' hSw; (try dsimp only at hSw); go_simp <;> (with_reducible rfl))
            try simp only [Act.put, List.setIfInBounds_toArray, List.set_cons_zero, List.set_cons_succ]
            refine takeQ (i := 8) (v := ?_) rfl (by kernel_rfl) (by kernel_rfl) (by kernel_rfl) (fun _ _ _ h => h) (by rfl) hHeld ?_ ?_
            rotate_left
            · (intro w' hSw; (try dsimp only at hSw); go_simp <;> (with_reducible rfl))
            try simp only [Act.put, List.setIfInBounds_toArray, List.set_cons_zero, List.set_cons_succ]
            refine takeQ (i := 9) (v := ?_) rfl (by kernel_rfl) (by kernel_rfl) (by kernel_rfl) (fun _ _ _ h => h) (by rfl) hHeld ?_ ?_
            rotate_left
            · (intro w' hSw; (try dsimp only at hSw); go_simp <;> (with_reducible rfl))
            try simp only [Act.put, List.setIfInBounds_toArray, List.set_cons_zero, List.set_cons_succ]
            refine takeQ (i := 10) (v := ?_) rfl (by kernel_rfl) (by kernel_rfl) (by kernel_rfl) (fun _ _ _ h => h) (by rfl) hHeld ?_ ?_
            rotate_left
            · (intro w' hSw; (try dsimp only at hSw); go_simp <;> (with_reducible rfl))
            try simp only [Act.put, List.setIfInBounds_toArray, List.set_cons_zero, List.set_cons_succ]
            refine takeQ (i := 11) (v := ?_) rfl (by kernel_rfl) (by kernel_rfl) (by kernel_rfl) (fun _ _ _ h => h) (by rfl) hHeld ?_ ?_
            rotate_left
            · (intro w' hSw; (try dsimp only at hSw); go_simp <;> (with_reducible rfl))
            try simp only [Act.put, List.setIfInBounds_toArray, List.set_cons_zero, List.set_cons_succ]
            refine bothL (i := 1) (j := 12) (by kernel_rfl) rfl rfl (by rfl) (by rfl) (fun K hK => ?_) (fun K hK => ?_)
            · have y9 : (wr.drew).cell? ⟨X, 2, none⟩ = some (.slice av mm cc) := Y.c2
              go_simp
              try dsimp only
              refine hK.out _ _ (by first | exact ⟨AZ.c0, AZ.c2, ceZ⟩ | exact ⟨A.c0, A.c2, ce⟩) (fun hHeld => ?_)
              clear hK K
              try simp only [Act.put, List.setIfInBounds_toArray, List.set_cons_zero, List.set_cons_succ]
              refine callL (i := 12) (by kernel_rfl) rfl (by rfl) (fun K hK => ?_)
              go_simp
              have b4 := (Below.refl wr.drew.heap.size wr.drew).alloc (Nat.le_refl _) (.cells #[.int .u16 z] 59)
              have cam : CameE KW (wr.drew.alloc (.cells #[.int .u16 z] 59)) (some ⟨wr.drew.heap.size, 0, none⟩) 1 [z] := CameE.new (K := KW) _
              replace own := own.alloc (.cells #[.int .u16 z] 59)
              replace ce := (b4.cell (p := ⟨ga, oa + m2, none⟩) hgw).trans ce
              replace A := A.below b4 A.lt
              replace R := R.below b4 R.lt
              replace Y := Y.below b4 Y.lt
              replace bel := bel.trans (b4.mono bel.size)
              have hs4 : X + 1 ≤ (wr.drew.alloc (.cells #[.int .u16 z] 59)).heap.size := Nat.le_trans hsz b4.size
              try dsimp only
              refine hK.out _ _ (by first | exact ⟨AZ.c0, AZ.c2, ceZ⟩ | exact ⟨A.c0, A.c2, ce⟩) (fun hHeld => ?_)
              clear hK K
              try simp only [Act.put, List.setIfInBounds_toArray, List.set_cons_zero, List.set_cons_succ]
              refine callL (i := 13) (by kernel_rfl) rfl (by rfl) (fun K hK => ?_)
              refine app_wp0 (w := wr.drew.alloc (.cells #[.int .u16 z] 59)) okW _ _ rfl (X + 1) hs4 _ _ rfl own (some ⟨wr.drew.heap.size, 0, none⟩) 1 1 [z] rfl cam (by exact HRM.out) ?_
              intro v6 w6 own6 gr6
              have b6 : Below (X + 1) _ w6 := (Below.refl _ _).grown gr6 hs4 (fun g hg => (World.ownsRow.lt own g hg).1)
              obtain ⟨a6, m6, c6, rfl⟩ : ∃ a n c, v6 = .slice a n c := (by obtain ⟨a, c, h, _⟩ := own6.holds; exact ⟨a, _, c, h⟩)
              replace ce := (b6.cell (p := ⟨ga, oa + m2, none⟩) HGX.out).trans ce
              replace A := A.below b6 HNX1.out
              replace R := R.below b6 HNX2.out
              replace Y := Y.below b6 (Nat.lt_succ_self X)
              replace bel := bel.trans (b6.mono HWX.out)
              have hs6 := Nat.le_trans hs4 b6.size
              have q9 := Y.c2
              have q9f := Y.f2
              have bz := But.setCell X 2 w6 (.slice a6 m6 c6)
              have YZ := Y.set2 (.slice a6 m6 c6)
              have AZ := A.but bz HNE1.out
              have RZ := R.but bz HNE2.out
              have ceZ := (bz.cell (p := ⟨ga, oa + m2, none⟩) (Nat.lt_of_lt_of_le HGX.out hs6) HNE3.out).trans ce
              have ownZ := own6.but bz (Nat.lt_succ_self X)
              have belZ := bel.trans (bz.below (B := w.heap.size) HWX0.out bel.size)
              have hsZ := Nat.le_trans hs6 bz.size
              try dsimp only
              refine hK.out _ _ (by first | exact ⟨AZ.c0, AZ.c2, ceZ⟩ | exact ⟨A.c0, A.c2, ce⟩) (fun hHeld => ?_)
              clear hK K
              try simp only [Act.put, List.setIfInBounds_toArray, List.set_cons_zero, List.set_cons_succ]
              refine callL (i := 14) (by kernel_rfl) rfl (by rfl) (fun K hK => ?_)
              go_simp
              try dsimp only
              refine hK.out _ _ (by first | exact ⟨AZ.c0, AZ.c2, ceZ⟩ | exact ⟨A.c0, A.c2, ce⟩) (fun hHeld => ?_)
              clear hK K
              try simp only [Act.put, List.setIfInBounds_toArray, List.set_cons_zero, List.set_cons_succ]
              refine callL (i := 15) (by kernel_rfl) rfl (by rfl) (fun K hK => ?_)
              go_simp
              try dsimp only
              refine hK.out _ _ (by first | exact ⟨AZ.c0, AZ.c2, ceZ⟩ | exact ⟨A.c0, A.c2, ce⟩) (fun hHeld => ?_)
              clear hK K
              try simp only [Act.put, List.setIfInBounds_toArray, List.set_cons_zero, List.set_cons_succ]
              refine wpAnyH_done (by kernel_rfl) ?_ _
              have HO : Hid (Own KW (w6.setCell ⟨X, 2, none⟩ (.slice a6 m6 c6)) (X + 1) (.slice a6 m6 c6) (D.take (jj * nP + (i + 1)))) := (by show Own KW _ _ _ _; rw [HST.out]; exact ownZ)
              have HB := Lib.hid belZ
              clear own6 gr6 b6 A R Y bel bz ownZ belZ ce ceZ cam own q9 q9f b4 hs4 hs6 hHeld
              generalize w6.setCell ⟨X, 2, none⟩ (.slice a6 m6 c6) = w7 at *
              go_wp2_with fail
              go_roundw
              case rel => exact ⟨i + 1, a6, m6, c6, HIU.out, HIL.out, AZ, RZ, YZ, HO.out, hsZ, HB.out⟩
              case measure => exact HIV.out
            · go_simp
              have b4 := (Below.refl wr.drew.heap.size wr.drew).alloc (Nat.le_refl _) (.cells #[.int .u16 z] 59)
              have cam : CameE KW (wr.drew.alloc (.cells #[.int .u16 z] 59)) (some ⟨wr.drew.heap.size, 0, none⟩) 1 [z] := CameE.new (K := KW) _
              replace own := own.alloc (.cells #[.int .u16 z] 59)
              replace ce := (b4.cell (p := ⟨ga, oa + m2, none⟩) hgw).trans ce
              replace A := A.below b4 A.lt
              replace R := R.below b4 R.lt
              replace Y := Y.below b4 Y.lt
              replace bel := bel.trans (b4.mono bel.size)
              have hs4 : X + 1 ≤ (wr.drew.alloc (.cells #[.int .u16 z] 59)).heap.size := Nat.le_trans hsz b4.size
              try dsimp only
              refine hK.out _ _ (by first | exact ⟨AZ.c0, AZ.c2, ceZ⟩ | exact ⟨A.c0, A.c2, ce⟩) (fun hHeld => ?_)
              clear hK K
              try simp only [Act.put, List.setIfInBounds_toArray, List.set_cons_zero, List.set_cons_succ]
              refine callL (i := 1) (by kernel_rfl) rfl (by rfl) (fun K hK => ?_)
              have y9 : (wr.alloc (.cells #[.int .u16 z] 59)).cell? ⟨X, 2, none⟩ = some (.slice av mm cc) := Y.c2
              go_simp
              try dsimp only
              refine hK.out _ _ (by first | exact ⟨AZ.c0, AZ.c2, ceZ⟩ | exact ⟨A.c0, A.c2, ce⟩) (fun hHeld => ?_)
              clear hK K
              try simp only [Act.put, List.setIfInBounds_toArray, List.set_cons_zero, List.set_cons_succ]
              refine callL (i := 13) (by kernel_rfl) rfl (by rfl) (fun K hK => ?_)
              refine app_wp0 (w := wr.drew.alloc (.cells #[.int .u16 z] 59)) okW _ _ rfl (X + 1) hs4 _ _ rfl own (some ⟨wr.drew.heap.size, 0, none⟩) 1 1 [z] rfl cam (by exact HRM.out) ?_
              intro v6 w6 own6 gr6
              have b6 : Below (X + 1) _ w6 := (Below.refl _ _).grown gr6 hs4 (fun g hg => (World.ownsRow.lt own g hg).1)
              obtain ⟨a6, m6, c6, rfl⟩ : ∃ a n c, v6 = .slice a n c := (by obtain ⟨a, c, h, _⟩ := own6.holds; exact ⟨a, _, c, h⟩)
              replace ce := (b6.cell (p := ⟨ga, oa + m2, none⟩) HGX.out).trans ce
              replace A := A.below b6 HNX1.out
              replace R := R.below b6 HNX2.out
              replace Y := Y.below b6 (Nat.lt_succ_self X)
              replace bel := bel.trans (b6.mono HWX.out)
              have hs6 := Nat.le_trans hs4 b6.size
              have q9 := Y.c2
              have q9f := Y.f2
              have bz := But.setCell X 2 w6 (.slice a6 m6 c6)
              have YZ := Y.set2 (.slice a6 m6 c6)
              have AZ := A.but bz HNE1.out
              have RZ := R.but bz HNE2.out
              have ceZ := (bz.cell (p := ⟨ga, oa + m2, none⟩) (Nat.lt_of_lt_of_le HGX.out hs6) HNE3.out).trans ce
              have ownZ := own6.but bz (Nat.lt_succ_self X)
              have belZ := bel.trans (bz.below (B := w.heap.size) HWX0.out bel.size)
              have hsZ := Nat.le_trans hs6 bz.size
              try dsimp only
              refine hK.out _ _ (by first | exact ⟨AZ.c0, AZ.c2, ceZ⟩ | exact ⟨A.c0, A.c2, ce⟩) (fun hHeld => ?_)
              clear hK K
              try simp only [Act.put, List.setIfInBounds_toArray, List.set_cons_zero, List.set_cons_succ]
              refine callL (i := 14) (by kernel_rfl) rfl (by rfl) (fun K hK => ?_)
              go_simp
              try dsimp only
              refine hK.out _ _ (by first | exact ⟨AZ.c0, AZ.c2, ceZ⟩ | exact ⟨A.c0, A.c2, ce⟩) (fun hHeld => ?_)
              clear hK K
              try simp only [Act.put, List.setIfInBounds_toArray, List.set_cons_zero, List.set_cons_succ]
              refine callL (i := 15) (by kernel_rfl) rfl (by rfl) (fun K hK => ?_)
              go_simp
              try dsimp only
              refine hK.out _ _ (by first | exact ⟨AZ.c0, AZ.c2, ceZ⟩ | exact ⟨A.c0, A.c2, ce⟩) (fun hHeld => ?_)
              clear hK K
              try simp only [Act.put, List.setIfInBounds_toArray, List.set_cons_zero, List.set_cons_succ]
              refine wpAnyH_done (by kernel_rfl) ?_ _
              have HO : Hid (Own KW (w6.setCell ⟨X, 2, none⟩ (.slice a6 m6 c6)) (X + 1) (.slice a6 m6 c6) (D.take (jj * nP + (i + 1)))) := (by show Own KW _ _ _ _; rw [HST.out]; exact ownZ)
              have HB := Lib.hid belZ
              clear own6 gr6 b6 A R Y bel bz ownZ belZ ce ceZ cam own q9 q9f b4 hs4 hs6 hHeld
              generalize w6.setCell ⟨X, 2, none⟩ (.slice a6 m6 c6) = w7 at *
              go_wp2_with fail
              go_roundw
              case rel => exact ⟨i + 1, a6, m6, c6, HIU.out, HIL.out, AZ, RZ, YZ, HO.out, hsZ, HB.out⟩
              case measure => exact HIV.out
        · obtain rfl : nP = i := by omega
          have HST : Hid (jj * nP + nP = (jj + 1) * nP) := by show _ = _; rw [Nat.add_mul, Nat.one_mul]
          have e0 := A.c0
          clear hlt hi
          go_wp2_with fail
          go_roundw
          case rel => exact ⟨jj + 1, av, mm, cc, HJU.out, HJJ.out, A, R, Y, by rw [← HST.out]; exact own, hsz, bel⟩
          case measure => exact HJV.out
    · obtain rfl : q = jj := by omega
      have e1 := A0.c1
      obtain ⟨_, y0, y1, y2, _, _, _⟩ := Y0
      have HR := Lib.hid R0
      obtain ⟨_, r0, r1, r2, rf0, rf1, rf2⟩ := R0
      have HT : Hid (D.take (q * nP) = D) := by show _ = _; rw [List.take_of_length_le]; rw [HDL.out, Nat.mul_comm]; exact Nat.le_of_eq HPP.out.2.2.2.2.1.symm
      have HO := Lib.hid own0
      have HBE := Lib.hid bel0
      clear hlt hjj A0 own0 bel0
      go_wp2_with fail
      change bodyPost _ _ _ _ _ (put3 wr (N + 1) nP q (.slice av mm cc))
      obtain ⟨k1, k2⟩ := put3_facts HR.out nP q (.slice av mm cc)
      have HB4 := HBE.out.trans (k2.below (by have := HN0.out; omega) HBE.out.size)
      have HO4 := HO.out.but k2 (by have := HXN.out; omega)
      rw [HT.out] at HO4
      obtain ⟨_, j0, j1, j2, _, _, _⟩ := k1
      generalize put3 wr (N + 1) nP q (.slice av mm cc) = w9 at *
      refine bodyPost_ret (v := .tuple #[mx nP q (.slice av mm cc), .int .i64 0]) (by simp [mx, results, Try.results25, go_sem, j0, j1, j2]) rfl ?_
      refine ⟨?_, HB4⟩
      have hdl := HDL.out
      rcases HO4.lst with ⟨h1, h2⟩ | ⟨G, cap, h1, hG, hc, _, hL⟩
      · cases h1
        rw [h2] at hdl
        exact ⟨none, 0, by rw [← hdl]; rfl, by rw [h2]; exact hdl, by rw [← hdl]; exact Nat.le_refl _, fun _ => rfl, .inl h2⟩
      · cases h1
        exact ⟨_, cc, by rw [← hdl], hdl, by rw [← hdl]; exact hc, (fun h => by cases h), .inr ⟨G, rfl, by have := HXW.out; omega, hL⟩⟩
end Go.Proofs.Ytjaogmbeoldefaa
