/-
  BinsBack's walk: a column that is turned by a permutation, and then by the one that undoes it, is as it was. Condition: the numbers are of 64 bits with a sign.
-/
import Derived.Test.YtjaogmbeoldefaaBinY
namespace Go.Proofs.Ytjaogmbeoldefaa
open Go.RowKit

theorem back_may {r q x : Int} {n : Nat} {p : List Int} (h : MayTurn r q x n p) : MayTurn r q x n (backL p) := by
  obtain ⟨h1, h2, h3⟩ := h
  obtain ⟨k1, k2⟩ := of_decide_eq_true h3
  exact ⟨h1, h2, decide_eq_true ⟨by rw [backL_len]; exact k1, backL_perm k2⟩⟩
theorem back_is {r q x : Int} {n : Nat} {C p : List Int} (h : MayTurn r q x n p) (hC : C.length = n) : turnI (turnI C r x p) r x (backL p) = C := by
  have h3 := h.2.2
  obtain ⟨r', q', j, rfl, rfl, rfl, hj, hrq, hpl, hq⟩ := h.nat
  unfold turnI
  rw [Int.toNat_natCast, Int.toNat_natCast]
  refine turn_back (permB_is h3).2 hpl ?_
  have := Nat.mul_le_mul_right r' (show j + 1 ≤ q' by omega)
  rw [Nat.add_mul, Nat.one_mul, Nat.mul_comm q' r', hrq] at this
  omega
theorem back_64 {p : List Int} (h : PermL p) (hl : p.length ≤ 1048576) : In64s (backL p) := by
  intro z hz
  have := (backL_perm h).range hz
  rw [backL_len] at this
  omega

set_option maxHeartbeats 1000000 in
theorem back_great (r q x : Int) (a aP : Option Addr) (n c nP cP : Nat) (h : greatB r q n = true ∨ 200 < nP) (w : World) :
    Calls Try.prog 6 #[mx r q (.slice a n c), .int .i64 x, .slice aP nP cP] w fun e w' => e = .returned (.bool true) ∧ Below w.heap.size w w' := by
  have HB := lay3_below w r q (.slice a n c)
  have cg := great_any r q a n c (lay3 w r q (.slice a n c))
  have HH := Lib.hid h
  unfold mx at *
  clear h
  cases hg : greatB r q n with
  | true =>
    rw [hg] at cg
    clear hg HH
    go_enter Try.func6, Try.ntmps6
    go_wp2_with fail
    refine cg.mono ?_
    rintro e w1 ⟨rfl, b1⟩
    have HB1 := HB.trans (b1.mono HB.size)
    clear cg HB b1
    go_wp2_with fail
    refine (bfixed_any w1).mono ?_
    rintro e w2 ⟨rfl, b2⟩
    have HB2 := Lib.hid (HB1.trans (b2.mono HB1.size))
    clear b2 HB1
    go_wp2_with fail
    go_ret
    exact ⟨rfl, HB2.out⟩
  | false =>
    rw [hg] at cg
    have h2 : (200 : Int) < (nP : Int) := by
      rcases HH.out with h | h
      · rw [hg] at h; cases h
      · omega
    clear hg HH
    go_enter Try.func6, Try.ntmps6
    go_wp2_with fail
    refine cg.mono ?_
    rintro e w1 ⟨rfl, b1⟩
    have HB1 := HB.trans (b1.mono HB.size)
    clear cg HB b1
    go_wp2_with fail
    refine (bfixed_any w1).mono ?_
    rintro e w2 ⟨rfl, b2⟩
    have HB2 := Lib.hid (HB1.trans (b2.mono HB1.size))
    clear b2 HB1
    go_wp2_with fail
    go_ret
    exact ⟨rfl, HB2.out⟩

set_option maxRecDepth 20000 in
set_option maxHeartbeats 4000000 in
theorem back_any (r q x : Int) (a aP : Option Addr) (n c nP cP : Nat) (C p : List Int) (hC : C.length = n) (hcc : n ≤ c) (ha : a = none → c = 0) (hP : p.length = nP) (h64 : In64s p) (h : greatB r q n = false) (hnP : nP ≤ 200) (w : World) (hw : HoldsE KW w a C) (hp : HoldsE KN w aP p) :
    Calls Try.prog 6 #[mx r q (.slice a n c), .int .i64 x, .slice aP nP cP] w fun e w' => e = .returned (.bool true) ∧ Below w.heap.size w w' := by
  have hn : n ≤ 500 := by
    have := of_decide_eq_false h
    omega
  have q0 := MatS.start r q a n c C w hw
  have hp0 := hp.below (lay3_below w r q (.slice a n c))
  have cg := great_any r q a n c (lay3 w r q (.slice a n c))
  rw [h] at cg
  have g200 : ¬ (200 : Int) < (nP : Int) := by omega
  have HCL := Lib.hid hC
  have HNB := Lib.hid hn
  have HPL := Lib.hid (And.intro hP hnP)
  have HTY : Hid (MayTurn r q x n p → ∀ W, HoldsE KW W a C → HoldsE KN W aP p → Calls Try.prog 24 #[mx r q (.slice a n c), .int .i64 x, .slice aP nP cP] W fun e w' => GotT e w' W.heap.size r q n (turnI C r x p) ∧ Below W.heap.size W w') :=
    fun hm W h1 h2 => turnM_yes r q x a aP n c nP cP C p hC (by omega) hP h64 hm hcc ha W h1 h2
  have HTN : Hid (¬ MayTurn r q x n p → ∀ W, HoldsE KN W aP p → Calls Try.prog 24 #[mx r q (.slice a n c), .int .i64 x, .slice aP nP cP] W fun e w' => NoTurn e ∧ Below W.heap.size W w') :=
    fun hm W h2 => turnM_no r q x a aP n c nP cP p hP (by omega) h64 hm W h2
  have HTB : Hid (MayTurn r q x n p → ∀ (at1 : Option Addr) (ctt G : Nat), n ≤ ctt → (at1 = none → ctt = 0) → ∀ W, HoldsE KW W at1 (turnI C r x p) → HoldsE KN W (some ⟨G, 0, none⟩) (backL p) → Calls Try.prog 24 #[mx r q (.slice at1 n ctt), .int .i64 x, .slice (some ⟨G, 0, none⟩) nP nP] W fun e w' => GotT e w' W.heap.size r q n C ∧ Below W.heap.size W w') :=
    fun hm at1 ctt G h1 h2 W h3 h4 => by
      have := turnM_yes r q x at1 (some ⟨G, 0, none⟩) n ctt nP nP (turnI C r x p) (backL p) (by rw [turnI_len]; exact hC) (by omega) (by rw [backL_len]; exact hP) (back_64 (of_decide_eq_true hm.2.2).2 (by omega)) (back_may hm) h1 h2 W h3 h4
      rw [back_is hm hC] at this
      exact this
  have HRI : Hid (∀ W, Calls Try.prog 23 #[mx r q (.slice a n c)] W fun x w' => x = .returned (.bool (fitB r q n)) ∧ Below W.heap.size W w') := fun W => refRightM_any r q a n c W
  have HPM : Hid (∀ W, HoldsE KN W aP p → Calls Try.prog 26 #[.slice aP nP cP, .int .i64 r] W fun x w' => x = .returned (.bool (permB p r)) ∧ W = w') := fun W h => refPermutes_any aP nP cP p hP (by omega) r W h
  unfold mx at *
  clear hC hcc ha hP h64 h hnP hw hp hn
  go_enter Try.func6, Try.ntmps6
  go_wp2_with fail
  change Calls _ _ _ (lay3 w r q (.slice a n c)) _
  generalize lay3 w r q (.slice a n c) = w0 at *
  obtain ⟨N, hN⟩ : ∃ N, w.heap.size = N := ⟨_, rfl⟩
  have HNN := Lib.hid hN
  rw [hN] at q0 ⊢
  clear hN
  refine cg.mono ?_
  rintro e w1 ⟨rfl, b1⟩
  have q1 := q0.below b1
  have hp1 := hp0.below b1
  obtain ⟨e0, e1, e2⟩ := q1.cells
  clear cg q0 b1 hp0
  go_wp2_with fail
  by_cases hm : MayTurn r q x n p
  · have HMM := Lib.hid hm
    have d1 := HTY.out hm w1 q1.ho hp1
    clear hm
    refine d1.mono ?_
    rintro e w3 ⟨⟨at1, ctt, rfl, hlt, hct, hat, hT⟩, b3⟩
    have bl3 := (Below.refl w1.heap.size w1).trans b3
    have hT3 := holds_got hT
    have bA := lay3_below w3 r q (.slice at1 n ctt)
    have MA := lay3_m w3 r q (.slice at1 n ctt)
    have bl4 := bl3.trans (bA.mono bl3.size)
    have hT4 := hT3.below bA
    have HCT := Lib.hid (And.intro hct hat)
    obtain ⟨X8, hX8⟩ : ∃ X8, w3.heap.size = X8 := ⟨_, rfl⟩
    rw [hX8] at MA
    clear d1 b3 bl3 hT hT3 bA hlt hct hat e0 e1 e2
    unfold mx
    have hmk := run_madeE okN (lay3 w3 r q (.slice at1 n ctt)) nP (by have := HPL.out.2; omega)
    have HL := Lib.hid (Lst.made (K := KN) (lay3 w3 r q (.slice at1 n ctt)) (List.replicate nP 0))
    have b5 := (Below.refl (lay3 w3 r q (.slice at1 n ctt)).heap.size (lay3 w3 r q (.slice at1 n ctt))).alloc (Nat.le_refl _) (.cells ((List.replicate nP (0 : Int)).map KN.enc).toArray KN.e)
    have hsz := lay3_size w3 r q (.slice at1 n ctt)
    have hmk : (Instr.makeSlice 54 (.int .i64 (nP : Int)) (.int .i64 (nP : Int))).run Try.prog (w3.alloc (.cells #[.int .i64 r, .int .i64 q, .slice at1 n ctt] 42)) = .ok (.slice (some ⟨w3.heap.size + 1, 0, none⟩) nP nP) ((w3.alloc (.cells #[.int .i64 r, .int .i64 q, .slice at1 n ctt] 42)).alloc (.cells ((List.replicate nP (0 : Int)).map KN.enc).toArray KN.e)) := by
      rw [← hsz]; exact hmk
    generalize (Obj.cells ((List.replicate nP (0 : Int)).map KN.enc).toArray KN.e) = ob at *
    rw [hX8] at hmk hsz
    go_wp2_with fail
    change Code.wp _ _ _ _ ((lay3 w3 r q (.slice at1 n ctt)).alloc ob)
    generalize lay3 w3 r q (.slice at1 n ctt) = w4 at *
    have hGw : w4.heap.size ≤ X8 + 1 := Nat.le_of_eq hsz
    rw [hsz] at HL
    generalize w4.alloc ob = w5 at *
    obtain ⟨G, hG⟩ : ∃ G, X8 + 1 = G := ⟨_, rfl⟩
    rw [hG] at hGw HL ⊢
    have HGW := Lib.hid hGw
    have q4 := q1.below bl4
    have hp4 := hp1.below bl4
    have HBK : Hid (bk p 0 = List.replicate nP 0) := by show _ = _; unfold bk; rw [HPL.out.1]
    have HCHK := Lib.hid ((of_decide_eq_true HMM.out.2.2).2.chk)
    have HRR := Lib.hid (of_decide_eq_true HMM.out.2.2).1
    clear hmk hX8 hsz hG hGw q1 hp1 bl4
    go_loopw [59] (fun v wr => ∃ k : Nat, v = .int .i64 (k : Int) ∧ k ≤ nP ∧ Lst KN G 0 (bk p k) wr ∧ Below w4.heap.size w4 wr) (fun v _ => nP - (intOf v).toNat)
    case atStart => exact ⟨0, rfl, by omega, by rw [HBK.out]; exact HL.out, b5⟩
    case round =>
      obtain ⟨k, rfl, hk, hL, bel⟩ := hrel
      clear HL b5
      by_cases hlt : k < nP
      · have hkp : k < p.length := by rw [HPL.out.1]; exact hlt
        have hpw := hp4.below bel
        obtain ⟨gp, op, rfl, hgp, hrow⟩ := hpw.at hkp
        have hx := (HCHK.out k (by rw [HPL.out.1]; exact hlt)).1
        obtain ⟨z, HZ⟩ : ∃ z : Nat, Hid (p.getD k 0 = (z : Int)) := ⟨(p.getD k 0).toNat, by show _ = _; omega⟩
        rw [HZ.out, HPL.out.1] at hx
        have cp : wr.cell? ⟨gp, op + k, none⟩ = some (.int .i64 (z : Int)) := by rw [← HZ.out]; exact hrow k hkp
        have hzl : z < (bk p k).length := by rw [bk_len, HPL.out.1]; omega
        have ct := hL.cell z hzl
        have ft := hL.frozen z hzl
        have HST0 := hL.set z (k : Int) hzl
        have hbs : (bk p k).set z (k : Int) = bk p (k + 1) := by
          show _ = (bk p k).set (p.getD k 0).toNat ((k : Nat) : Int)
          rw [HZ.out, Int.toNat_natCast]
        rw [hbs] at HST0
        have HBE := Lib.hid (bel.trans ((But.setCell G (0 + z) wr (.int .i64 (k : Int))).below HGW.out bel.size))
        rw [Nat.zero_add] at ct ft HST0 HBE
        have HST : Hid (Lst KN G 0 (bk p (k + 1)) (wr.setCell ⟨G, z, none⟩ (.int .i64 (k : Int)))) := HST0
        obtain ⟨y, hy⟩ : ∃ y, (bk p k).getD z KN.z = y := ⟨_, rfl⟩
        rw [hy] at ct
        replace ct : wr.cell? ⟨G, z, none⟩ = some (.int .i64 y) := ct
        have i1 : (k : Int) < (nP : Int) := by omega
        have i2 : (z : Int) < (nP : Int) := by omega
        have i3 : (0 : Int) ≤ (z : Int) := by omega
        have g1 : decide ((z : Int) < 0) = false := decide_eq_false (by omega)
        have g2 : decide ((z : Int) ≥ (nP : Int)) = false := decide_eq_false (by omega)
        have g3 : decide (nP ≤ z) = false := decide_eq_false (by omega)
        have HU := Lib.hid (up_is hlt (show nP ≤ 16777216 by have := HPL.out.2; omega))
        have HV := Lib.hid (up_less hlt (show nP ≤ 16777216 by have := HPL.out.2; omega))
        have HU2 : Hid (Value.int .i64 ((k : Int) + 1) = .int .i64 ((k + 1 : Nat) : Int)) := congrArg (Value.int .i64) (show (k : Int) + 1 = ((k + 1 : Nat) : Int) by omega)
        have HV2 : Hid (nP - (intOf (Value.int .i64 ((k : Int) + 1))).toNat < nP - (intOf (Value.int .i64 (k : Int))).toNat) := by
          show _ < _
          simp only [intOf]
          omega
        have HLT := Lib.hid hlt
        have HQ4 := Lib.hid (And.intro q4 (And.intro MA hT4))
        clear hkp hgp hrow hx hzl HST0 hbs hy hL bel hlt hk hpw q4 MA hT4
        go_wp2_with fail
        go_roundw
        case rel => exact ⟨k + 1, (by first | exact HU.out | exact HU2.out), HLT.out, HST.out, HBE.out⟩
        case measure => first | exact HV.out | exact HV2.out
      · obtain rfl : nP = k := by omega
        have HBL : Hid (bk p nP = backL p) := by show _ = _; unfold backL; rw [HPL.out.1]
        rw [HBL.out] at hL
        have hT6 := hT4.below bel
        have hh6 := hL.holds
        have d7 := HTB.out HMM.out at1 ctt G HCT.out.1 HCT.out.2 wr hT6 hh6
        have MA6 := MA.on bel
        have q6 := q4.below bel
        obtain ⟨f0, f1, f2⟩ : wr.cell? ⟨X8, 0, none⟩ = some (.int .i64 r) ∧ wr.cell? ⟨X8, 1, none⟩ = some (.int .i64 q) ∧ wr.cell? ⟨X8, 2, none⟩ = some (.slice at1 n ctt) := ⟨MA6.c0, MA6.c1, MA6.c2⟩
        clear hlt hk hL bel hT6 hh6 MA6 MA hT4 q4 hp4 HTB HTY HTN HRI HPM
        go_wp2_with fail
        refine d7.mono ?_
        rintro e w7 ⟨⟨a7, c7, rfl, hl7, hc7, ha7, hT7⟩, b7⟩
        have hT7' := holds_got hT7
        have q7 := q6.below b7
        have b8 := lay3_below w7 r q (.slice a7 n c7)
        have M8 := lay3_m w7 r q (.slice a7 n c7)
        have hT8 := hT7'.below b8
        have q8 := q7.below b8
        clear d7 f0 f1 f2 b7 q6 q7 hT7 hT7' b8 hl7 hc7 ha7
        unfold mx
        go_wp2_with fail
        change Calls _ _ _ (lay3 w7 r q (.slice a7 n c7)) _
        obtain ⟨X9, hX9⟩ : ∃ X9, w7.heap.size = X9 := ⟨_, rfl⟩
        rw [hX9] at M8 ⊢
        generalize lay3 w7 r q (.slice a7 n c7) = w8 at *
        clear hX9
        refine (bfixed_any w8).mono ?_
        rintro e w9 ⟨rfl, b9⟩
        have q9 := q8.below b9
        have M9 := M8.on b9
        have hT9 := hT8.below b9
        have hm9 := q9.ho
        have HB9 := Lib.hid q9.bel
        obtain ⟨k0, k1, k2⟩ := q9.cells
        obtain ⟨_, l0, l1, l2, _, _, _⟩ := M9
        clear b9 q8 q9 M8 hT8
        go_wp2_with fail
        refine (sameM_any r q r q a7 a n n c7 c C C HCL.out HCL.out (by have := HNB.out; omega) w9 hT9 hm9).mono ?_
        rintro e wE ⟨rfl, bE⟩
        rw [show decide (SameM r q C r q C) = true from decide_eq_true ⟨rfl, rfl, rfl⟩]
        have HBE := Lib.hid (HB9.out.trans (bE.mono HB9.out.size))
        clear bE k0 k1 k2 l0 l1 l2 hT9 hm9
        go_wp2_with fail
        go_ret
        exact ⟨rfl, HBE.out⟩
  · have d1 := HTN.out hm w1 hp1
    have HR : Hid (fitB r q n = false ∨ fitB r q n = true ∧ (x < 0 ∨ ¬ x < 0 ∧ (x ≥ q ∨ ¬ x ≥ q ∧ permB p r = false))) := by
      show _ ∨ _
      cases hf : fitB r q n with
      | false => exact .inl rfl
      | true =>
        refine .inr ⟨rfl, ?_⟩
        by_cases h1 : x < 0
        · exact .inl h1
        · refine .inr ⟨h1, ?_⟩
          by_cases h2 : x ≥ q
          · exact .inl h2
          · refine .inr ⟨h2, ?_⟩
            cases hg : permB p r with
            | false => rfl
            | true => exact absurd ⟨⟨by omega, by omega⟩, hf, hg⟩ hm
    clear hm
    refine d1.mono ?_
    rintro e w3 ⟨rfl, b3⟩
    have q3 := q1.below b3
    have hp3 := hp1.below b3
    have b4 := lay3_below w3 0 0 (.slice none 0 0)
    have q4 := q3.below b4
    have hp4 := hp3.below b4
    clear d1 q1 hp1 b3 q3 hp3 b4 e0 e1 e2 HTB HTY HTN
    unfold mx
    go_wp2_with fail
    change Calls _ _ _ (lay3 w3 0 0 (.slice none 0 0)) _
    generalize lay3 w3 0 0 (.slice none 0 0) = w4 at *
    refine (bfixed_any w4).mono ?_
    rintro e w5 ⟨rfl, b5⟩
    have q5 := q4.below b5
    have hp5 := hp4.below b5
    obtain ⟨k0, k1, k2⟩ := q5.cells
    have d6 := HRI.out w5
    clear b5 q4 hp4
    rcases HR.out with h1 | ⟨h1, h2⟩
    · rw [h1] at d6
      clear h1 HR
      go_wp2_with fail
      refine d6.mono ?_
      rintro e w6 ⟨rfl, b6⟩
      have HBE := Lib.hid (q5.below b6).bel
      clear b6 d6 q5 hp5 k0 k1 k2
      go_wp2_with fail
      go_ret
      exact ⟨rfl, HBE.out⟩
    · rw [h1] at d6
      have HR2 := Lib.hid h2
      clear h1 HR h2
      go_wp2_with fail
      refine d6.mono ?_
      rintro e w6 ⟨rfl, b6⟩
      have q6 := q5.below b6
      have hp6 := hp5.below b6
      have HBE := Lib.hid q6.bel
      have d7 := HPM.out w6 hp6
      clear b6 d6 q5 hp5 k0 k1 k2
      obtain ⟨k0, k1, k2⟩ := q6.cells
      rcases HR2.out with h1 | ⟨h1, h2 | ⟨h2, h3⟩⟩
      · have g1 : decide (x < 0) = true := decide_eq_true h1
        clear h1 HR2 d7
        go_wp2_with fail
        go_ret
        exact ⟨rfl, HBE.out⟩
      · have g1 : decide (x < 0) = false := decide_eq_false (by omega)
        have g2 : decide (x ≥ q) = true := decide_eq_true h2
        clear h1 h2 HR2 d7
        go_wp2_with fail
        go_ret
        exact ⟨rfl, HBE.out⟩
      · have g1 : decide (x < 0) = false := decide_eq_false (by omega)
        have g2 : decide (x ≥ q) = false := decide_eq_false (by omega)
        rw [h3] at d7
        clear h1 h2 h3 HR2
        go_wp2_with fail
        refine d7.mono ?_
        rintro e w8 ⟨rfl, rfl⟩
        go_wp2_with fail
        go_ret
        exact ⟨rfl, HBE.out⟩
end Go.Proofs.Ytjaogmbeoldefaa
