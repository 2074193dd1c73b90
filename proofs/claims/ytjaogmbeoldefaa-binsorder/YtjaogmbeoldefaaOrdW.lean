/-
  BinsOrder's walk: of two rows of a dataset the one whose value stands ahead has no greater bin there; the same value has the same bin. Condition: the values and targets are of 64 bits.
-/
import Derived.Test.YtjaogmbeoldefaaBinQ
namespace Go.Proofs.Ytjaogmbeoldefaa
open Go.RowKit

set_option maxHeartbeats 1000000 in
theorem ord_great (k c b t d l p r q : Int) (aV aT : Option Addr) (nV cV nT cT : Nat) (h : (500 < nV ∨ 200 < nT) ∨ 1000 < q ∨ 1000 < r) (w : World) :
    Calls Try.prog 7 #[ds k c b t d l p r q (.slice aV nV cV) (.slice aT nT cT)] w fun e w' => e = .returned (.bool true) ∧ Below w.heap.size w w' := by
  have HB := lay_below w 27 k c b t d l p r q (.slice aV nV cV) (.slice aT nT cT)
  have D0 := lay_dat w 27 k c b t d l p r q (.slice aV nV cV) (.slice aT nT cT)
  have cg := great9_any k c b t d l p r q aV aT nV cV nT cT (lay w 27 k c b t d l p r q (.slice aV nV cV) (.slice aT nT cT))
  have HH := Lib.hid h
  unfold ds at *
  clear h
  go_enter Try.func7, Try.ntmps7
  go_wp2_with fail
  change Calls _ _ _ (lay w 27 k c b t d l p r q (.slice aV nV cV) (.slice aT nT cT)) _
  generalize lay w 27 k c b t d l p r q (.slice aV nV cV) (.slice aT nT cT) = w0 at *
  by_cases hg : 500 < nV ∨ 200 < nT
  · rw [decide_eq_true hg] at cg
    clear hg HH
    refine cg.mono ?_
    rintro e w1 ⟨rfl, b1⟩
    have HB1 := HB.trans (b1.mono HB.size)
    clear cg HB b1
    go_wp2_with fail
    refine (bfixed_any w1).mono ?_
    rintro e w2 ⟨rfl, b2⟩
    have HB2 := Lib.hid (HB1.trans (b2.mono HB1.size))
    clear b2 HB1
    go_wp2_with fail
    go_ret
    exact ⟨rfl, HB2.out⟩
  · rw [decide_eq_false hg] at cg
    have HH2 : Hid (1000 < q ∨ 1000 < r) := HH.out.resolve_left hg
    clear hg HH
    refine cg.mono ?_
    rintro e w1 ⟨rfl, b1⟩
    have HB1 := HB.trans (b1.mono HB.size)
    have D1 := D0.on' b1
    have e7 : w1.cell? ⟨w.heap.size, 7, none⟩ = some (.int .i64 r) := D1.c 7 (by decide)
    have e8 : w1.cell? ⟨w.heap.size, 8, none⟩ = some (.int .i64 q) := D1.c 8 (by decide)
    clear cg HB b1 D0 D1
    by_cases h1 : 1000 < q
    · have g1 : decide (q > 1000) = true := decide_eq_true h1
      clear HH2
      go_wp2_with fail
      refine (bfixed_any w1).mono ?_
      rintro e w2 ⟨rfl, b2⟩
      have HB2 := Lib.hid (HB1.trans (b2.mono HB1.size))
      clear b2 HB1 e7 e8
      go_wp2_with fail
      go_ret
      exact ⟨rfl, HB2.out⟩
    · have g1 : decide (q > 1000) = false := decide_eq_false h1
      have h2 : 1000 < r := HH2.out.resolve_left h1
      have g2 : decide (r > 1000) = true := decide_eq_true h2
      clear HH2
      go_wp2_with fail
      refine (bfixed_any w1).mono ?_
      rintro e w2 ⟨rfl, b2⟩
      have HB2 := Lib.hid (HB1.trans (b2.mono HB1.size))
      clear b2 HB1 e7 e8
      go_wp2_with fail
      go_ret
      exact ⟨rfl, HB2.out⟩

set_option maxRecDepth 20000 in
set_option maxHeartbeats 8000000 in
theorem ord_any (k c b t d l p r q : Int) (aV aT : Option Addr) (nV cV nT cT : Nat) (V T : List Int) (hVl : V.length = nV) (hTl : T.length = nT) (hTc : aT = none → cT = 0) (hV64 : ∀ z ∈ V, 0 ≤ z ∧ z < 18446744073709551616) (h1 : ¬ (500 < nV ∨ 200 < nT)) (h2 : ¬ 1000 < q) (h3 : ¬ 1000 < r) (w : World) (hV : HoldsE KU w aV V) (hT : HoldsE K64 w aT T) :
    Calls Try.prog 7 #[ds k c b t d l p r q (.slice aV nV cV) (.slice aT nT cT)] w fun e w' => e = .returned (.bool true) ∧ Below w.heap.size w w' := by
  have hn : nV ≤ 500 := by omega
  have HB := lay_below w 27 k c b t d l p r q (.slice aV nV cV) (.slice aT nT cT)
  have D0 := lay_dat w 27 k c b t d l p r q (.slice aV nV cV) (.slice aT nT cT)
  have cg := great9_any k c b t d l p r q aV aT nV cV nT cT (lay w 27 k c b t d l p r q (.slice aV nV cV) (.slice aT nT cT))
  rw [decide_eq_false h1] at cg
  have g1 : decide (q > 1000) = false := decide_eq_false h2
  have g2 : decide (r > 1000) = false := decide_eq_false h3
  have hV0 := hV.below HB
  have hT0 := hT.below HB
  have HFU : Hid (∀ W, HoldsE KU W aV V → HoldsE K64 W aT T → Calls Try.prog 10 #[ds k c b t d l p r q (.slice aV nV cV) (.slice aT nT cT)] W fun e w' => (∃ v x, e = .returned (ds k c b t d l p r q v x) ∧ Own KF w' W.heap.size v (bitsOf V) ∧ Own K64 w' W.heap.size x T) ∧ Below W.heap.size W w') :=
    fun W h1 h2 => pfull_any k c b t d l p r q aV aT nV cV nT cT V T hVl hTl (by omega) (by omega) hTc W h1 h2
  have HFL : Hid ((bitsOf V).length = nV) := by show _ = _; rw [bitsOf_len]; exact hVl
  have HF64 : Hid (Bits64 (bitsOf V)) := bits64_of hV64
  have HNB := Lib.hid (And.intro hn (And.intro h2 h3))
  obtain ⟨F, HF⟩ : ∃ F, Hid (bitsOf V = F) := ⟨_, rfl⟩
  rw [HF.out] at HFU HFL HF64
  unfold ds at *
  clear hVl hTl hTc hV64 h1 h2 h3 hn hV hT HF
  go_enter Try.func7, Try.ntmps7
  go_wp2_with fail
  change Calls _ _ _ (lay w 27 k c b t d l p r q (.slice aV nV cV) (.slice aT nT cT)) _
  generalize lay w 27 k c b t d l p r q (.slice aV nV cV) (.slice aT nT cT) = w0 at *
  obtain ⟨N, hN⟩ : ∃ N, w.heap.size = N := ⟨_, rfl⟩
  have HNN := Lib.hid hN
  rw [hN] at D0 ⊢
  clear hN
  refine cg.mono ?_
  rintro e w1 ⟨rfl, b1⟩
  have HB1 := HB.trans (b1.mono HB.size)
  have D1 := D0.on' b1
  have d1 := HFU.out w1 (hV0.below b1) (hT0.below b1)
  obtain ⟨x0, x1, x2, x3, x4, x5, x6, x7, x8, x9, x10⟩ := D1.cells
  clear cg HB b1 D0 hV0 hT0 HFU
  go_wp2_with fail
  refine d1.mono ?_
  rintro e w2 ⟨⟨v, x, rfl, ov, ox⟩, b2⟩
  obtain ⟨av, cv, rfl, hvc, hvl, hvf, hvh⟩ := own_parts ov
  obtain ⟨ax, nx, cx, rfl⟩ := own_form ox
  rw [HFL.out] at hvl ⊢
  have HB2 := HB1.trans (b2.mono HB1.size)
  have D2 := D1.on' b2
  have bA := lay_below w2 33 k c b t d l p r q (.slice av nV cv) (.slice ax nx cx)
  have E0 := lay_dat w2 33 k c b t d l p r q (.slice av nV cv) (.slice ax nx cx)
  have hvh3 := hvh.below bA
  have D3 := D2.on' bA
  have HB3 := HB2.trans (bA.mono HB2.size)
  clear d1 HB1 D1 x0 x1 x2 x3 x4 x5 x6 x7 x8 x9 x10 ov ox b2 bA hvh D2 HB2
  have HSL := Lib.hid (And.intro hvc (And.intro hvl hvf))
  clear hvc hvl hvf
  go_upto_region 4 with fail
  change Code.wp _ _ _ _ (lay w2 33 k c b t d l p r q (.slice av nV cv) (.slice ax nx cx))
  generalize lay w2 33 k c b t d l p r q (.slice av nV cv) (.slice ax nx cx) = w3 at *
  obtain ⟨M, hM⟩ : ∃ M, w2.heap.size = M := ⟨_, rfl⟩
  rw [hM] at E0 ⊢
  clear hM
  have s3 : DsS M k c b t d l p r q av nV cv (.slice ax nx cx) F w w3 := ⟨E0, hvh3, HB3⟩
  clear E0 hvh3 HB3
  by_cases hfit : fitB r q nV = true
  · obtain ⟨r', q', rfl, rfl, hrq, hr', hq'⟩ := fit_nats hfit
    have hnb := HNB.out
    obtain ⟨L, HL⟩ : ∃ L, Hid (edgesA F r' q' b = L) := ⟨_, rfl⟩
    have HED : Hid (∀ W, HoldsE KF W av F → Calls Try.prog 11 #[ds k c b t d l p r' q' (.slice av nV cv) (.slice ax nx cx)] W fun e w' => GotL e w' q' L ∧ Below W.heap.size W w') := fun W h => by
      have := edgesM_ok k c b t d l p r' q' av nV cv (.slice ax nx cx) F HFL.out (by omega) hrq (by omega) (by omega) HSL.out.2.1 HSL.out.1 HSL.out.2.2 HF64.out W h
      rw [HL.out] at this
      exact this
    have HOF : Hid (∀ ae ce W, HoldsE KF W av F → HoldsR W ae L → Calls Try.prog 15 #[ds k c b t d l p r' q' (.slice av nV cv) (.slice ax nx cx), .slice ae q' ce] W fun e w' => GotT e w' W.heap.size r' q' nV (cellsL F r' L) ∧ Below W.heap.size W w') := fun ae ce W h h' =>
      ofM_ok k c b t d l p r' q' av ae nV cv ce (.slice ax nx cx) F L HFL.out (by omega) hrq (by omega) (by omega) HSL.out.2.1 HSL.out.1 HSL.out.2.2 HF64.out (by rw [← HL.out, edgesA_len]) (by rw [← HL.out]; exact fun E hE => edgesA_64 HF64.out r' q' b hE) W h h'
    have HRQ := Lib.hid (And.intro hrq (And.intro hnb.1 (And.intro (show q' ≤ 1000 by omega) (show r' ≤ 1000 by omega))))
    have HFT := Lib.hid hfit
    unfold ds at HED HOF
    obtain ⟨r, hrr⟩ : ∃ r : Int, (r' : Int) = r := ⟨_, rfl⟩
    obtain ⟨q, hqq⟩ : ∃ q : Int, (q' : Int) = q := ⟨_, rfl⟩
    have HRR := Lib.hid (And.intro hrr hqq)
    rw [hrr, hqq] at HED HOF s3 ⊢
    rw [hrr, hqq] at D3
    clear hfit hnb hrq hr' hq' HSL HNB hrr hqq
    go_cut [4, 5] (fun s4 s5 wx => ∃ (X : Nat) (am : Option Addr) (cm : Nat), s4 = .pointer (some ⟨X, 0, none⟩) ∧ s5 = .int .i64 0 ∧ M3 X r q (.slice am nV cm) wx ∧ HoldsE KW wx am (cellsL F r' L) ∧ Below w3.heap.size w3 wx)
    case first =>
      have bl : Below w3.heap.size w3 w3.drew := (Below.refl _ w3).drew
      refine wp_region_held_drew (S := (fun W => W.cell? ⟨M, 0, none⟩ = some (.int .i64 k) ∧ W.cell? ⟨M, 1, none⟩ = some (.int .i64 c) ∧ W.cell? ⟨M, 2, none⟩ = some (.int .i64 b) ∧ W.cell? ⟨M, 3, none⟩ = some (.int .i64 t) ∧ W.cell? ⟨M, 4, none⟩ = some (.int .i64 d) ∧ W.cell? ⟨M, 5, none⟩ = some (.int .i64 l) ∧ W.cell? ⟨M, 6, none⟩ = some (.int .i64 p) ∧ W.cell? ⟨M, 7, none⟩ = some (.int .i64 r) ∧ W.cell? ⟨M, 8, none⟩ = some (.int .i64 q) ∧ W.cell? ⟨M, 9, none⟩ = some (.slice av nV cv) ∧ W.cell? ⟨M, 10, none⟩ = some (.slice ax nx cx))) (by kernel_rfl) (by first | exact (s3.below blZ).on.cells | exact (s3.below bl).on.cells) (fun hHeld => ?_)
      generalize w3.drew = wd at *
      refine takeQ (i := 0) (v := ?_) rfl (by kernel_rfl) (by kernel_rfl) (by kernel_rfl) (fun _ _ _ h => h) (by rfl) hHeld ?_ ?_
      rotate_left
      · (intro w' hSw; (try dsimp only at hSw); go_simp <;> (with_reducible rfl))
      try simp only [Act.put, List.setIfInBounds_toArray, List.set_cons_zero, List.set_cons_succ]
      refine takeQ (i := 1) (v := ?_) rfl (by kernel_rfl) (by kernel_rfl) (by kernel_rfl) (fun _ _ _ h => h) (by rfl) hHeld ?_ ?_
      rotate_left
      · (intro w' hSw; (try dsimp only at hSw); go_simp <;> (with_reducible rfl))
      try simp only [Act.put, List.setIfInBounds_toArray, List.set_cons_zero, List.set_cons_succ]
      refine bothL (i := 2) (j := 7) (by kernel_rfl) rfl rfl (by rfl) (by rfl) (fun K hK => ?_) (fun K hK => ?_)
      · go_simp
        refine (HED.out wd (s3.below bl).ho).mono ?_
        rintro _ w5 ⟨⟨ae, ce, rfl, hle, hE⟩, b5⟩
        replace bl := bl.trans (b5.mono bl.size)
        clear b5
        try dsimp only
        refine hK.out _ _ (by first | exact (s3.below blZ).on.cells | exact (s3.below bl).on.cells) (fun hHeld => ?_)
        clear hK K
        try simp only [Act.put, List.setIfInBounds_toArray, List.set_cons_zero, List.set_cons_succ]
        refine bothL (i := 3) (j := 7) (by kernel_rfl) rfl rfl (by rfl) (by rfl) (fun K hK => ?_) (fun K hK => ?_)
        · go_simp
          refine (HOF.out ae ce w5 (s3.below bl).ho hE).mono ?_
          rintro _ w6 ⟨⟨am, cm, rfl, hlm, hcm, ham, hM⟩, b6⟩
          replace bl := bl.trans (b6.mono bl.size)
          clear b6 hE
          unfold mx
          try dsimp only
          refine hK.out _ _ (by first | exact (s3.below blZ).on.cells | exact (s3.below bl).on.cells) (fun hHeld => ?_)
          clear hK K
          try simp only [Act.put, List.setIfInBounds_toArray, List.set_cons_zero, List.set_cons_succ]
          refine takeQ (i := 4) (v := ?_) rfl (by kernel_rfl) (by kernel_rfl) (by kernel_rfl) (fun _ _ _ h => h) (by rfl) hHeld ?_ ?_
          rotate_left
          · (intro w' hSw; (try dsimp only at hSw); go_simp <;> (with_reducible rfl))
          try simp only [Act.put, List.setIfInBounds_toArray, List.set_cons_zero, List.set_cons_succ]
          refine takeQ (i := 5) (v := ?_) rfl (by kernel_rfl) (by kernel_rfl) (by kernel_rfl) (fun _ _ _ h => h) (by rfl) hHeld ?_ ?_
          rotate_left
          · (intro w' hSw; (try dsimp only at hSw); go_simp <;> (with_reducible rfl))
          try simp only [Act.put, List.setIfInBounds_toArray, List.set_cons_zero, List.set_cons_succ]
          refine takeQ (i := 6) (v := ?_) rfl (by kernel_rfl) (by kernel_rfl) (by kernel_rfl) (fun _ _ _ h => h) (by rfl) hHeld ?_ ?_
          rotate_left
          · (intro w' hSw; (try dsimp only at hSw); go_simp <;> (with_reducible rfl))
          try simp only [Act.put, List.setIfInBounds_toArray, List.set_cons_zero, List.set_cons_succ]
          refine callL (i := 7) (by kernel_rfl) rfl (by rfl) (fun K hK => ?_)
          go_simp
          have bq : Below w6.heap.size w6 (w6.alloc (.cells #[.int .i64 0, .int .i64 0, .slice none 0 0] 42)) := lay3_below w6 0 0 (.slice none 0 0)
          have Y : M3 w6.heap.size 0 0 (.slice none 0 0) (w6.alloc (.cells #[.int .i64 0, .int .i64 0, .slice none 0 0] 42)) := lay3_m w6 0 0 (.slice none 0 0)
          have hX1 : w3.heap.size ≤ w6.heap.size := bl.size
          replace bl := bl.trans (bq.mono bl.size)
          replace hM := got_below hM bq
          obtain ⟨wz, hwz⟩ : ∃ wz, w6.alloc (.cells #[.int .i64 0, .int .i64 0, .slice none 0 0] 42) = wz := ⟨_, rfl⟩
          obtain ⟨X, hX⟩ : ∃ X, w6.heap.size = X := ⟨_, rfl⟩
          rw [hwz] at hM bl Y bq ⊢
          rw [hX] at Y hX1 ⊢
          clear hwz hX bq
          try dsimp only
          refine hK.out _ _ (by first | exact (s3.below blZ).on.cells | exact (s3.below bl).on.cells) (fun hHeld => ?_)
          clear hK K
          try simp only [Act.put, List.setIfInBounds_toArray, List.set_cons_zero, List.set_cons_succ]
          refine callL (i := 8) (by kernel_rfl) rfl (by rfl) (fun K hK => ?_)
          obtain ⟨YZ, bt⟩ := put3_facts Y r q (.slice am nV cm)
          have hMZ := got_m3 hM Y bt
          have blZ := bl.trans (bt.below hX1 bl.size)
          obtain ⟨_, d0, d1, d2, f0, f1, f2⟩ := Y
          go_simp
          try dsimp only
          refine hK.out _ _ (by first | exact (s3.below blZ).on.cells | exact (s3.below bl).on.cells) (fun hHeld => ?_)
          clear hK K
          try simp only [Act.put, List.setIfInBounds_toArray, List.set_cons_zero, List.set_cons_succ]
          refine callL (i := 9) (by kernel_rfl) rfl (by rfl) (fun K hK => ?_)
          go_simp
          try dsimp only
          refine hK.out _ _ (by first | exact (s3.below blZ).on.cells | exact (s3.below bl).on.cells) (fun hHeld => ?_)
          clear hK K
          try simp only [Act.put, List.setIfInBounds_toArray, List.set_cons_zero, List.set_cons_succ]
          refine wpAnyH_done (by kernel_rfl) ?_ _
          clear d0 d1 d2 f0 f1 f2 bt hHeld bl
          change Exit.then _ _ _ _ (put3 wz X r q (.slice am nV cm))
          generalize put3 wz X r q (.slice am nV cm) = w9 at *
          go_wp2_with fail
          go_meet
          exact ⟨X, am, cm, rfl, rfl, YZ, hMZ, blZ⟩
        · go_simp
          have bq : Below w5.heap.size w5 (w5.alloc (.cells #[.int .i64 0, .int .i64 0, .slice none 0 0] 42)) := lay3_below w5 0 0 (.slice none 0 0)
          have Y : M3 w5.heap.size 0 0 (.slice none 0 0) (w5.alloc (.cells #[.int .i64 0, .int .i64 0, .slice none 0 0] 42)) := lay3_m w5 0 0 (.slice none 0 0)
          have hX1 : w3.heap.size ≤ w5.heap.size := bl.size
          replace bl := bl.trans (bq.mono bl.size)
          replace hE := hE.below bq
          obtain ⟨wz, hwz⟩ : ∃ wz, w5.alloc (.cells #[.int .i64 0, .int .i64 0, .slice none 0 0] 42) = wz := ⟨_, rfl⟩
          obtain ⟨X, hX⟩ : ∃ X, w5.heap.size = X := ⟨_, rfl⟩
          rw [hwz] at hE bl Y bq ⊢
          rw [hX] at Y hX1 ⊢
          clear hwz hX bq
          try dsimp only
          refine hK.out _ _ (by first | exact (s3.below blZ).on.cells | exact (s3.below bl).on.cells) (fun hHeld => ?_)
          clear hK K
          try simp only [Act.put, List.setIfInBounds_toArray, List.set_cons_zero, List.set_cons_succ]
          refine callL (i := 3) (by kernel_rfl) rfl (by rfl) (fun K hK => ?_)
          go_simp
          refine (HOF.out ae ce wz (s3.below bl).ho hE).mono ?_
          rintro _ w6 ⟨⟨am, cm, rfl, hlm, hcm, ham, hM⟩, b6⟩
          replace bl := bl.trans (b6.mono bl.size)
          replace Y := Y.on b6
          clear b6 hE
          unfold mx
          try dsimp only
          refine hK.out _ _ (by first | exact (s3.below blZ).on.cells | exact (s3.below bl).on.cells) (fun hHeld => ?_)
          clear hK K
          try simp only [Act.put, List.setIfInBounds_toArray, List.set_cons_zero, List.set_cons_succ]
          refine takeQ (i := 4) (v := ?_) rfl (by kernel_rfl) (by kernel_rfl) (by kernel_rfl) (fun _ _ _ h => h) (by rfl) hHeld ?_ ?_
          rotate_left
          · (intro w' hSw; (try dsimp only at hSw); go_simp <;> (with_reducible rfl))
          try simp only [Act.put, List.setIfInBounds_toArray, List.set_cons_zero, List.set_cons_succ]
          refine takeQ (i := 5) (v := ?_) rfl (by kernel_rfl) (by kernel_rfl) (by kernel_rfl) (fun _ _ _ h => h) (by rfl) hHeld ?_ ?_
          rotate_left
          · (intro w' hSw; (try dsimp only at hSw); go_simp <;> (with_reducible rfl))
          try simp only [Act.put, List.setIfInBounds_toArray, List.set_cons_zero, List.set_cons_succ]
          refine takeQ (i := 6) (v := ?_) rfl (by kernel_rfl) (by kernel_rfl) (by kernel_rfl) (fun _ _ _ h => h) (by rfl) hHeld ?_ ?_
          rotate_left
          · (intro w' hSw; (try dsimp only at hSw); go_simp <;> (with_reducible rfl))
          try simp only [Act.put, List.setIfInBounds_toArray, List.set_cons_zero, List.set_cons_succ]
          refine callL (i := 8) (by kernel_rfl) rfl (by rfl) (fun K hK => ?_)
          obtain ⟨YZ, bt⟩ := put3_facts Y r q (.slice am nV cm)
          have hMZ := got_m3 hM Y bt
          have blZ := bl.trans (bt.below hX1 bl.size)
          obtain ⟨_, d0, d1, d2, f0, f1, f2⟩ := Y
          go_simp
          try dsimp only
          refine hK.out _ _ (by first | exact (s3.below blZ).on.cells | exact (s3.below bl).on.cells) (fun hHeld => ?_)
          clear hK K
          try simp only [Act.put, List.setIfInBounds_toArray, List.set_cons_zero, List.set_cons_succ]
          refine callL (i := 9) (by kernel_rfl) rfl (by rfl) (fun K hK => ?_)
          go_simp
          try dsimp only
          refine hK.out _ _ (by first | exact (s3.below blZ).on.cells | exact (s3.below bl).on.cells) (fun hHeld => ?_)
          clear hK K
          try simp only [Act.put, List.setIfInBounds_toArray, List.set_cons_zero, List.set_cons_succ]
          refine wpAnyH_done (by kernel_rfl) ?_ _
          clear d0 d1 d2 f0 f1 f2 bt hHeld bl
          change Exit.then _ _ _ _ (put3 w6 X r q (.slice am nV cm))
          generalize put3 w6 X r q (.slice am nV cm) = w9 at *
          go_wp2_with fail
          go_meet
          exact ⟨X, am, cm, rfl, rfl, YZ, hMZ, blZ⟩
      · go_simp
        have bq : Below wd.heap.size wd (wd.alloc (.cells #[.int .i64 0, .int .i64 0, .slice none 0 0] 42)) := lay3_below wd 0 0 (.slice none 0 0)
        have Y : M3 wd.heap.size 0 0 (.slice none 0 0) (wd.alloc (.cells #[.int .i64 0, .int .i64 0, .slice none 0 0] 42)) := lay3_m wd 0 0 (.slice none 0 0)
        have hX1 : w3.heap.size ≤ wd.heap.size := bl.size
        replace bl := bl.trans (bq.mono bl.size)
        obtain ⟨wz, hwz⟩ : ∃ wz, wd.alloc (.cells #[.int .i64 0, .int .i64 0, .slice none 0 0] 42) = wz := ⟨_, rfl⟩
        obtain ⟨X, hX⟩ : ∃ X, wd.heap.size = X := ⟨_, rfl⟩
        rw [hwz] at bl Y bq ⊢
        rw [hX] at Y hX1 ⊢
        clear hwz hX bq
        try dsimp only
        refine hK.out _ _ (by first | exact (s3.below blZ).on.cells | exact (s3.below bl).on.cells) (fun hHeld => ?_)
        clear hK K
        try simp only [Act.put, List.setIfInBounds_toArray, List.set_cons_zero, List.set_cons_succ]
        refine callL (i := 2) (by kernel_rfl) rfl (by rfl) (fun K hK => ?_)
        go_simp
        refine (HED.out wz (s3.below bl).ho).mono ?_
        rintro _ w5 ⟨⟨ae, ce, rfl, hle, hE⟩, b5⟩
        replace bl := bl.trans (b5.mono bl.size)
        replace Y := Y.on b5
        clear b5
        try dsimp only
        refine hK.out _ _ (by first | exact (s3.below blZ).on.cells | exact (s3.below bl).on.cells) (fun hHeld => ?_)
        clear hK K
        try simp only [Act.put, List.setIfInBounds_toArray, List.set_cons_zero, List.set_cons_succ]
        refine callL (i := 3) (by kernel_rfl) rfl (by rfl) (fun K hK => ?_)
        go_simp
        refine (HOF.out ae ce w5 (s3.below bl).ho hE).mono ?_
        rintro _ w6 ⟨⟨am, cm, rfl, hlm, hcm, ham, hM⟩, b6⟩
        replace bl := bl.trans (b6.mono bl.size)
        replace Y := Y.on b6
        clear b6 hE
        unfold mx
        try dsimp only
        refine hK.out _ _ (by first | exact (s3.below blZ).on.cells | exact (s3.below bl).on.cells) (fun hHeld => ?_)
        clear hK K
        try simp only [Act.put, List.setIfInBounds_toArray, List.set_cons_zero, List.set_cons_succ]
        refine takeQ (i := 4) (v := ?_) rfl (by kernel_rfl) (by kernel_rfl) (by kernel_rfl) (fun _ _ _ h => h) (by rfl) hHeld ?_ ?_
        rotate_left
        · (intro w' hSw; (try dsimp only at hSw); go_simp <;> (with_reducible rfl))
        try simp only [Act.put, List.setIfInBounds_toArray, List.set_cons_zero, List.set_cons_succ]
        refine takeQ (i := 5) (v := ?_) rfl (by kernel_rfl) (by kernel_rfl) (by kernel_rfl) (fun _ _ _ h => h) (by rfl) hHeld ?_ ?_
        rotate_left
        · (intro w' hSw; (try dsimp only at hSw); go_simp <;> (with_reducible rfl))
        try simp only [Act.put, List.setIfInBounds_toArray, List.set_cons_zero, List.set_cons_succ]
        refine takeQ (i := 6) (v := ?_) rfl (by kernel_rfl) (by kernel_rfl) (by kernel_rfl) (fun _ _ _ h => h) (by rfl) hHeld ?_ ?_
        rotate_left
        · (intro w' hSw; (try dsimp only at hSw); go_simp <;> (with_reducible rfl))
        try simp only [Act.put, List.setIfInBounds_toArray, List.set_cons_zero, List.set_cons_succ]
        refine callL (i := 8) (by kernel_rfl) rfl (by rfl) (fun K hK => ?_)
        obtain ⟨YZ, bt⟩ := put3_facts Y r q (.slice am nV cm)
        have hMZ := got_m3 hM Y bt
        have blZ := bl.trans (bt.below hX1 bl.size)
        obtain ⟨_, d0, d1, d2, f0, f1, f2⟩ := Y
        go_simp
        try dsimp only
        refine hK.out _ _ (by first | exact (s3.below blZ).on.cells | exact (s3.below bl).on.cells) (fun hHeld => ?_)
        clear hK K
        try simp only [Act.put, List.setIfInBounds_toArray, List.set_cons_zero, List.set_cons_succ]
        refine callL (i := 9) (by kernel_rfl) rfl (by rfl) (fun K hK => ?_)
        go_simp
        try dsimp only
        refine hK.out _ _ (by first | exact (s3.below blZ).on.cells | exact (s3.below bl).on.cells) (fun hHeld => ?_)
        clear hK K
        try simp only [Act.put, List.setIfInBounds_toArray, List.set_cons_zero, List.set_cons_succ]
        refine wpAnyH_done (by kernel_rfl) ?_ _
        clear d0 d1 d2 f0 f1 f2 bt hHeld bl
        change Exit.then _ _ _ _ (put3 w6 X r q (.slice am nV cm))
        generalize put3 w6 X r q (.slice am nV cm) = w9 at *
        go_wp2_with fail
        go_meet
        exact ⟨X, am, cm, rfl, rfl, YZ, hMZ, blZ⟩
    case rest =>
      obtain ⟨X, am, cm, rfl, rfl, Y, hm, bl⟩ := hcut
      obtain ⟨hrr, hqq⟩ := HRR.out
      subst hrr hqq
      have s4 := s3.below bl
      have D4 := D3.on' bl
      have HWW := Lib.hid s4.bel
      have HDL : Hid ((cellsL F r' L).length = nV) := by show _ = _; rw [cellsL_len]; exact HFL.out
      have HCE : Hid (∀ i jj, i < r' → jj < q' → ∀ W, HoldsE KW W am (cellsL F r' L) → Calls Try.prog 19 #[mx r' q' (.slice am nV cm), .int .i64 ((i : Nat) : Int), .int .i64 ((jj : Nat) : Int)] W fun e w' => e = .returned (.tuple #[.int .i64 ((cellN (L.getD jj []) (F.getD (jj * r' + i) 0) : Nat) : Int), .bool true]) ∧ Below W.heap.size W w') := fun i jj hi hj W h => by
        have := cellM_ok r' q' i jj nV am cm (cellsL F r' L) HDL.out (by have := HRQ.out.2.1; omega) (cellsL_16 _ _ _) HFT.out hi hj W h
        rw [cellsL_at F r' L (by rw [HFL.out]; exact (idx_lt HRQ.out.1 hi hj).1) hi] at this
        exact this
      unfold mx at HCE
      have e8 : wc.cell? ⟨N, 8, none⟩ = some (.int .i64 (q' : Int)) := D4.c 8 (by decide)
      clear s3 D3 bl HED HOF HRR HFT HDL
      go_wp2_with fail
      clear e8
      go_loopw [46] (fun v wr => ∃ jj : Nat, v = .int .i64 (jj : Int) ∧ jj ≤ q' ∧ Below wc.heap.size wc wr) (fun v _ => q' - (intOf v).toNat)
      case atStart => exact ⟨0, rfl, by omega, Below.refl _ _⟩
      case round =>
        obtain ⟨jj, rfl, hjj, bel⟩ := hrel
        by_cases hlt : jj < q'
        · have HJ := Lib.hid hlt
          have HJU := Lib.hid (up_is hlt (show q' ≤ 16777216 by have := HRQ.out.2.2.1; omega))
          have HJV := Lib.hid (up_less hlt (show q' ≤ 16777216 by have := HRQ.out.2.2.1; omega))
          have i1 : (jj : Int) < (q' : Int) := by omega
          have e7 : wr.cell? ⟨N, 7, none⟩ = some (.int .i64 (r' : Int)) := (D4.on' bel).c 7 (by decide)
          clear hlt hjj
          go_wp2_with fail
          clear e7
          go_loopw [51] (fun v wq => ∃ i : Nat, v = .int .i64 (i : Int) ∧ i ≤ r' ∧ Below wc.heap.size wc wq) (fun v _ => r' - (intOf v).toNat)
          case atStart => exact ⟨0, rfl, by omega, bel⟩
          case round =>
            obtain ⟨i, rfl, hi, bel⟩ := hrel
            by_cases hlt : i < r'
            · have HI := Lib.hid hlt
              have HIU := Lib.hid (up_is hlt (show r' ≤ 16777216 by have := HRQ.out.2.2.2; omega))
              have HIV := Lib.hid (up_less hlt (show r' ≤ 16777216 by have := HRQ.out.2.2.2; omega))
              have hi2 : (i + 1) % r' < r' := Nat.mod_lt _ (by omega)
              have hp1 := (idx_lt HRQ.out.1 hlt HJ.out).1
              have hp2 := (idx_lt HRQ.out.1 hi2 HJ.out).1
              have c1 := HCE.out i jj hlt HJ.out
              have c2 := HCE.out ((i + 1) % r') jj hi2 HJ.out
              have hf64 := HF64.out.at (show jj * r' + i < F.length by rw [HFL.out]; exact hp1)
              have hg64 := HF64.out.at (show jj * r' + (i + 1) % r' < F.length by rw [HFL.out]; exact hp2)
              obtain ⟨i2, hii2⟩ : ∃ i2, (i + 1) % r' = i2 := ⟨_, rfl⟩
              rw [hii2] at hi2 hp2 c2 hg64
              obtain ⟨m1, hm1⟩ : ∃ m1, jj * r' + i = m1 := ⟨_, rfl⟩
              obtain ⟨m2, hm2⟩ : ∃ m2, jj * r' + i2 = m2 := ⟨_, rfl⟩
              rw [hm1] at hp1 c1 hf64
              rw [hm2] at hp2 c2 hg64
              obtain ⟨ga, oa, rfl, hga, hrow⟩ := s4.ho.at (show m1 < F.length by rw [HFL.out]; exact hp1)
              obtain ⟨f, HFF⟩ : ∃ f, Hid (F.getD m1 0 = f) := ⟨_, rfl⟩
              obtain ⟨g, HGG⟩ : ∃ g, Hid (F.getD m2 0 = g) := ⟨_, rfl⟩
              have cf0 : wc.cell? ⟨ga, oa + m1, none⟩ = some (.float .f64 f) := by rw [← HFF.out]; exact hrow m1 (by rw [HFL.out]; exact hp1)
              have cg0 : wc.cell? ⟨ga, oa + m2, none⟩ = some (.float .f64 g) := by rw [← HGG.out]; exact hrow m2 (by rw [HFL.out]; exact hp2)
              rw [HFF.out] at c1 hf64
              rw [HGG.out] at c2 hg64
              obtain ⟨E, HE⟩ : ∃ E, Hid (L.getD jj [] = E) := ⟨_, rfl⟩
              rw [HE.out] at c1 c2
              have hfg : key f ≤ key g → cellN E f ≤ cellN E g := fun h => by have := binL_mono (E := E) hf64 hg64 h; unfold cellN; omega
              have hgf : key g ≤ key f → cellN E g ≤ cellN E f := fun h => by have := binL_mono (E := E) hg64 hf64 h; unfold cellN; omega
              have hx0 : cellN E f = 0 ↔ mis f := by
                unfold cellN
                by_cases hm : mis f
                · rw [binL_mis hm]; simp [hm]
                · rw [binL_is hm]
                  constructor
                  · intro h; omega
                  · intro h; exact absurd h hm
              obtain ⟨x, HX⟩ : ∃ x, cellN E f = x := ⟨_, rfl⟩
              obtain ⟨y, HY⟩ : ∃ y, cellN E g = y := ⟨_, rfl⟩
              rw [HX] at c1 hfg hgf hx0
              rw [HY] at c2 hfg hgf
              have gm : (((x : Int) == 0) != decide (mis f)) = false := by
                by_cases hm : mis f
                · have : x = 0 := hx0.2 hm
                  subst this
                  rw [decide_eq_true hm]; rfl
                · have : x ≠ 0 := fun h => hm (hx0.1 h)
                  rw [decide_eq_false hm]
                  simp
                  omega
              have gm2 : (!(((x : Int) == 0) == decide (mis f))) = false := gm
              have HCM : Hid (∃ cc : Int, (∀ W, Calls Try.prog 28 #[.float .f64 f, .float .f64 g] W fun e w' => e = .returned (.int .i64 cc) ∧ W = w') ∧ ((cc = -1 ∧ x ≤ y) ∨ (cc = 0 ∧ x = y) ∨ (cc = 1 ∧ y ≤ x))) := by
                refine ⟨cmpI (key f) (key g), fun W => refCmp_any f g hf64 hg64 W, ?_⟩
                rcases Nat.lt_trichotomy (key f) (key g) with h | h | h
                · exact .inl ⟨cmpI_lt (by omega), hfg (by omega)⟩
                · exact .inr (.inl ⟨cmpI_eq (by omega), by have := hfg (by omega); have := hgf (by omega); omega⟩)
                · exact .inr (.inr ⟨cmpI_gt (by omega), hgf (by omega)⟩)
              have cm1 := refMissing_any f hf64
              have HGA := Lib.hid hga
              have HP := Lib.hid (And.intro hp1 hp2)
              have HW1 : Hid (wrap64 ((jj : Int) * (r' : Int)) = ((jj * r' : Nat) : Int)) := mul_nat_wrap (n := nV) (by omega) (by have := HRQ.out.2.1; omega)
              obtain ⟨m0, hm0⟩ : ∃ m0, jj * r' = m0 := ⟨_, rfl⟩
              rw [hm0] at hm1 hm2 HW1
              have HW2 : Hid (wrap64 ((m0 : Int) + (i : Int)) = (m1 : Int)) := add_nat_wrap hm1 (by have := HRQ.out.2.1; omega)
              have HW3 : Hid (wrap64 ((m0 : Int) + (i2 : Int)) = (m2 : Int)) := add_nat_wrap hm2 (by have := HRQ.out.2.1; omega)
              have HII := Lib.hid hii2
              have k1 : (i : Int) < (r' : Int) := by omega
              have k2 : (m1 : Int) < (nV : Int) := by omega
              have k3 : (m2 : Int) < (nV : Int) := by omega
              have k4 : (0 : Int) ≤ (m1 : Int) := by omega
              have k5 : (0 : Int) ≤ (m2 : Int) := by omega
              have hMA := Y.on bel
              obtain ⟨_, y0, y1, y2, _, _, _⟩ := hMA
              have d1 := c1 wr (hm.below bel)
              clear hi2 hp1 hp2 hrow hfg hgf hx0 HX HY hf64 hg64 hm0 hm1 hm2 hii2 hlt hi c1 hga
              go_wp2_with fail
              refine d1.mono ?_
              rintro e w5 ⟨rfl, b5⟩
              have bel5 := bel.trans (b5.mono bel.size)
              have e9 : w5.cell? ⟨M, 9, none⟩ = some (.slice (some ⟨ga, oa, none⟩) nV cv) := (s4.below bel5).on.c 9 (by decide)
              have e7 : w5.cell? ⟨N, 7, none⟩ = some (.int .i64 (r' : Int)) := (D4.on' bel5).c 7 (by decide)
              have cf := (bel5.cell (p := ⟨ga, oa + m1, none⟩) HGA.out).trans cf0
              have wa := HW1.out
              have wb := HW2.out
              clear d1 b5 y0 y1 y2
              go_wp2_with (go_at_call 27; refine (cm1 _).mono ?_; rintro e w' ⟨rfl, rfl⟩)
              clear e9 cf wa wb gm gm2 cm1
              obtain ⟨i3, hi3⟩ : ∃ i3, i + 1 = i3 := ⟨_, rfl⟩
              have HWR1 : Hid (wrap64 ((i : Int) + 1) = (i3 : Int)) := up_int hi3 (by have := HRQ.out.2.2.2; have := HI.out; omega)
              have HTM : Hid ((i3 : Int).tmod (r' : Int) = (i2 : Int)) := by show _ = _; rw [show i2 = i3 % r' by rw [← hi3]; exact HII.out.symm]; rfl
              have HR0 : Hid (¬ r' = 0) := by have := HI.out; show ¬ _; omega
              have HHI := Lib.hid hi3
              have qY := Y.on bel5
              obtain ⟨_, y0, y1, y2, _, _, _⟩ := qY
              have hm5 := hm.below bel5
              have HCD := Lib.hid c2
              clear hi3 c2
              have KEEP : Hid (∀ W, Below wc.heap.size wc W → (W.cell? ⟨X, 0, none⟩ = some (.int .i64 (r' : Int)) ∧ W.cell? ⟨X, 1, none⟩ = some (.int .i64 (q' : Int)) ∧ W.cell? ⟨X, 2, none⟩ = some (.slice am nV cm)) ∧ W.cell? ⟨N, 7, none⟩ = some (.int .i64 (r' : Int))) := fun W h => ⟨⟨(Y.on h).c0, (Y.on h).c1, (Y.on h).c2⟩, (D4.on' h).c 7 (by decide)⟩
              have bl := bel5.drew
              have d2 : Calls Try.prog 19 #[.agg #[.int .i64 (r' : Int), .int .i64 (q' : Int), .slice am nV cm], .int .i64 (i2 : Int), .int .i64 (jj : Int)] w5.drew fun e w' => e = .returned (.tuple #[.int .i64 (y : Int), .bool true]) ∧ Below w5.drew.heap.size w5.drew w' := HCD.out w5.drew (hm.below bl)
              clear y0 y1 y2 hm5
              have HK5 := Lib.hid (And.intro k3 k5)
              clear k1 k2 k3 k4 k5 i1 g1 g2
              have wr1 := HWR1.out
              have wr2 := HTM.out
              have hr0 := HR0.out
              have wr3 : IntKind.i64.wrap ((i : Int) + 1) = (i3 : Int) := (wrap_i _).trans wr1
              refine wp_region_held_drew (S := (fun W => (W.cell? ⟨X, 0, none⟩ = some (.int .i64 (r' : Int)) ∧ W.cell? ⟨X, 1, none⟩ = some (.int .i64 (q' : Int)) ∧ W.cell? ⟨X, 2, none⟩ = some (.slice am nV cm)) ∧ W.cell? ⟨N, 7, none⟩ = some (.int .i64 (r' : Int)))) (by kernel_rfl) (by exact KEEP.out _ bl) (fun hHeld => ?_)
              refine takeQ (i := 0) (v := ?_) rfl (by kernel_rfl) (by kernel_rfl) (by kernel_rfl) (fun _ _ _ h => h) (by rfl) hHeld ?_ ?_
              rotate_left
              · (intro w' hSw; (try dsimp only at hSw); go_simp <;> (with_reducible rfl))
              try simp only [Act.put, List.setIfInBounds_toArray, List.set_cons_zero, List.set_cons_succ]
              refine takeQ (i := 1) (v := ?_) rfl (by kernel_rfl) (by kernel_rfl) (by kernel_rfl) (fun _ _ _ h => h) (by rfl) hHeld ?_ ?_
              rotate_left
              · (intro w' hSw; (try dsimp only at hSw); go_simp <;> (with_reducible rfl))
              try simp only [Act.put, List.setIfInBounds_toArray, List.set_cons_zero, List.set_cons_succ]
              refine takeQ (i := 2) (v := ?_) rfl (by kernel_rfl) (by kernel_rfl) (by kernel_rfl) (fun _ _ _ h => h) (by rfl) hHeld ?_ ?_
              rotate_left
              · (intro w' hSw; (try dsimp only at hSw); go_simp <;> (with_reducible rfl))
              try simp only [Act.put, List.setIfInBounds_toArray, List.set_cons_zero, List.set_cons_succ]
              refine takeQ (i := 3) (v := ?_) rfl (by kernel_rfl) (by kernel_rfl) (by kernel_rfl) (fun _ _ _ h => h) (by rfl) hHeld ?_ ?_
              rotate_left
              · (intro w' hSw; (try dsimp only at hSw); go_simp <;> (with_reducible rfl))
              try simp only [Act.put, List.setIfInBounds_toArray, List.set_cons_zero, List.set_cons_succ]
              refine takeQ (i := 4) (v := ?_) rfl (by kernel_rfl) (by kernel_rfl) (by kernel_rfl) (fun _ _ _ h => h) (by rfl) hHeld ?_ ?_
              rotate_left
              · (intro w' hSw; (try dsimp only at hSw); go_simp <;> (with_reducible rfl))
              try simp only [Act.put, List.setIfInBounds_toArray, List.set_cons_zero, List.set_cons_succ]
              refine takeQ (i := 5) (v := ?_) rfl (by kernel_rfl) (by kernel_rfl) (by kernel_rfl) (fun _ _ _ h => h) (by rfl) hHeld ?_ ?_
              rotate_left
              · (intro w' hSw; (try dsimp only at hSw); go_simp <;> (with_reducible rfl))
              try simp only [Act.put, List.setIfInBounds_toArray, List.set_cons_zero, List.set_cons_succ]
              refine takeQ (i := 6) (v := ?_) rfl (by kernel_rfl) (by kernel_rfl) (by kernel_rfl) (fun _ _ _ h => h) (by rfl) hHeld ?_ ?_
              rotate_left
              · (intro w' hSw; (try dsimp only at hSw); go_simp <;> (with_reducible rfl))
              try simp only [Act.put, List.setIfInBounds_toArray, List.set_cons_zero, List.set_cons_succ]
              refine callL (i := 7) (by kernel_rfl) rfl (by rfl) (fun K hK => ?_)
              go_simp
              refine d2.mono ?_
              rintro _ w7 ⟨rfl, b7⟩
              replace bl := bl.trans (b7.mono bl.size)
              clear b7
              try dsimp only
              refine hK.out _ _ (by exact KEEP.out _ bl) (fun hHeld => ?_)
              clear hK K
              try simp only [Act.put, List.setIfInBounds_toArray, List.set_cons_zero, List.set_cons_succ]
              refine takeQ (i := 8) (v := ?_) rfl (by kernel_rfl) (by kernel_rfl) (by kernel_rfl) (fun _ _ _ h => h) (by rfl) hHeld ?_ ?_
              rotate_left
              · (intro w' hSw; (try dsimp only at hSw); go_simp <;> (with_reducible rfl))
              try simp only [Act.put, List.setIfInBounds_toArray, List.set_cons_zero, List.set_cons_succ]
              refine takeQ (i := 9) (v := ?_) rfl (by kernel_rfl) (by kernel_rfl) (by kernel_rfl) (fun _ _ _ h => h) (by rfl) hHeld ?_ ?_
              rotate_left
              · (intro w' hSw; (try dsimp only at hSw); go_simp <;> (with_reducible rfl))
              try simp only [Act.put, List.setIfInBounds_toArray, List.set_cons_zero, List.set_cons_succ]
              refine takeQ (i := 10) (v := ?_) rfl (by kernel_rfl) (by kernel_rfl) (by kernel_rfl) (fun _ _ _ h => h) (by rfl) hHeld ?_ ?_
              rotate_left
              · (intro w' hSw; (try dsimp only at hSw); go_simp <;> (with_reducible rfl))
              try simp only [Act.put, List.setIfInBounds_toArray, List.set_cons_zero, List.set_cons_succ]
              refine callL (i := 11) (by kernel_rfl) rfl (by rfl) (fun K hK => ?_)
              go_simp
              try dsimp only
              refine hK.out _ _ (by exact KEEP.out _ bl) (fun hHeld => ?_)
              clear hK K
              try simp only [Act.put, List.setIfInBounds_toArray, List.set_cons_zero, List.set_cons_succ]
              refine callL (i := 12) (by kernel_rfl) rfl (by rfl) (fun K hK => ?_)
              go_simp
              try dsimp only
              refine hK.out _ _ (by exact KEEP.out _ bl) (fun hHeld => ?_)
              clear hK K
              try simp only [Act.put, List.setIfInBounds_toArray, List.set_cons_zero, List.set_cons_succ]
              refine wpAnyH_done (by kernel_rfl) ?_ _
              clear hHeld
              have e9 : w7.cell? ⟨M, 9, none⟩ = some (.slice (some ⟨ga, oa, none⟩) nV cv) := (s4.below bl).on.c 9 (by decide)
              have e7 : w7.cell? ⟨N, 7, none⟩ = some (.int .i64 (r' : Int)) := (D4.on' bl).c 7 (by decide)
              have cg := (bl.cell (p := ⟨ga, oa + m2, none⟩) HGA.out).trans cg0
              have HBL : Hid (∀ n', Below wc.heap.size wc (w7.drewN n')) := fun n' => ⟨bl.os, bl.tape, bl.output, bl.size, bl.block⟩
              obtain ⟨k3, k5⟩ := HK5.out
              have wa := HW1.out
              have wb := HW3.out
              clear d2 HCD KEEP HWR1 HTM bel bel5 bl
              go_wp2_with fail
              go_quiet (fail)
              clear e9 e7 cg wa wb k3 k5 wr1 wr2 wr3
              obtain ⟨cc, hcm, hcc⟩ := HCM.out
              clear HCM
              rcases hcc with ⟨rfl, hxy⟩ | ⟨rfl, hxy⟩ | ⟨rfl, hxy⟩
              · have j1 : decide ((x : Int) > (y : Int)) = false := decide_eq_false (by omega)
                have j2 : decide (y < x) = false := decide_eq_false (by omega)
                clear hxy
                go_wp2_with (go_at_call 28; refine (hcm _).mono ?_; rintro e w' ⟨rfl, rfl⟩)
                go_roundw
                case rel => exact ⟨i + 1, HIU.out, HI.out, HBL.out _⟩
                case measure => exact HIV.out
              · subst hxy
                go_wp2_with (go_at_call 28; refine (hcm _).mono ?_; rintro e w' ⟨rfl, rfl⟩)
                go_roundw
                case rel => exact ⟨i + 1, HIU.out, HI.out, HBL.out _⟩
                case measure => exact HIV.out
              · have j1 : decide ((x : Int) < (y : Int)) = false := decide_eq_false (by omega)
                have j2 : decide (x < y) = false := decide_eq_false (by omega)
                clear hxy
                go_wp2_with (go_at_call 28; refine (hcm _).mono ?_; rintro e w' ⟨rfl, rfl⟩)
                go_roundw
                case rel => exact ⟨i + 1, HIU.out, HI.out, HBL.out _⟩
                case measure => exact HIV.out
            · obtain rfl : r' = i := by omega
              clear hlt hi
              go_wp2_with fail
              go_roundw
              case rel => exact ⟨jj + 1, HJU.out, HJ.out, bel⟩
              case measure => exact HJV.out
        · obtain rfl : q' = jj := by omega
          have HBE := Lib.hid (HWW.out.trans (bel.mono HWW.out.size))
          clear hlt hjj bel
          go_wp2_with fail
          refine (bfixed_any wr).mono ?_
          rintro e w9 ⟨rfl, b9⟩
          have HB9 := Lib.hid (HBE.out.trans (b9.mono HBE.out.size))
          clear b9
          go_wp2_with fail
          go_ret
          exact ⟨rfl, HB9.out⟩
  · have hff : fitB r q nV = false := by
      cases h : fitB r q nV with
      | false => rfl
      | true => exact absurd h hfit
    have HED : Hid (∀ W, HoldsE KF W av F → Calls Try.prog 11 #[ds k c b t d l p r q (.slice av nV cv) (.slice ax nx cx)] W fun e w' => GotL e w' 0 [] ∧ Below W.heap.size W w') := fun W _ => edgesM_no k c b t d l p r q av nV cv (.slice ax nx cx) hff W
    have HOF : Hid (∀ ae ce W, Calls Try.prog 15 #[ds k c b t d l p r q (.slice av nV cv) (.slice ax nx cx), .slice ae 0 ce] W fun e w' => NoTurn e ∧ Below W.heap.size W w') := fun ae ce W => ofM_no k c b t d l p r q av ae nV cv 0 ce (.slice ax nx cx) (.inr hff) W
    unfold ds at HED HOF
    clear hfit hff HSL HNB D3
    go_cut [4, 5] (fun s4 s5 wx => ∃ (X : Nat), s4 = .pointer (some ⟨X, 0, none⟩) ∧ s5 = .int .i64 8 ∧ Below w3.heap.size w3 wx)
    case first =>
      have bl : Below w3.heap.size w3 w3.drew := (Below.refl _ w3).drew
      refine wp_region_held_drew (S := (fun W => W.cell? ⟨M, 0, none⟩ = some (.int .i64 k) ∧ W.cell? ⟨M, 1, none⟩ = some (.int .i64 c) ∧ W.cell? ⟨M, 2, none⟩ = some (.int .i64 b) ∧ W.cell? ⟨M, 3, none⟩ = some (.int .i64 t) ∧ W.cell? ⟨M, 4, none⟩ = some (.int .i64 d) ∧ W.cell? ⟨M, 5, none⟩ = some (.int .i64 l) ∧ W.cell? ⟨M, 6, none⟩ = some (.int .i64 p) ∧ W.cell? ⟨M, 7, none⟩ = some (.int .i64 r) ∧ W.cell? ⟨M, 8, none⟩ = some (.int .i64 q) ∧ W.cell? ⟨M, 9, none⟩ = some (.slice av nV cv) ∧ W.cell? ⟨M, 10, none⟩ = some (.slice ax nx cx))) (by kernel_rfl) (by first | exact (s3.below blZ).on.cells | exact (s3.below bl).on.cells) (fun hHeld => ?_)
      generalize w3.drew = wd at *
      refine takeQ (i := 0) (v := ?_) rfl (by kernel_rfl) (by kernel_rfl) (by kernel_rfl) (fun _ _ _ h => h) (by rfl) hHeld ?_ ?_
      rotate_left
      · (intro w' hSw; (try dsimp only at hSw); go_simp <;> (with_reducible rfl))
      try simp only [Act.put, List.setIfInBounds_toArray, List.set_cons_zero, List.set_cons_succ]
      refine takeQ (i := 1) (v := ?_) rfl (by kernel_rfl) (by kernel_rfl) (by kernel_rfl) (fun _ _ _ h => h) (by rfl) hHeld ?_ ?_
      rotate_left
      · (intro w' hSw; (try dsimp only at hSw); go_simp <;> (with_reducible rfl))
      try simp only [Act.put, List.setIfInBounds_toArray, List.set_cons_zero, List.set_cons_succ]
      refine bothL (i := 2) (j := 7) (by kernel_rfl) rfl rfl (by rfl) (by rfl) (fun K hK => ?_) (fun K hK => ?_)
      · go_simp
        refine (HED.out wd (s3.below bl).ho).mono ?_
        rintro _ w5 ⟨⟨ae, ce, rfl, hle, hE⟩, b5⟩
        replace bl := bl.trans (b5.mono bl.size)
        clear b5
        try dsimp only
        refine hK.out _ _ (by first | exact (s3.below blZ).on.cells | exact (s3.below bl).on.cells) (fun hHeld => ?_)
        clear hK K
        try simp only [Act.put, List.setIfInBounds_toArray, List.set_cons_zero, List.set_cons_succ]
        refine bothL (i := 3) (j := 7) (by kernel_rfl) rfl rfl (by rfl) (by rfl) (fun K hK => ?_) (fun K hK => ?_)
        · go_simp
          refine (HOF.out ae ce w5).mono ?_
          rintro _ w6 ⟨rfl, b6⟩
          replace bl := bl.trans (b6.mono bl.size)
          clear b6 hE
          unfold mx
          try dsimp only
          refine hK.out _ _ (by first | exact (s3.below blZ).on.cells | exact (s3.below bl).on.cells) (fun hHeld => ?_)
          clear hK K
          try simp only [Act.put, List.setIfInBounds_toArray, List.set_cons_zero, List.set_cons_succ]
          refine takeQ (i := 4) (v := ?_) rfl (by kernel_rfl) (by kernel_rfl) (by kernel_rfl) (fun _ _ _ h => h) (by rfl) hHeld ?_ ?_
          rotate_left
          · (intro w' hSw; (try dsimp only at hSw); go_simp <;> (with_reducible rfl))
          try simp only [Act.put, List.setIfInBounds_toArray, List.set_cons_zero, List.set_cons_succ]
          refine takeQ (i := 5) (v := ?_) rfl (by kernel_rfl) (by kernel_rfl) (by kernel_rfl) (fun _ _ _ h => h) (by rfl) hHeld ?_ ?_
          rotate_left
          · (intro w' hSw; (try dsimp only at hSw); go_simp <;> (with_reducible rfl))
          try simp only [Act.put, List.setIfInBounds_toArray, List.set_cons_zero, List.set_cons_succ]
          refine takeQ (i := 6) (v := ?_) rfl (by kernel_rfl) (by kernel_rfl) (by kernel_rfl) (fun _ _ _ h => h) (by rfl) hHeld ?_ ?_
          rotate_left
          · (intro w' hSw; (try dsimp only at hSw); go_simp <;> (with_reducible rfl))
          try simp only [Act.put, List.setIfInBounds_toArray, List.set_cons_zero, List.set_cons_succ]
          refine callL (i := 7) (by kernel_rfl) rfl (by rfl) (fun K hK => ?_)
          go_simp
          have bq : Below w6.heap.size w6 (w6.alloc (.cells #[.int .i64 0, .int .i64 0, .slice none 0 0] 42)) := lay3_below w6 0 0 (.slice none 0 0)
          have Y : M3 w6.heap.size 0 0 (.slice none 0 0) (w6.alloc (.cells #[.int .i64 0, .int .i64 0, .slice none 0 0] 42)) := lay3_m w6 0 0 (.slice none 0 0)
          have hX1 : w3.heap.size ≤ w6.heap.size := bl.size
          replace bl := bl.trans (bq.mono bl.size)
          obtain ⟨wz, hwz⟩ : ∃ wz, w6.alloc (.cells #[.int .i64 0, .int .i64 0, .slice none 0 0] 42) = wz := ⟨_, rfl⟩
          obtain ⟨X, hX⟩ : ∃ X, w6.heap.size = X := ⟨_, rfl⟩
          rw [hwz] at bl Y bq ⊢
          rw [hX] at Y hX1 ⊢
          clear hwz hX bq
          try dsimp only
          refine hK.out _ _ (by first | exact (s3.below blZ).on.cells | exact (s3.below bl).on.cells) (fun hHeld => ?_)
          clear hK K
          try simp only [Act.put, List.setIfInBounds_toArray, List.set_cons_zero, List.set_cons_succ]
          refine callL (i := 8) (by kernel_rfl) rfl (by rfl) (fun K hK => ?_)
          obtain ⟨YZ, bt⟩ := put3_facts Y 0 0 (.slice none 0 0)
          have blZ := bl.trans (bt.below hX1 bl.size)
          obtain ⟨_, d0, d1, d2, f0, f1, f2⟩ := Y
          go_simp
          try dsimp only
          refine hK.out _ _ (by first | exact (s3.below blZ).on.cells | exact (s3.below bl).on.cells) (fun hHeld => ?_)
          clear hK K
          try simp only [Act.put, List.setIfInBounds_toArray, List.set_cons_zero, List.set_cons_succ]
          refine callL (i := 9) (by kernel_rfl) rfl (by rfl) (fun K hK => ?_)
          go_simp
          try dsimp only
          refine hK.out _ _ (by first | exact (s3.below blZ).on.cells | exact (s3.below bl).on.cells) (fun hHeld => ?_)
          clear hK K
          try simp only [Act.put, List.setIfInBounds_toArray, List.set_cons_zero, List.set_cons_succ]
          refine wpAnyH_done (by kernel_rfl) ?_ _
          clear d0 d1 d2 f0 f1 f2 bt hHeld bl
          change Exit.then _ _ _ _ (put3 wz X 0 0 (.slice none 0 0))
          generalize put3 wz X 0 0 (.slice none 0 0) = w9 at *
          go_wp2_with fail
          go_meet
          exact ⟨X, rfl, rfl, blZ⟩
        · go_simp
          have bq : Below w5.heap.size w5 (w5.alloc (.cells #[.int .i64 0, .int .i64 0, .slice none 0 0] 42)) := lay3_below w5 0 0 (.slice none 0 0)
          have Y : M3 w5.heap.size 0 0 (.slice none 0 0) (w5.alloc (.cells #[.int .i64 0, .int .i64 0, .slice none 0 0] 42)) := lay3_m w5 0 0 (.slice none 0 0)
          have hX1 : w3.heap.size ≤ w5.heap.size := bl.size
          replace bl := bl.trans (bq.mono bl.size)
          replace hE := hE.below bq
          obtain ⟨wz, hwz⟩ : ∃ wz, w5.alloc (.cells #[.int .i64 0, .int .i64 0, .slice none 0 0] 42) = wz := ⟨_, rfl⟩
          obtain ⟨X, hX⟩ : ∃ X, w5.heap.size = X := ⟨_, rfl⟩
          rw [hwz] at hE bl Y bq ⊢
          rw [hX] at Y hX1 ⊢
          clear hwz hX bq
          try dsimp only
          refine hK.out _ _ (by first | exact (s3.below blZ).on.cells | exact (s3.below bl).on.cells) (fun hHeld => ?_)
          clear hK K
          try simp only [Act.put, List.setIfInBounds_toArray, List.set_cons_zero, List.set_cons_succ]
          refine callL (i := 3) (by kernel_rfl) rfl (by rfl) (fun K hK => ?_)
          go_simp
          refine (HOF.out ae ce wz).mono ?_
          rintro _ w6 ⟨rfl, b6⟩
          replace bl := bl.trans (b6.mono bl.size)
          replace Y := Y.on b6
          clear b6 hE
          unfold mx
          try dsimp only
          refine hK.out _ _ (by first | exact (s3.below blZ).on.cells | exact (s3.below bl).on.cells) (fun hHeld => ?_)
          clear hK K
          try simp only [Act.put, List.setIfInBounds_toArray, List.set_cons_zero, List.set_cons_succ]
          refine takeQ (i := 4) (v := ?_) rfl (by kernel_rfl) (by kernel_rfl) (by kernel_rfl) (fun _ _ _ h => h) (by rfl) hHeld ?_ ?_
          rotate_left
          · (intro w' hSw; (try dsimp only at hSw); go_simp <;> (with_reducible rfl))
          try simp only [Act.put, List.setIfInBounds_toArray, List.set_cons_zero, List.set_cons_succ]
          refine takeQ (i := 5) (v := ?_) rfl (by kernel_rfl) (by kernel_rfl) (by kernel_rfl) (fun _ _ _ h => h) (by rfl) hHeld ?_ ?_
          rotate_left
          · (intro w' hSw; (try dsimp only at hSw); go_simp <;> (with_reducible rfl))
          try simp only [Act.put, List.setIfInBounds_toArray, List.set_cons_zero, List.set_cons_succ]
          refine takeQ (i := 6) (v := ?_) rfl (by kernel_rfl) (by kernel_rfl) (by kernel_rfl) (fun _ _ _ h => h) (by rfl) hHeld ?_ ?_
          rotate_left
          · (intro w' hSw; (try dsimp only at hSw); go_simp <;> (with_reducible rfl))
          try simp only [Act.put, List.setIfInBounds_toArray, List.set_cons_zero, List.set_cons_succ]
          refine callL (i := 8) (by kernel_rfl) rfl (by rfl) (fun K hK => ?_)
          obtain ⟨YZ, bt⟩ := put3_facts Y 0 0 (.slice none 0 0)
          have blZ := bl.trans (bt.below hX1 bl.size)
          obtain ⟨_, d0, d1, d2, f0, f1, f2⟩ := Y
          go_simp
          try dsimp only
          refine hK.out _ _ (by first | exact (s3.below blZ).on.cells | exact (s3.below bl).on.cells) (fun hHeld => ?_)
          clear hK K
          try simp only [Act.put, List.setIfInBounds_toArray, List.set_cons_zero, List.set_cons_succ]
          refine callL (i := 9) (by kernel_rfl) rfl (by rfl) (fun K hK => ?_)
          go_simp
          try dsimp only
          refine hK.out _ _ (by first | exact (s3.below blZ).on.cells | exact (s3.below bl).on.cells) (fun hHeld => ?_)
          clear hK K
          try simp only [Act.put, List.setIfInBounds_toArray, List.set_cons_zero, List.set_cons_succ]
          refine wpAnyH_done (by kernel_rfl) ?_ _
          clear d0 d1 d2 f0 f1 f2 bt hHeld bl
          change Exit.then _ _ _ _ (put3 w6 X 0 0 (.slice none 0 0))
          generalize put3 w6 X 0 0 (.slice none 0 0) = w9 at *
          go_wp2_with fail
          go_meet
          exact ⟨X, rfl, rfl, blZ⟩
      · go_simp
        have bq : Below wd.heap.size wd (wd.alloc (.cells #[.int .i64 0, .int .i64 0, .slice none 0 0] 42)) := lay3_below wd 0 0 (.slice none 0 0)
        have Y : M3 wd.heap.size 0 0 (.slice none 0 0) (wd.alloc (.cells #[.int .i64 0, .int .i64 0, .slice none 0 0] 42)) := lay3_m wd 0 0 (.slice none 0 0)
        have hX1 : w3.heap.size ≤ wd.heap.size := bl.size
        replace bl := bl.trans (bq.mono bl.size)
        obtain ⟨wz, hwz⟩ : ∃ wz, wd.alloc (.cells #[.int .i64 0, .int .i64 0, .slice none 0 0] 42) = wz := ⟨_, rfl⟩
        obtain ⟨X, hX⟩ : ∃ X, wd.heap.size = X := ⟨_, rfl⟩
        rw [hwz] at bl Y bq ⊢
        rw [hX] at Y hX1 ⊢
        clear hwz hX bq
        try dsimp only
        refine hK.out _ _ (by first | exact (s3.below blZ).on.cells | exact (s3.below bl).on.cells) (fun hHeld => ?_)
        clear hK K
        try simp only [Act.put, List.setIfInBounds_toArray, List.set_cons_zero, List.set_cons_succ]
        refine callL (i := 2) (by kernel_rfl) rfl (by rfl) (fun K hK => ?_)
        go_simp
        refine (HED.out wz (s3.below bl).ho).mono ?_
        rintro _ w5 ⟨⟨ae, ce, rfl, hle, hE⟩, b5⟩
        replace bl := bl.trans (b5.mono bl.size)
        replace Y := Y.on b5
        clear b5
        try dsimp only
        refine hK.out _ _ (by first | exact (s3.below blZ).on.cells | exact (s3.below bl).on.cells) (fun hHeld => ?_)
        clear hK K
        try simp only [Act.put, List.setIfInBounds_toArray, List.set_cons_zero, List.set_cons_succ]
        refine callL (i := 3) (by kernel_rfl) rfl (by rfl) (fun K hK => ?_)
        go_simp
        refine (HOF.out ae ce w5).mono ?_
        rintro _ w6 ⟨rfl, b6⟩
        replace bl := bl.trans (b6.mono bl.size)
        replace Y := Y.on b6
        clear b6 hE
        unfold mx
        try dsimp only
        refine hK.out _ _ (by first | exact (s3.below blZ).on.cells | exact (s3.below bl).on.cells) (fun hHeld => ?_)
        clear hK K
        try simp only [Act.put, List.setIfInBounds_toArray, List.set_cons_zero, List.set_cons_succ]
        refine takeQ (i := 4) (v := ?_) rfl (by kernel_rfl) (by kernel_rfl) (by kernel_rfl) (fun _ _ _ h => h) (by rfl) hHeld ?_ ?_
        rotate_left
        · (intro w' hSw; (try dsimp only at hSw); go_simp <;> (with_reducible rfl))
        try simp only [Act.put, List.setIfInBounds_toArray, List.set_cons_zero, List.set_cons_succ]
        refine takeQ (i := 5) (v := ?_) rfl (by kernel_rfl) (by kernel_rfl) (by kernel_rfl) (fun _ _ _ h => h) (by rfl) hHeld ?_ ?_
        rotate_left
        · (intro w' hSw; (try dsimp only at hSw); go_simp <;> (with_reducible rfl))
        try simp only [Act.put, List.setIfInBounds_toArray, List.set_cons_zero, List.set_cons_succ]
        refine takeQ (i := 6) (v := ?_) rfl (by kernel_rfl) (by kernel_rfl) (by kernel_rfl) (fun _ _ _ h => h) (by rfl) hHeld ?_ ?_
        rotate_left
        · (intro w' hSw; (try dsimp only at hSw); go_simp <;> (with_reducible rfl))
        try simp only [Act.put, List.setIfInBounds_toArray, List.set_cons_zero, List.set_cons_succ]
        refine callL (i := 8) (by kernel_rfl) rfl (by rfl) (fun K hK => ?_)
        obtain ⟨YZ, bt⟩ := put3_facts Y 0 0 (.slice none 0 0)
        have blZ := bl.trans (bt.below hX1 bl.size)
        obtain ⟨_, d0, d1, d2, f0, f1, f2⟩ := Y
        go_simp
        try dsimp only
        refine hK.out _ _ (by first | exact (s3.below blZ).on.cells | exact (s3.below bl).on.cells) (fun hHeld => ?_)
        clear hK K
        try simp only [Act.put, List.setIfInBounds_toArray, List.set_cons_zero, List.set_cons_succ]
        refine callL (i := 9) (by kernel_rfl) rfl (by rfl) (fun K hK => ?_)
        go_simp
        try dsimp only
        refine hK.out _ _ (by first | exact (s3.below blZ).on.cells | exact (s3.below bl).on.cells) (fun hHeld => ?_)
        clear hK K
        try simp only [Act.put, List.setIfInBounds_toArray, List.set_cons_zero, List.set_cons_succ]
        refine wpAnyH_done (by kernel_rfl) ?_ _
        clear d0 d1 d2 f0 f1 f2 bt hHeld bl
        change Exit.then _ _ _ _ (put3 w6 X 0 0 (.slice none 0 0))
        generalize put3 w6 X 0 0 (.slice none 0 0) = w9 at *
        go_wp2_with fail
        go_meet
        exact ⟨X, rfl, rfl, blZ⟩
    case rest =>
      obtain ⟨X, rfl, rfl, bl⟩ := hcut
      have HBE := Lib.hid (s3.below bl).bel
      clear s3 bl HED HOF
      go_wp2_with fail
      refine (bfixed_any _).mono ?_
      rintro e w9 ⟨rfl, b9⟩
      have HB9 := Lib.hid (HBE.out.trans (b9.mono HBE.out.size))
      clear b9
      go_wp2_with fail
      go_ret
      exact ⟨rfl, HB9.out⟩
end Go.Proofs.Ytjaogmbeoldefaa
