/-
  BinsTurns' walk: what turning a column of any matrix by any numbers makes is the document's; the matrix that was handed in stays. Condition: the numbers are of 64 bits with a sign.
-/
import Derived.Test.YtjaogmbeoldefaaBinY
import Derived.Deep.DeepCutAuto
namespace Go.Proofs.Ytjaogmbeoldefaa
open Go.RowKit

theorem own_form {α : Type} {K : Kind α} {w : World} {B : Nat} {v : Value} {l : List α} (h : Own K w B v l) : ∃ a n c, v = .slice a n c := by
  rcases h.lst with ⟨rfl, _⟩ | ⟨g, c, rfl, _⟩
  · exact ⟨_, _, _, rfl⟩
  · exact ⟨_, _, _, rfl⟩
theorem own_m3 {w w' : World} {B X nv cv : Nat} {av : Option Addr} {C : List Int} {r q : Int} {u : Value} (ov : Own KW w B (.slice av nv cv) C) (Y : M3 X r q u w) (bt : But X w w') : nv = C.length ∧ HoldsE KW w' av C := by
  rcases ov.lst with ⟨h1, h2⟩ | ⟨g, cap, h1, hB, _, _, hL⟩
  · cases h1
    rw [h2]
    exact ⟨rfl, .inl rfl⟩
  · cases h1
    refine ⟨rfl, ?_⟩
    cases C with
    | nil => exact .inl rfl
    | cons z C =>
      have hne : g ≠ X := by
        intro e
        subst e
        have h1 := hL.cell 0 (by simp)
        have h2 := Y.c0
        rw [Nat.zero_add] at h1
        rw [h1] at h2
        cases h2
      exact (hL.but bt hne).holds

set_option maxRecDepth 20000 in
set_option maxHeartbeats 4000000 in
theorem turns_any (r q x : Int) (a aP : Option Addr) (n c nP cP : Nat) (C p : List Int) (hC : C.length = n) (hcc : n ≤ c) (ha : a = none → c = 0) (hP : p.length = nP) (h64 : In64s p) (h : greatB r q n = false) (hnP : nP ≤ 200) (w : World) (hw : HoldsE KW w a C) (hp : HoldsE KN w aP p) :
    Calls Try.prog 5 #[mx r q (.slice a n c), .int .i64 x, .slice aP nP cP] w fun e w' => e = .returned (.bool true) ∧ Below w.heap.size w w' := by
  have hn : n ≤ 500 := by
    have := of_decide_eq_false h
    omega
  have q0 := MatS.start r q a n c C w hw
  have hp0 := hp.below (lay3_below w r q (.slice a n c))
  have cg := great_any r q a n c (lay3 w r q (.slice a n c))
  rw [h] at cg
  have g200 : ¬ (200 : Int) < (nP : Int) := by omega
  have HCL := Lib.hid hC
  have HCA := Lib.hid ha
  have HNB := Lib.hid hn
  have HTY : Hid (MayTurn r q x n p → ∀ W, HoldsE KW W a C → HoldsE KN W aP p → Calls Try.prog 24 #[mx r q (.slice a n c), .int .i64 x, .slice aP nP cP] W fun e w' => GotT e w' W.heap.size r q n (turnI C r x p) ∧ Below W.heap.size W w') :=
    fun hm W h1 h2 => turnM_yes r q x a aP n c nP cP C p hC (by omega) hP h64 hm hcc ha W h1 h2
  have HRY : Hid (MayTurn r q x n p → ∀ W, HoldsE KW W a C → HoldsE KN W aP p → Calls Try.prog 25 #[mx r q (.slice a n c), .int .i64 x, .slice aP nP cP] W fun e w' => GotT e w' W.heap.size r q n (turnI C r x p) ∧ Below W.heap.size W w') :=
    fun hm W h1 h2 => refTurn_yes r q x a aP n c nP cP C p hC (by omega) hP (by omega) hm W h1 h2
  have HTN : Hid (¬ MayTurn r q x n p → ∀ W, HoldsE KN W aP p → Calls Try.prog 24 #[mx r q (.slice a n c), .int .i64 x, .slice aP nP cP] W fun e w' => NoTurn e ∧ Below W.heap.size W w') :=
    fun hm W h2 => turnM_no r q x a aP n c nP cP p hP (by omega) h64 hm W h2
  have HRN : Hid (¬ MayTurn r q x n p → ∀ W, HoldsE KN W aP p → Calls Try.prog 25 #[mx r q (.slice a n c), .int .i64 x, .slice aP nP cP] W fun e w' => NoTurn e ∧ Below W.heap.size W w') :=
    fun hm W h2 => refTurn_no r q x a aP n c nP cP p hP (by omega) hm W h2
  have HDL : Hid ((turnI C r x p).length = n) := by show _ = _; rw [turnI_len]; exact hC
  unfold mx at *
  clear hC hcc ha hP h64 h hnP hw hp hn
  go_enter Try.func5, Try.ntmps5
  go_wp2_with fail
  change Calls _ _ _ (lay3 w r q (.slice a n c)) _
  generalize lay3 w r q (.slice a n c) = w0 at *
  obtain ⟨N, hN⟩ : ∃ N, w.heap.size = N := ⟨_, rfl⟩
  have HNN := Lib.hid hN
  rw [hN] at q0 ⊢
  clear hN
  refine cg.mono ?_
  rintro e w1 ⟨rfl, b1⟩
  have q1 := q0.below b1
  have hp1 := hp0.below b1
  clear cg q0 b1 hp0
  go_upto_region 3 with fail
  go_cut [7] (fun s7 wx => ∃ (X : Nat) (av : Option Addr) (cv : Nat), s7 = .pointer (some ⟨X, 0, none⟩) ∧ w1.heap.size ≤ X ∧ M3 X r q (.slice av n cv) wx ∧ HoldsE KW wx av C ∧ Below w1.heap.size w1 wx)
  case first =>
    have bl : Below w1.heap.size w1 w1.drew := (Below.refl _ w1).drew
    refine wp_region_held_drew (S := (fun W => W.cell? ⟨N, 0, none⟩ = some (.int .i64 r) ∧ W.cell? ⟨N, 1, none⟩ = some (.int .i64 q) ∧ W.cell? ⟨N, 2, none⟩ = some (.slice a n c))) (by kernel_rfl) (by first | exact (q1.below blZ).cells | exact (q1.below bl).cells) (fun hHeld => ?_)
    generalize w1.drew = wd at *
    refine takeQ (i := 0) (v := ?_) rfl (by kernel_rfl) (by kernel_rfl) (by kernel_rfl) (fun _ _ _ h => h) (by rfl) hHeld ?_ ?_
    rotate_left
    · (intro w' hSw; (try dsimp only at hSw); go_simp <;> (with_reducible rfl))
    try simp only [Act.put, List.setIfInBounds_toArray, List.set_cons_zero, List.set_cons_succ]
    refine takeQ (i := 1) (v := ?_) rfl (by kernel_rfl) (by kernel_rfl) (by kernel_rfl) (fun _ _ _ h => h) (by rfl) hHeld ?_ ?_
    rotate_left
    · (intro w' hSw; (try dsimp only at hSw); go_simp <;> (with_reducible rfl))
    try simp only [Act.put, List.setIfInBounds_toArray, List.set_cons_zero, List.set_cons_succ]
    refine takeQ (i := 2) (v := ?_) rfl (by kernel_rfl) (by kernel_rfl) (by kernel_rfl) (fun _ _ _ h => h) (by rfl) hHeld ?_ ?_
    rotate_left
    · (intro w' hSw; (try dsimp only at hSw); go_simp <;> (with_reducible rfl))
    try simp only [Act.put, List.setIfInBounds_toArray, List.set_cons_zero, List.set_cons_succ]
    refine takeQ (i := 3) (v := ?_) rfl (by kernel_rfl) (by kernel_rfl) (by kernel_rfl) (fun _ _ _ h => h) (by rfl) hHeld ?_ ?_
    rotate_left
    · (intro w' hSw; (try dsimp only at hSw); go_simp <;> (with_reducible rfl))
    try simp only [Act.put, List.setIfInBounds_toArray, List.set_cons_zero, List.set_cons_succ]
    refine takeQ (i := 5) (v := ?_) rfl (by kernel_rfl) (by kernel_rfl) (by kernel_rfl) (fun _ _ _ h => h) (by rfl) hHeld ?_ ?_
    rotate_left
    · (intro w' hSw; (try dsimp only at hSw); go_simp <;> (with_reducible rfl))
    try simp only [Act.put, List.setIfInBounds_toArray, List.set_cons_zero, List.set_cons_succ]
    refine takeQ (i := 6) (v := ?_) rfl (by kernel_rfl) (by kernel_rfl) (by kernel_rfl) (fun _ _ _ h => h) (by rfl) hHeld ?_ ?_
    rotate_left
    · (intro w' hSw; (try dsimp only at hSw); go_simp <;> (with_reducible rfl))
    try simp only [Act.put, List.setIfInBounds_toArray, List.set_cons_zero, List.set_cons_succ]
    refine bothL (i := 4) (j := 9) (by kernel_rfl) rfl rfl (by rfl) (by rfl) (fun K hK => ?_) (fun K hK => ?_)
    · go_simp
      have b4 := (Below.refl wd.heap.size wd).alloc (Nat.le_refl _) (.cells #[] 59)
      have ov : Own KW (wd.alloc (.cells #[] 59)) wd.heap.size (.slice (some ⟨wd.heap.size, 0, none⟩) 0 0) [] := Own.start wd wd.heap.size (Nat.le_refl _)
      have hB1 : w1.heap.size ≤ wd.heap.size := bl.size
      replace bl := bl.trans (b4.mono bl.size)
      have hB4 := b4.size
      obtain ⟨w4, hw4⟩ : ∃ w4, wd.alloc (.cells #[] 59) = w4 := ⟨_, rfl⟩
      obtain ⟨B, hB⟩ : ∃ B, wd.heap.size = B := ⟨_, rfl⟩
      rw [hw4] at ov bl hB4 b4 ⊢
      rw [hB] at ov hB1 hB4 ⊢
      have hBL : B < w4.heap.size := (World.ownsRow.lt ov B rfl).2
      clear hw4 hB b4
      try dsimp only
      refine hK.out _ _ (by first | exact (q1.below blZ).cells | exact (q1.below bl).cells) (fun hHeld => ?_)
      clear hK K
      try simp only [Act.put, List.setIfInBounds_toArray, List.set_cons_zero, List.set_cons_succ]
      refine bothL (i := 7) (j := 9) (by kernel_rfl) rfl rfl (by rfl) (by rfl) (fun K hK => ?_) (fun K hK => ?_)
      · refine app_wpN (w := w4) okW _ _ rfl B hB4 _ _ _ _ rfl ov a n c C rfl HCL.out HCA.out (q1.below bl).ho (by have := HCL.out; have := HNB.out; simp; omega) ?_
        intro v3 w3 ov3 b3 u3
        rw [List.nil_append] at ov3
        obtain ⟨av, nv, cv, rfl⟩ := own_form ov3
        replace bl := bl.trans (b3.mono hB1)
        have hB3 := Nat.le_trans hB4 b3.size
        clear b3 u3 ov
        try dsimp only
        refine hK.out _ _ (by first | exact (q1.below blZ).cells | exact (q1.below bl).cells) (fun hHeld => ?_)
        clear hK K
        try simp only [Act.put, List.setIfInBounds_toArray, List.set_cons_zero, List.set_cons_succ]
        refine takeQ (i := 8) (v := ?_) rfl (by kernel_rfl) (by kernel_rfl) (by kernel_rfl) (fun _ _ _ h => h) (by rfl) hHeld ?_ ?_
        rotate_left
        · (intro w' hSw; (try dsimp only at hSw); go_simp <;> (with_reducible rfl))
        try simp only [Act.put, List.setIfInBounds_toArray, List.set_cons_zero, List.set_cons_succ]
        refine callL (i := 9) (by kernel_rfl) rfl (by rfl) (fun K hK => ?_)
        go_simp
        have bq : Below w3.heap.size w3 (w3.alloc (.cells #[.int .i64 0, .int .i64 0, .slice none 0 0] 42)) := lay3_below w3 0 0 (.slice none 0 0)
        have Y : M3 w3.heap.size 0 0 (.slice none 0 0) (w3.alloc (.cells #[.int .i64 0, .int .i64 0, .slice none 0 0] 42)) := lay3_m w3 0 0 (.slice none 0 0)
        have hX1 : w1.heap.size ≤ w3.heap.size := bl.size
        replace ov3 := ov3.below bq
        replace bl := bl.trans (bq.mono bl.size)
        obtain ⟨wz, hwz⟩ : ∃ wz, w3.alloc (.cells #[.int .i64 0, .int .i64 0, .slice none 0 0] 42) = wz := ⟨_, rfl⟩
        obtain ⟨X, hX⟩ : ∃ X, w3.heap.size = X := ⟨_, rfl⟩
        rw [hwz] at ov3 bl Y bq ⊢
        rw [hX] at Y hX1 ⊢
        have hXz : X < wz.heap.size := Y.lt
        clear hwz hX bq
        try dsimp only
        refine hK.out _ _ (by first | exact (q1.below blZ).cells | exact (q1.below bl).cells) (fun hHeld => ?_)
        clear hK K
        try simp only [Act.put, List.setIfInBounds_toArray, List.set_cons_zero, List.set_cons_succ]
        refine callL (i := 10) (by kernel_rfl) rfl (by rfl) (fun K hK => ?_)
        obtain ⟨YZ, bt⟩ := put3_facts Y r q (.slice av nv cv)
        obtain ⟨rfl, hvZ⟩ := own_m3 ov3 Y bt
        have blZ := bl.trans (bt.below hX1 bl.size)
        obtain ⟨_, d0, d1, d2, f0, f1, f2⟩ := Y
        go_simp
        try dsimp only
        refine hK.out _ _ (by first | exact (q1.below blZ).cells | exact (q1.below bl).cells) (fun hHeld => ?_)
        clear hK K
        try simp only [Act.put, List.setIfInBounds_toArray, List.set_cons_zero, List.set_cons_succ]
        refine wpAnyH_done (by kernel_rfl) ?_ _
        clear d0 d1 d2 f0 f1 f2 ov3 bt hHeld bl
        change Exit.then _ _ _ _ (put3 wz X r q (.slice av C.length cv))
        generalize put3 wz X r q (.slice av C.length cv) = w9 at *
        go_wp2_with fail
        go_meet
        rw [HCL.out] at YZ
        exact ⟨X, av, cv, rfl, hX1, YZ, hvZ, blZ⟩
      · go_simp
        have bq : Below w4.heap.size w4 (w4.alloc (.cells #[.int .i64 0, .int .i64 0, .slice none 0 0] 42)) := lay3_below w4 0 0 (.slice none 0 0)
        have Y : M3 w4.heap.size 0 0 (.slice none 0 0) (w4.alloc (.cells #[.int .i64 0, .int .i64 0, .slice none 0 0] 42)) := lay3_m w4 0 0 (.slice none 0 0)
        have hX1 : w1.heap.size ≤ w4.heap.size := bl.size
        replace bl := bl.trans (bq.mono bl.size)
        have hBX : B < w4.heap.size := hBL
        replace ov := ov.below bq
        have hBz := Nat.le_trans (Nat.le_of_lt hBX) bq.size
        obtain ⟨wz, hwz⟩ : ∃ wz, w4.alloc (.cells #[.int .i64 0, .int .i64 0, .slice none 0 0] 42) = wz := ⟨_, rfl⟩
        obtain ⟨X, hX⟩ : ∃ X, w4.heap.size = X := ⟨_, rfl⟩
        rw [hwz] at ov hBz bl Y bq ⊢
        rw [hX] at hBX Y hX1 ⊢
        have hXz : X < wz.heap.size := Y.lt
        clear hwz hX bq
        try dsimp only
        refine hK.out _ _ (by first | exact (q1.below blZ).cells | exact (q1.below bl).cells) (fun hHeld => ?_)
        clear hK K
        try simp only [Act.put, List.setIfInBounds_toArray, List.set_cons_zero, List.set_cons_succ]
        refine callL (i := 7) (by kernel_rfl) rfl (by rfl) (fun K hK => ?_)
        refine app_wpN (w := wz) okW _ _ rfl B hBz _ _ _ _ rfl ov a n c C rfl HCL.out HCA.out (q1.below bl).ho (by have := HCL.out; have := HNB.out; simp; omega) ?_
        intro v3 w3 ov3 b3 u3
        rw [List.nil_append] at ov3
        obtain ⟨av, nv, cv, rfl⟩ := own_form ov3
        replace bl := bl.trans (b3.mono hB1)
        have hB3 := Nat.le_trans hBz b3.size
        replace Y := Y.but u3 (by omega)
        clear b3 u3 ov
        try dsimp only
        refine hK.out _ _ (by first | exact (q1.below blZ).cells | exact (q1.below bl).cells) (fun hHeld => ?_)
        clear hK K
        try simp only [Act.put, List.setIfInBounds_toArray, List.set_cons_zero, List.set_cons_succ]
        refine takeQ (i := 8) (v := ?_) rfl (by kernel_rfl) (by kernel_rfl) (by kernel_rfl) (fun _ _ _ h => h) (by rfl) hHeld ?_ ?_
        rotate_left
        · (intro w' hSw; (try dsimp only at hSw); go_simp <;> (with_reducible rfl))
        try simp only [Act.put, List.setIfInBounds_toArray, List.set_cons_zero, List.set_cons_succ]
        refine callL (i := 10) (by kernel_rfl) rfl (by rfl) (fun K hK => ?_)
        obtain ⟨YZ, bt⟩ := put3_facts Y r q (.slice av nv cv)
        obtain ⟨rfl, hvZ⟩ := own_m3 ov3 Y bt
        have blZ := bl.trans (bt.below hX1 bl.size)
        obtain ⟨_, d0, d1, d2, f0, f1, f2⟩ := Y
        go_simp
        try dsimp only
        refine hK.out _ _ (by first | exact (q1.below blZ).cells | exact (q1.below bl).cells) (fun hHeld => ?_)
        clear hK K
        try simp only [Act.put, List.setIfInBounds_toArray, List.set_cons_zero, List.set_cons_succ]
        refine wpAnyH_done (by kernel_rfl) ?_ _
        clear d0 d1 d2 f0 f1 f2 ov3 bt hHeld bl
        change Exit.then _ _ _ _ (put3 w3 X r q (.slice av C.length cv))
        generalize put3 w3 X r q (.slice av C.length cv) = w9 at *
        go_wp2_with fail
        go_meet
        rw [HCL.out] at YZ
        exact ⟨X, av, cv, rfl, hX1, YZ, hvZ, blZ⟩
    · go_simp
      have bq : Below wd.heap.size wd (wd.alloc (.cells #[.int .i64 0, .int .i64 0, .slice none 0 0] 42)) := lay3_below wd 0 0 (.slice none 0 0)
      have Y : M3 wd.heap.size 0 0 (.slice none 0 0) (wd.alloc (.cells #[.int .i64 0, .int .i64 0, .slice none 0 0] 42)) := lay3_m wd 0 0 (.slice none 0 0)
      have hX1 : w1.heap.size ≤ wd.heap.size := bl.size
      replace bl := bl.trans (bq.mono bl.size)
      obtain ⟨wz, hwz⟩ : ∃ wz, wd.alloc (.cells #[.int .i64 0, .int .i64 0, .slice none 0 0] 42) = wz := ⟨_, rfl⟩
      obtain ⟨X, hX⟩ : ∃ X, wd.heap.size = X := ⟨_, rfl⟩
      rw [hwz] at bl Y bq ⊢
      rw [hX] at Y hX1 ⊢
      have hXz : X < wz.heap.size := Y.lt
      clear hwz hX bq
      try dsimp only
      refine hK.out _ _ (by first | exact (q1.below blZ).cells | exact (q1.below bl).cells) (fun hHeld => ?_)
      clear hK K
      try simp only [Act.put, List.setIfInBounds_toArray, List.set_cons_zero, List.set_cons_succ]
      refine callL (i := 4) (by kernel_rfl) rfl (by rfl) (fun K hK => ?_)
      go_simp
      have b4 := (Below.refl wz.heap.size wz).alloc (Nat.le_refl _) (.cells #[] 59)
      have ov : Own KW (wz.alloc (.cells #[] 59)) wz.heap.size (.slice (some ⟨wz.heap.size, 0, none⟩) 0 0) [] := Own.start wz wz.heap.size (Nat.le_refl _)
      have hB1 : w1.heap.size ≤ wz.heap.size := bl.size
      replace bl := bl.trans (b4.mono bl.size)
      have hB4 := b4.size
      replace Y := Y.on b4
      obtain ⟨w4, hw4⟩ : ∃ w4, wz.alloc (.cells #[] 59) = w4 := ⟨_, rfl⟩
      obtain ⟨B, hB⟩ : ∃ B, wz.heap.size = B := ⟨_, rfl⟩
      rw [hw4] at ov bl hB4 b4 Y ⊢
      rw [hB] at ov hB1 hB4 hXz ⊢
      have hBL : B < w4.heap.size := (World.ownsRow.lt ov B rfl).2
      clear hw4 hB b4
      try dsimp only
      refine hK.out _ _ (by first | exact (q1.below blZ).cells | exact (q1.below bl).cells) (fun hHeld => ?_)
      clear hK K
      try simp only [Act.put, List.setIfInBounds_toArray, List.set_cons_zero, List.set_cons_succ]
      refine callL (i := 7) (by kernel_rfl) rfl (by rfl) (fun K hK => ?_)
      refine app_wpN (w := w4) okW _ _ rfl B hB4 _ _ _ _ rfl ov a n c C rfl HCL.out HCA.out (q1.below bl).ho (by have := HCL.out; have := HNB.out; simp; omega) ?_
      intro v3 w3 ov3 b3 u3
      rw [List.nil_append] at ov3
      obtain ⟨av, nv, cv, rfl⟩ := own_form ov3
      replace bl := bl.trans (b3.mono hB1)
      have hB3 := Nat.le_trans hB4 b3.size
      replace Y := Y.but u3 (by omega)
      clear b3 u3 ov
      try dsimp only
      refine hK.out _ _ (by first | exact (q1.below blZ).cells | exact (q1.below bl).cells) (fun hHeld => ?_)
      clear hK K
      try simp only [Act.put, List.setIfInBounds_toArray, List.set_cons_zero, List.set_cons_succ]
      refine takeQ (i := 8) (v := ?_) rfl (by kernel_rfl) (by kernel_rfl) (by kernel_rfl) (fun _ _ _ h => h) (by rfl) hHeld ?_ ?_
      rotate_left
      · (intro w' hSw; (try dsimp only at hSw); go_simp <;> (with_reducible rfl))
      try simp only [Act.put, List.setIfInBounds_toArray, List.set_cons_zero, List.set_cons_succ]
      refine callL (i := 10) (by kernel_rfl) rfl (by rfl) (fun K hK => ?_)
      obtain ⟨YZ, bt⟩ := put3_facts Y r q (.slice av nv cv)
      obtain ⟨rfl, hvZ⟩ := own_m3 ov3 Y bt
      have blZ := bl.trans (bt.below hX1 bl.size)
      obtain ⟨_, d0, d1, d2, f0, f1, f2⟩ := Y
      go_simp
      try dsimp only
      refine hK.out _ _ (by first | exact (q1.below blZ).cells | exact (q1.below bl).cells) (fun hHeld => ?_)
      clear hK K
      try simp only [Act.put, List.setIfInBounds_toArray, List.set_cons_zero, List.set_cons_succ]
      refine wpAnyH_done (by kernel_rfl) ?_ _
      clear d0 d1 d2 f0 f1 f2 ov3 bt hHeld bl
      change Exit.then _ _ _ _ (put3 w3 X r q (.slice av C.length cv))
      generalize put3 w3 X r q (.slice av C.length cv) = w9 at *
      go_wp2_with fail
      go_meet
      rw [HCL.out] at YZ
      exact ⟨X, av, cv, rfl, hX1, YZ, hvZ, blZ⟩
  case rest =>
    obtain ⟨X, av, cv, rfl, hX1, Y, hv, bl⟩ := hcut
    have q2 := q1.below bl
    have hp2 := hp1.below bl
    obtain ⟨e0, e1, e2⟩ := q2.cells
    clear q1 hp1 bl hX1 g200
    by_cases hm : MayTurn r q x n p
    · have HMM := Lib.hid hm
      go_wp2_with fail
      refine (HTY.out hm wc q2.ho hp2).mono ?_
      rintro e w3 ⟨⟨at1, ctt, rfl, hlt, hct, hat, hT⟩, b3⟩
      have bl3 := (Below.refl wc.heap.size wc).trans b3
      have bA := lay3_below w3 r q (.slice at1 n ctt)
      have MA := lay3_m w3 r q (.slice at1 n ctt)
      have bl4 := bl3.trans (bA.mono bl3.size)
      have q4 := q2.below bl4
      have hT4 : turnI C r x p = [] ∨ ∃ g, at1 = some ⟨g, 0, none⟩ ∧ wc.heap.size ≤ g ∧ g < w3.heap.size ∧ Lst KW g 0 (turnI C r x p) (lay3 w3 r q (.slice at1 n ctt)) := by
        rcases hT with h | ⟨g, h1, h2, h3⟩
        · exact .inl h
        · exact .inr ⟨g, h1, h2, h3.lt, h3.below bA h3.lt⟩
      obtain ⟨X8, hX8⟩ : ∃ X8, w3.heap.size = X8 := ⟨_, rfl⟩
      have hX8w : wc.heap.size ≤ X8 := by rw [← hX8]; exact bl3.size
      have e0 : (w3.alloc (.cells #[.int .i64 r, .int .i64 q, .slice at1 n ctt] 42)).cell? ⟨N, 0, none⟩ = some (.int .i64 r) := q4.cells.1
      have e1 : (w3.alloc (.cells #[.int .i64 r, .int .i64 q, .slice at1 n ctt] 42)).cell? ⟨N, 1, none⟩ = some (.int .i64 q) := q4.cells.2.1
      have e2 : (w3.alloc (.cells #[.int .i64 r, .int .i64 q, .slice at1 n ctt] 42)).cell? ⟨N, 2, none⟩ = some (.slice a n c) := q4.cells.2.2
      rw [hX8] at MA hT4
      have d5 := HRY.out hm (lay3 w3 r q (.slice at1 n ctt)) q4.ho (hp2.below bl4)
      clear b3 bl3 bA
      clear hT
      unfold mx
      go_wp2_with fail
      change Calls _ _ _ (lay3 w3 r q (.slice at1 n ctt)) _
      generalize lay3 w3 r q (.slice at1 n ctt) = w4 at *
      clear e0 e1 e2 hX8
      refine d5.mono ?_
      rintro e w5 ⟨⟨at2, ct2, rfl, hlt2, hct2, hat2, hT2⟩, b5⟩
      have bl5 := bl4.trans (b5.mono bl4.size)
      have MA5 := MA.on b5
      have hT5 : turnI C r x p = [] ∨ ∃ g, at1 = some ⟨g, 0, none⟩ ∧ wc.heap.size ≤ g ∧ g < X8 ∧ Lst KW g 0 (turnI C r x p) w5 := by
        rcases hT4 with h | ⟨g, h1, h2, h3, h4⟩
        · exact .inl h
        · exact .inr ⟨g, h1, h2, h3, h4.below b5 h4.lt⟩
      have hU5 : HoldsE KW w5 at2 (turnI C r x p) := holds_got hT2
      have bB := lay3_below w5 r q (.slice at2 n ct2)
      have MB := lay3_m w5 r q (.slice at2 n ct2)
      have bl6 := bl5.trans (bB.mono bl5.size)
      have MA6 := MA5.on bB
      have hT6 : turnI C r x p = [] ∨ ∃ g, at1 = some ⟨g, 0, none⟩ ∧ wc.heap.size ≤ g ∧ g < X8 ∧ Lst KW g 0 (turnI C r x p) (lay3 w5 r q (.slice at2 n ct2)) := by
        rcases hT5 with h | ⟨g, h1, h2, h3, h4⟩
        · exact .inl h
        · exact .inr ⟨g, h1, h2, h3, h4.below bB h4.lt⟩
      have hU6 := hU5.below bB
      obtain ⟨X9, hX9⟩ : ∃ X9, w5.heap.size = X9 := ⟨_, rfl⟩
      rw [hX9] at MB
      obtain ⟨_, f0, f1, f2, _, _, _⟩ := MA6
      have f0 : (w5.alloc (.cells #[.int .i64 r, .int .i64 q, .slice at2 n ct2] 42)).cell? ⟨X8, 0, none⟩ = some (.int .i64 r) := f0
      have f1 : (w5.alloc (.cells #[.int .i64 r, .int .i64 q, .slice at2 n ct2] 42)).cell? ⟨X8, 1, none⟩ = some (.int .i64 q) := f1
      have f2 : (w5.alloc (.cells #[.int .i64 r, .int .i64 q, .slice at2 n ct2] 42)).cell? ⟨X8, 2, none⟩ = some (.slice at1 n ctt) := f2
      clear b5 bl4 bl5 q4 d5 MA bB
      clear hT4 hT5 hU5 hT2
      unfold mx
      go_wp2_with fail
      change Calls _ _ _ (lay3 w5 r q (.slice at2 n ct2)) _
      have MA6 := MA5.on (lay3_below w5 r q (.slice at2 n ct2))
      generalize lay3 w5 r q (.slice at2 n ct2) = w6 at *
      clear f0 f1 f2 MA5 hX9
      have hTh : HoldsE KW w6 at1 (turnI C r x p) := by
        rcases hT6 with h | ⟨g, h1, _, _, h4⟩
        · exact .inl h
        · rw [h1]; exact h4.holds
      refine (sameM_any r q r q at1 at2 n n ctt ct2 (turnI C r x p) (turnI C r x p) HDL.out HDL.out (by have := HNB.out; omega) w6 hTh hU6).mono ?_
      rintro e w7 ⟨rfl, b7⟩
      rw [show decide (SameM r q (turnI C r x p) r q (turnI C r x p)) = true from decide_eq_true ⟨rfl, rfl, rfl⟩]
      have bl7 := bl6.trans (b7.mono bl6.size)
      have MA7 := MA6.on b7
      have hT7 : n = 0 ∨ ∃ g, at1 = some ⟨g, 0, none⟩ ∧ wc.heap.size ≤ g ∧ g < X8 ∧ Lst KW g 0 (turnI C r x p) w7 := by
        rcases hT6 with h | ⟨g, h1, h2, h3, h4⟩
        · exact .inl (by rw [← HDL.out, h]; rfl)
        · exact .inr ⟨g, h1, h2, h3, h4.below b7 h4.lt⟩
      clear b7 bl6 MA6 hTh hU6 hT6 MB hm
      have f2 := MA7.c2
      go_wp2_with fail
      clear f2
      go_loopw [56] (fun v wr => ∃ (i : Nat) (D' : List Int), v = .int .i64 (i : Int) ∧ i ≤ n ∧ D'.length = n ∧ (n = 0 ∨ ∃ g, at1 = some ⟨g, 0, none⟩ ∧ wc.heap.size ≤ g ∧ g < X8 ∧ Lst KW g 0 D' wr) ∧ M3 X8 r q (.slice at1 n ctt) wr ∧ Below wc.heap.size wc wr) (fun v _ => n - (intOf v).toNat)
      case atStart => exact ⟨0, turnI C r x p, rfl, by omega, HDL.out, hT7, MA7, bl7⟩
      case round =>
        obtain ⟨i, D', rfl, hi, hD', hT, MA, bel⟩ := hrel
        clear hT7 MA7 bl7
        by_cases hlt : i < n
        · obtain ⟨g, rfl, hg1, hg2, hL⟩ : ∃ g, at1 = some ⟨g, 0, none⟩ ∧ wc.heap.size ≤ g ∧ g < X8 ∧ Lst KW g 0 D' wr := by
            rcases hT with h | h
            · omega
            · exact h
          have ct := hL.cell i (by omega)
          have ft := hL.frozen i (by omega)
          rw [Nat.zero_add] at ct ft
          obtain ⟨z, HZ⟩ : ∃ z, D'.getD i KW.z = z := ⟨_, rfl⟩
          rw [HZ] at ct
          replace ct : wr.cell? ⟨g, i, none⟩ = some (.int .u16 z) := ct
          have HST : Hid (∀ y, Lst KW g 0 (D'.set i y) (wr.setCell ⟨g, 0 + i, none⟩ (.int .u16 y)) ∧ M3 X8 r q (.slice (some ⟨g, 0, none⟩) n ctt) (wr.setCell ⟨g, 0 + i, none⟩ (.int .u16 y)) ∧ Below wc.heap.size wc (wr.setCell ⟨g, 0 + i, none⟩ (.int .u16 y))) := fun y =>
            ⟨hL.set i y (by omega), MA.but (But.setCell g (0 + i) wr _) (by omega), bel.trans ((But.setCell g (0 + i) wr _).below hg1 bel.size)⟩
          have f2 := MA.c2
          have i1 : (i : Int) < (n : Int) := by omega
          have HU := Lib.hid (up_is hlt (show n ≤ 16777216 by have := HNB.out; omega))
          have HV := Lib.hid (up_less hlt (show n ≤ 16777216 by have := HNB.out; omega))
          have HLT := Lib.hid hlt
          have HDS : Hid (∀ y, (D'.set i y).length = n) := fun y => by rw [List.length_set]; exact hD'
          have HGG := Lib.hid (And.intro hg1 hg2)
          clear HZ hL MA bel hT hD' hlt hi hg1 hg2
          rw [Nat.zero_add] at HST
          obtain ⟨y1, hy1⟩ : ∃ y1, IntKind.u16.wrap (z + 1) = y1 := ⟨_, rfl⟩
          go_wp2_with fail
          go_roundw
          case rel => exact ⟨i + 1, _, HU.out, HLT.out, HDS.out _, .inr ⟨g, rfl, HGG.out.1, HGG.out.2, (HST.out _).1⟩, (HST.out _).2.1, (HST.out _).2.2⟩
          case measure => exact HV.out
        · obtain rfl : n = i := by omega
          have f2 := MA.c2
          clear hlt hi hD' hT
          go_wp2_with fail
          refine (bfixed_any wr).mono ?_
          rintro e w9 ⟨rfl, b9⟩
          have bl9 := bel.trans (b9.mono bel.size)
          have q9 := q2.below bl9
          have Y9 := Y.on bl9
          have hv9 := hv.below bl9
          have hm9 := q9.ho
          have HB9 := Lib.hid q9.bel
          obtain ⟨k0, k1, k2⟩ := q9.cells
          obtain ⟨_, l0, l1, l2, _, _, _⟩ := Y9
          clear b9 bl9 q9 bel MA f2
          go_wp2_with fail
          refine (sameM_any r q r q a av n n c cv C C HCL.out HCL.out (by have := HNB.out; omega) w9 hm9 hv9).mono ?_
          rintro e wE ⟨rfl, bE⟩
          rw [show decide (SameM r q C r q C) = true from decide_eq_true ⟨rfl, rfl, rfl⟩]
          have HBE := Lib.hid (HB9.out.trans (bE.mono HB9.out.size))
          clear bE k0 k1 k2 l0 l1 l2 hm9 hv9
          go_wp2_with fail
          go_ret
          exact ⟨rfl, HBE.out⟩
    · have HMM := Lib.hid hm
      go_wp2_with fail
      refine (HTN.out hm wc hp2).mono ?_
      rintro e w3 ⟨rfl, b3⟩
      have bl3 := (Below.refl wc.heap.size wc).trans b3
      have bA := lay3_below w3 0 0 (.slice none 0 0)
      have MA := lay3_m w3 0 0 (.slice none 0 0)
      have bl4 := bl3.trans (bA.mono bl3.size)
      have q4 := q2.below bl4
      obtain ⟨X8, hX8⟩ : ∃ X8, w3.heap.size = X8 := ⟨_, rfl⟩
      have hX8w : wc.heap.size ≤ X8 := by rw [← hX8]; exact bl3.size
      have e0 : (w3.alloc (.cells #[.int .i64 0, .int .i64 0, .slice none 0 0] 42)).cell? ⟨N, 0, none⟩ = some (.int .i64 r) := q4.cells.1
      have e1 : (w3.alloc (.cells #[.int .i64 0, .int .i64 0, .slice none 0 0] 42)).cell? ⟨N, 1, none⟩ = some (.int .i64 q) := q4.cells.2.1
      have e2 : (w3.alloc (.cells #[.int .i64 0, .int .i64 0, .slice none 0 0] 42)).cell? ⟨N, 2, none⟩ = some (.slice a n c) := q4.cells.2.2
      rw [hX8] at MA
      have d5 := HRN.out hm (lay3 w3 0 0 (.slice none 0 0)) (hp2.below bl4)
      clear b3 bl3 bA
      unfold mx
      go_wp2_with fail
      change Calls _ _ _ (lay3 w3 0 0 (.slice none 0 0)) _
      generalize lay3 w3 0 0 (.slice none 0 0) = w4 at *
      clear e0 e1 e2 hX8
      refine d5.mono ?_
      rintro e w5 ⟨rfl, b5⟩
      have bl5 := bl4.trans (b5.mono bl4.size)
      have MA5 := MA.on b5
      have bB := lay3_below w5 0 0 (.slice none 0 0)
      have MB := lay3_m w5 0 0 (.slice none 0 0)
      have bl6 := bl5.trans (bB.mono bl5.size)
      have MA6 := MA5.on bB
      obtain ⟨X9, hX9⟩ : ∃ X9, w5.heap.size = X9 := ⟨_, rfl⟩
      rw [hX9] at MB
      obtain ⟨_, f0, f1, f2, _, _, _⟩ := MA6
      have f0 : (w5.alloc (.cells #[.int .i64 0, .int .i64 0, .slice none 0 0] 42)).cell? ⟨X8, 0, none⟩ = some (.int .i64 0) := f0
      have f1 : (w5.alloc (.cells #[.int .i64 0, .int .i64 0, .slice none 0 0] 42)).cell? ⟨X8, 1, none⟩ = some (.int .i64 0) := f1
      have f2 : (w5.alloc (.cells #[.int .i64 0, .int .i64 0, .slice none 0 0] 42)).cell? ⟨X8, 2, none⟩ = some (.slice none 0 0) := f2
      clear b5 bl4 bl5 q4 d5 MA bB
      unfold mx
      go_wp2_with fail
      change Calls _ _ _ (lay3 w5 0 0 (.slice none 0 0)) _
      have MA6 := MA5.on (lay3_below w5 0 0 (.slice none 0 0))
      generalize lay3 w5 0 0 (.slice none 0 0) = w6 at *
      clear f0 f1 f2 MA5 hX9
      refine (sameM_any 0 0 0 0 none none 0 0 0 0 [] [] rfl rfl (by decide) w6 (.inl rfl) (.inl rfl)).mono ?_
      rintro e w7 ⟨rfl, b7⟩
      rw [show decide (SameM 0 0 [] 0 0 []) = true from decide_eq_true ⟨rfl, rfl, rfl⟩]
      have bl7 := bl6.trans (b7.mono bl6.size)
      have MA7 := MA6.on b7
      clear b7 bl6 MA6 MB hm
      have f2 := MA7.c2
      go_wp2_with fail
      refine wp_loop_rounds 1 ?_
      rw [rounds_succ]
      go_wp2_with fail
      refine (bfixed_any w7).mono ?_
      rintro e w9 ⟨rfl, b9⟩
      have bl9 := bl7.trans (b9.mono bl7.size)
      have q9 := q2.below bl9
      have Y9 := Y.on bl9
      have hv9 := hv.below bl9
      have hm9 := q9.ho
      have HB9 := Lib.hid q9.bel
      obtain ⟨k0, k1, k2⟩ := q9.cells
      obtain ⟨_, l0, l1, l2, _, _, _⟩ := Y9
      clear b9 bl9 q9 bl7 MA7 f2
      go_wp2_with fail
      refine (sameM_any r q r q a av n n c cv C C HCL.out HCL.out (by have := HNB.out; omega) w9 hm9 hv9).mono ?_
      rintro e wE ⟨rfl, bE⟩
      rw [show decide (SameM r q C r q C) = true from decide_eq_true ⟨rfl, rfl, rfl⟩]
      have HBE := Lib.hid (HB9.out.trans (bE.mono HB9.out.size))
      clear bE k0 k1 k2 l0 l1 l2 hm9 hv9
      go_wp2_with fail
      go_ret
      exact ⟨rfl, HBE.out⟩
end Go.Proofs.Ytjaogmbeoldefaa
