/-
  ConfigChecks' walk: what is wrong with any config, and its bytes, behind any others, are the document's; they are taken as it. Condition: what the slice leads to are bytes.
-/
import Derived.Test.YtodejnligocadaaRefCPut
import Derived.Test.YtodejnligocadaaByHand
namespace Go.Proofs.Ytodejnligocadaa
open Go.RowKit

theorem checks_great (k c b t d l p : Int) (A : Option Addr) (m cap : Nat) (hm : 100 < m) (w : World) :
    Calls Try.prog 3 #[cf k c b t d l p, .slice A m cap] w fun e w' => e = .returned (.bool true) ∧ Below w.heap.size w w' := by
  have g : (100 : Int) < (m : Int) := by omega
  have hf := fixed_any
  unfold cf
  have b0 := (Below.refl w.heap.size w).alloc (Nat.le_refl _) (.cells #[.int .i64 k, .int .i64 c, .int .i64 b, .int .i64 t, .int .i64 d, .int .i64 l, .int .i64 p] 23)
  go_enter Try.func3, Try.ntmps3
  go_wp2_with fail
  refine (hf _).mono ?_
  rintro e w1 ⟨rfl, hb⟩
  have HB := Lib.hid (b0.trans (hb.mono b0.size))
  clear b0 hb
  go_wp2_with fail
  go_ret
  exact ⟨rfl, HB.out⟩

/-- What the walk's worlds hold: the config, the bytes, and what was there ahead of all as it was. -/
structure ChS (N : Nat) (f : Nat → Int) (A : Option Addr) (x : List UInt8) (w0 w : World) : Prop where
  on : On7 N f w0 w
  ho : HoldsE KB w A x
theorem ChS.below {N : Nat} {f : Nat → Int} {A : Option Addr} {x : List UInt8} {w0 w w' : World} (h : ChS N f A x w0 w) (c : Below w.heap.size w w') : ChS N f A x w0 w' := ⟨h.on.below c, h.ho.below c⟩
theorem ChS.drew {N : Nat} {f : Nat → Int} {A : Option Addr} {x : List UInt8} {w0 w : World} (h : ChS N f A x w0 w) : ChS N f A x w0 w.drew := h.below (Below.refl _ w).drew
theorem ChS.cells {N : Nat} {k c b t d l p : Int} {A : Option Addr} {x : List UInt8} {w0 w : World} (h : ChS N (nf k c b t d l p) A x w0 w) (m cap : Nat) (hx : x.length = m) :
    (w.cell? ⟨N, 0, none⟩ = some (.int .i64 k) ∧ w.cell? ⟨N, 1, none⟩ = some (.int .i64 c) ∧ w.cell? ⟨N, 2, none⟩ = some (.int .i64 b) ∧ w.cell? ⟨N, 3, none⟩ = some (.int .i64 t) ∧ w.cell? ⟨N, 4, none⟩ = some (.int .i64 d) ∧ w.cell? ⟨N, 5, none⟩ = some (.int .i64 l) ∧ w.cell? ⟨N, 6, none⟩ = some (.int .i64 p)) ∧ (convert 24 9 (.slice A m cap)).run Try.prog w = .ok (.string (sb x)) w :=
  ⟨h.on.sv.cells, run_str w A m cap x hx h.ho⟩

set_option maxHeartbeats 8000000 in
theorem checks_any (k c b t d l p : Int) (A : Option Addr) (m cap : Nat) (hm : m ≤ 100) (hA : A = none → cap = 0) (x : List UInt8) (hx : x.length = m) (w : World) (h : HoldsE KB w A x) :
    Calls Try.prog 3 #[cf k c b t d l p, .slice A m cap] w fun e w' => e = .returned (.bool true) ∧ Below w.heap.size w w' := by
  have g : ¬ (100 : Int) < (m : Int) := by omega
  have hk := check_any k c b t d l p
  have hr := refCheck_any k c b t d l p
  have hp := fun w => cput_any A m cap x hx (by omega) hA k c b t d l p w
  have hp0 := fun w => cput_any none 0 0 [] rfl (by omega) (fun _ => rfl) k c b t d l p w (.inl rfl)
  have hrp := refCPut_any k c b t d l p
  have hf := fixed_any
  have HTK : Hid (chk k c b t d l p = 0 → tkE ([] ++ cbs k c b t d l p) = 0 ∧ tkV ([] ++ cbs k c b t d l p) = cf k c b t d l p) := fun hz => by
    rw [List.nil_append, show cbs k c b t d l p = cb k c b t d l p from if_pos hz]
    exact tk_cb hz
  have hlen : (cbs k c b t d l p).length ≤ 14 := by
    unfold cbs
    split
    · rw [cb_len]; omega
    · simp
  have n1 : ¬ 9223372036854775807 < (sb x).size + (sb (cbs k c b t d l p)).size := by rw [sb_size, sb_size]; omega
  have q1 : ((sb (x ++ cbs k c b t d l p)).toList == (sb x ++ sb (cbs k c b t d l p)).toList) = true := by rw [sb_append]; exact beq_self_eq_true _
  have HCL := Lib.hid hlen
  have b0 := (Below.refl w.heap.size w).alloc (Nat.le_refl _) (.cells #[.int .i64 k, .int .i64 c, .int .i64 b, .int .i64 t, .int .i64 d, .int .i64 l, .int .i64 p] 23)
  have q0 : ChS w.heap.size (nf k c b t d l p) A x w _ := ⟨⟨Seven.new k c b t d l p w 23, b0⟩, h.below b0⟩
  unfold cf at *
  clear h b0 hlen hm
  go_enter Try.func3, Try.ntmps3
  go_wp2_with fail
  generalize w.alloc (.cells #[.int .i64 k, .int .i64 c, .int .i64 b, .int .i64 t, .int .i64 d, .int .i64 l, .int .i64 p] 23) = w0 at *
  obtain ⟨N, hN⟩ : ∃ N, w.heap.size = N := ⟨_, rfl⟩
  have HN := Lib.hid hN
  rw [hN] at q0 ⊢
  clear hN
  generalize hL : x ++ cbs k c b t d l p = L at *
  have HL := Lib.hid hL
  clear hL
  generalize sb (cbs k c b t d l p) = SC at *
  obtain ⟨SL, hSL⟩ : ∃ SL, sb L = SL := ⟨_, rfl⟩
  have HSL := Lib.hid hSL
  rw [hSL] at q1
  clear hSL
  have hcs := fun w (q : ChS N (nf k c b t d l p) A x w0 w) => q.cells m cap hx
  have HXX := Lib.hid hx
  clear hx hcs
  obtain ⟨S0, hS0⟩ : ∃ S0, sb x = S0 := ⟨_, rfl⟩
  have HS0 := Lib.hid hS0
  rw [hS0] at q1 n1
  clear hS0
  have q := q0.drew
  refine wp_region_held_drew (S := fun w' => (w'.cell? ⟨N, 0, none⟩ = some (.int .i64 k) ∧ w'.cell? ⟨N, 1, none⟩ = some (.int .i64 c) ∧ w'.cell? ⟨N, 2, none⟩ = some (.int .i64 b) ∧ w'.cell? ⟨N, 3, none⟩ = some (.int .i64 t) ∧ w'.cell? ⟨N, 4, none⟩ = some (.int .i64 d) ∧ w'.cell? ⟨N, 5, none⟩ = some (.int .i64 l) ∧ w'.cell? ⟨N, 6, none⟩ = some (.int .i64 p)) ∧ (convert 24 9 (.slice A m cap)).run Try.prog w' = .ok (.string S0) w') (by kernel_rfl) (by have hq := q.cells m cap HXX.out; rw [HS0.out] at hq; exact hq) (fun hHeld => ?_)
  refine takeQ (i := 0) (v := ?_) rfl (by kernel_rfl) (by kernel_rfl) (by kernel_rfl) (fun _ _ _ h => h) (by rfl) hHeld ?_ ?_
  rotate_left
  · (intro w' hSw; (try dsimp only at hSw); go_simp <;> (with_reducible rfl))
  try simp only [Act.put, List.setIfInBounds_toArray, List.set_cons_zero, List.set_cons_succ]
  refine takeQ (i := 2) (v := ?_) rfl (by kernel_rfl) (by kernel_rfl) (by kernel_rfl) (fun _ _ _ h => h) (by rfl) hHeld ?_ ?_
  rotate_left
  · (intro w' hSw; (try dsimp only at hSw); go_simp <;> (with_reducible rfl))
  try simp only [Act.put, List.setIfInBounds_toArray, List.set_cons_zero, List.set_cons_succ]
  refine callL (i := 1) (by kernel_rfl) rfl (by rfl) (fun K hK => ?_)
  go_simp
  refine (hk _).mono ?_
  rintro _ _ ⟨rfl, c9⟩
  replace q := q.below c9
  clear c9
  try dsimp only
  refine hK.out _ _ (by have hq := q.cells m cap HXX.out; rw [HS0.out] at hq; exact hq) (fun hHeld => ?_)
  clear hK K
  try simp only [Act.put, List.setIfInBounds_toArray, List.set_cons_zero, List.set_cons_succ]
  refine callL (i := 3) (by kernel_rfl) rfl (by rfl) (fun K hK => ?_)
  go_simp
  refine (hr _).mono ?_
  rintro _ _ ⟨rfl, c9⟩
  replace q := q.below c9
  clear c9
  try dsimp only
  refine hK.out _ _ (by have hq := q.cells m cap HXX.out; rw [HS0.out] at hq; exact hq) (fun hHeld => ?_)
  clear hK K
  try simp only [Act.put, List.setIfInBounds_toArray, List.set_cons_zero, List.set_cons_succ]
  refine takeQ (i := 4) (v := ?_) rfl (by kernel_rfl) (by kernel_rfl) (by kernel_rfl) (fun _ _ _ h => h) (by rfl) hHeld ?_ ?_
  rotate_left
  · (intro w' hSw; (try dsimp only at hSw); go_simp <;> (with_reducible rfl))
  try simp only [Act.put, List.setIfInBounds_toArray, List.set_cons_zero, List.set_cons_succ]
  refine takeQ (i := 5) (v := ?_) rfl (by kernel_rfl) (by kernel_rfl) (by kernel_rfl) (fun _ _ _ h => h) (by rfl) hHeld ?_ ?_
  rotate_left
  · (intro w' hSw; (try dsimp only at hSw); go_simp <;> (with_reducible rfl))
  try simp only [Act.put, List.setIfInBounds_toArray, List.set_cons_zero, List.set_cons_succ]
  refine takeQ (i := 6) (v := ?_) rfl (by kernel_rfl) (by kernel_rfl) (by kernel_rfl) (fun _ _ _ h => h) (by rfl) hHeld ?_ ?_
  rotate_left
  · (intro w' hSw; (try dsimp only at hSw); go_simp <;> (with_reducible rfl))
  try simp only [Act.put, List.setIfInBounds_toArray, List.set_cons_zero, List.set_cons_succ]
  refine takeQ (i := 7) (v := ?_) rfl (by kernel_rfl) (by kernel_rfl) (by kernel_rfl) (fun _ _ _ h => h) (by rfl) hHeld ?_ ?_
  rotate_left
  · (intro w' hSw; (try dsimp only at hSw); go_simp <;> (with_reducible rfl))
  try simp only [Act.put, List.setIfInBounds_toArray, List.set_cons_zero, List.set_cons_succ]
  refine takeQ (i := 10) (v := ?_) rfl (by kernel_rfl) (by kernel_rfl) (by kernel_rfl) (fun _ _ _ h => h) (by rfl) hHeld ?_ ?_
  rotate_left
  · (intro w' hSw; (try dsimp only at hSw); go_simp <;> (with_reducible rfl))
  try simp only [Act.put, List.setIfInBounds_toArray, List.set_cons_zero, List.set_cons_succ]
  refine takeQ (i := 11) (v := ?_) rfl (by kernel_rfl) (by kernel_rfl) (by kernel_rfl) (fun _ _ _ h => h) (by rfl) hHeld ?_ ?_
  rotate_left
  · (intro w' hSw; (try dsimp only at hSw); go_simp <;> (with_reducible rfl))
  try simp only [Act.put, List.setIfInBounds_toArray, List.set_cons_zero, List.set_cons_succ]
  refine takeQ (i := 12) (v := ?_) rfl (by kernel_rfl) (by kernel_rfl) (by kernel_rfl) (fun _ _ _ h => h) (by rfl) hHeld ?_ ?_
  rotate_left
  · (intro w' hSw; (try dsimp only at hSw); go_simp <;> (with_reducible rfl))
  try simp only [Act.put, List.setIfInBounds_toArray, List.set_cons_zero, List.set_cons_succ]
  refine callL (i := 8) (by kernel_rfl) rfl (by rfl) (fun K hK => ?_)
  go_simp
  refine (hp _ q.ho).mono ?_
  rintro _ w5 ⟨v1, rfl, ta, c9⟩
  replace q := q.below c9
  clear c9
  obtain ⟨a1, c1, rfl, -, hh⟩ := ta
  have hcv := run_str w5 a1 L.length c1 L rfl hh
  rw [HSL.out] at hcv
  try dsimp only
  refine hK.out _ _ (by have hq := q.cells m cap HXX.out; rw [HS0.out] at hq; exact hq) (fun hHeld => ?_)
  clear hK K
  try simp only [Act.put, List.setIfInBounds_toArray, List.set_cons_zero, List.set_cons_succ]
  refine bothL (i := 9) (j := 13) (by kernel_rfl) rfl rfl (by rfl) (by rfl) (fun K hK => ?_) (fun K hK => ?_)
  · go_simp
    try dsimp only
    refine hK.out _ _ (by have hq := q.cells m cap HXX.out; rw [HS0.out] at hq; exact hq) (fun hHeld => ?_)
    clear hK K
    try simp only [Act.put, List.setIfInBounds_toArray, List.set_cons_zero, List.set_cons_succ]
    refine callL (i := 13) (by kernel_rfl) rfl (by rfl) (fun K hK => ?_)
    go_simp
    refine (hrp _).mono ?_
    rintro _ _ ⟨rfl, c9⟩
    replace q := q.below c9
    clear c9
    try dsimp only
    refine hK.out _ _ (by have hq := q.cells m cap HXX.out; rw [HS0.out] at hq; exact hq) (fun hHeld => ?_)
    clear hK K
    try simp only [Act.put, List.setIfInBounds_toArray, List.set_cons_zero, List.set_cons_succ]
    refine takeQ (i := 14) (v := ?_) rfl (by kernel_rfl) (by kernel_rfl) (by kernel_rfl) (fun _ _ _ h => h) (by rfl) hHeld ?_ ?_
    rotate_left
    · (intro w' hSw; (try dsimp only at hSw); go_simp <;> (with_reducible rfl))
    try simp only [Act.put, List.setIfInBounds_toArray, List.set_cons_zero, List.set_cons_succ]
    refine takeQ (i := 15) (v := ?_) rfl (by kernel_rfl) (by kernel_rfl) (by kernel_rfl) (fun _ _ _ h => h) (by rfl) hHeld ?_ ?_
    rotate_left
    · (intro w' hSw; (try dsimp only at hSw); go_simp <;> (with_reducible rfl))
    try simp only [Act.put, List.setIfInBounds_toArray, List.set_cons_zero, List.set_cons_succ]
    refine takeQ (i := 16) (v := ?_) rfl (by kernel_rfl) (by kernel_rfl) (by kernel_rfl) (fun _ _ _ h => h) (by rfl) hHeld ?_ ?_
    rotate_left
    · (intro w' hSw; (try dsimp only at hSw); go_simp <;> (with_reducible rfl))
    try simp only [Act.put, List.setIfInBounds_toArray, List.set_cons_zero, List.set_cons_succ]
    refine wpAnyH_done (by kernel_rfl) ?_ _
    obtain ⟨c0, c1, c2, c3, c4, c5, c6⟩ := hHeld.1
    have on := q.on
    clear q hcv hh hHeld hr hrp hp n1
    by_cases hz : chk k c b t d l p = 0
    · obtain ⟨t1, t2⟩ := HTK.out hz
      rw [hz] at hk
      clear hz
      go_wp2_with fail
      refine (hk _).mono ?_
      rintro _ w6 ⟨rfl, c9⟩
      replace on := on.below c9
      clear c9 c0 c1 c2 c3 c4 c5 c6 hk
      obtain ⟨c0, c1, c2, c3, c4, c5, c6⟩ := on.sv.cells
      go_wp2_with fail
      refine (hp0 _).mono ?_
      rintro _ w7 ⟨v7, rfl, ta7, c9⟩
      replace on := on.below c9
      clear c9 c0 c1 c2 c3 c4 c5 c6 hp0
      obtain ⟨c0, c1, c2, c3, c4, c5, c6⟩ := on.sv.cells
      obtain ⟨a7, cap7, rfl, hn7, hh7⟩ := ta7
      have tk := taken_any a7 _ cap7 _ rfl (by have := HCL.out; simp; omega) hn7 _ hh7
      rw [t1, t2] at tk
      clear t1 t2 hh7 HTK
      go_wp2_with fail
      refine tk.mono ?_
      rintro _ w8 ⟨rfl, c9⟩
      replace on := on.below c9
      clear c9 c0 c1 c2 c3 c4 c5 c6 tk
      have b8 := (Below.refl w8.heap.size w8).alloc (Nat.le_refl _) (.cells #[.int .i64 k, .int .i64 c, .int .i64 b, .int .i64 t, .int .i64 d, .int .i64 l, .int .i64 p] 23)
      have s8 := Seven.new k c b t d l p w8 23
      replace on := on.below b8
      clear b8
      go_wp2_with fail
      generalize w8.alloc (.cells #[.int .i64 k, .int .i64 c, .int .i64 b, .int .i64 t, .int .i64 d, .int .i64 l, .int .i64 p] 23) = w9 at *
      refine (hf _).mono ?_
      rintro _ w10 ⟨rfl, c9⟩
      replace on := on.below c9
      replace s8 := s8.below c9 s8.1
      clear c9 hf
      obtain ⟨c0, c1, c2, c3, c4, c5, c6⟩ := on.sv.cells
      obtain ⟨d0, d1, d2, d3, d4, d5, d6⟩ := s8.cells
      go_wp2_with fail
      go_ret
      exact ⟨rfl, on.bel⟩
    · have g5 : (chk k c b t d l p != 0) = true := by simpa using hz
      clear hz
      generalize chk k c b t d l p = CK at *
      go_wp2_with fail
      refine (hk _).mono ?_
      rintro _ w6 ⟨rfl, c9⟩
      replace on := on.below c9
      clear c9
      go_wp2_with fail
      refine (hf _).mono ?_
      rintro _ w7 ⟨rfl, c9⟩
      replace on := on.below c9
      clear c9 hf
      go_wp2_with fail
      go_ret
      exact ⟨rfl, on.bel⟩
  · go_simp
    refine (hrp _).mono ?_
    rintro _ _ ⟨rfl, c9⟩
    replace q := q.below c9
    replace hh := hh.below c9
    clear c9 hcv
    have hcv := run_str _ a1 L.length c1 L rfl hh
    rw [HSL.out] at hcv
    try dsimp only
    refine hK.out _ _ (by have hq := q.cells m cap HXX.out; rw [HS0.out] at hq; exact hq) (fun hHeld => ?_)
    clear hK K
    try simp only [Act.put, List.setIfInBounds_toArray, List.set_cons_zero, List.set_cons_succ]
    refine takeQ (i := 14) (v := ?_) rfl (by kernel_rfl) (by kernel_rfl) (by kernel_rfl) (fun _ _ _ h => h) (by rfl) hHeld ?_ ?_
    rotate_left
    · (intro w' hSw; (try dsimp only at hSw); go_simp <;> (with_reducible rfl))
    try simp only [Act.put, List.setIfInBounds_toArray, List.set_cons_zero, List.set_cons_succ]
    refine callL (i := 9) (by kernel_rfl) rfl (by rfl) (fun K hK => ?_)
    go_simp
    try dsimp only
    refine hK.out _ _ (by have hq := q.cells m cap HXX.out; rw [HS0.out] at hq; exact hq) (fun hHeld => ?_)
    clear hK K
    try simp only [Act.put, List.setIfInBounds_toArray, List.set_cons_zero, List.set_cons_succ]
    refine takeQ (i := 15) (v := ?_) rfl (by kernel_rfl) (by kernel_rfl) (by kernel_rfl) (fun _ _ _ h => h) (by rfl) hHeld ?_ ?_
    rotate_left
    · (intro w' hSw; (try dsimp only at hSw); go_simp <;> (with_reducible rfl))
    try simp only [Act.put, List.setIfInBounds_toArray, List.set_cons_zero, List.set_cons_succ]
    refine takeQ (i := 16) (v := ?_) rfl (by kernel_rfl) (by kernel_rfl) (by kernel_rfl) (fun _ _ _ h => h) (by rfl) hHeld ?_ ?_
    rotate_left
    · (intro w' hSw; (try dsimp only at hSw); go_simp <;> (with_reducible rfl))
    try simp only [Act.put, List.setIfInBounds_toArray, List.set_cons_zero, List.set_cons_succ]
    refine wpAnyH_done (by kernel_rfl) ?_ _
    obtain ⟨c0, c1, c2, c3, c4, c5, c6⟩ := hHeld.1
    have on := q.on
    clear q hcv hh hHeld hr hrp hp n1
    by_cases hz : chk k c b t d l p = 0
    · obtain ⟨t1, t2⟩ := HTK.out hz
      rw [hz] at hk
      clear hz
      go_wp2_with fail
      refine (hk _).mono ?_
      rintro _ w6 ⟨rfl, c9⟩
      replace on := on.below c9
      clear c9 c0 c1 c2 c3 c4 c5 c6 hk
      obtain ⟨c0, c1, c2, c3, c4, c5, c6⟩ := on.sv.cells
      go_wp2_with fail
      refine (hp0 _).mono ?_
      rintro _ w7 ⟨v7, rfl, ta7, c9⟩
      replace on := on.below c9
      clear c9 c0 c1 c2 c3 c4 c5 c6 hp0
      obtain ⟨c0, c1, c2, c3, c4, c5, c6⟩ := on.sv.cells
      obtain ⟨a7, cap7, rfl, hn7, hh7⟩ := ta7
      have tk := taken_any a7 _ cap7 _ rfl (by have := HCL.out; simp; omega) hn7 _ hh7
      rw [t1, t2] at tk
      clear t1 t2 hh7 HTK
      go_wp2_with fail
      refine tk.mono ?_
      rintro _ w8 ⟨rfl, c9⟩
      replace on := on.below c9
      clear c9 c0 c1 c2 c3 c4 c5 c6 tk
      have b8 := (Below.refl w8.heap.size w8).alloc (Nat.le_refl _) (.cells #[.int .i64 k, .int .i64 c, .int .i64 b, .int .i64 t, .int .i64 d, .int .i64 l, .int .i64 p] 23)
      have s8 := Seven.new k c b t d l p w8 23
      replace on := on.below b8
      clear b8
      go_wp2_with fail
      generalize w8.alloc (.cells #[.int .i64 k, .int .i64 c, .int .i64 b, .int .i64 t, .int .i64 d, .int .i64 l, .int .i64 p] 23) = w9 at *
      refine (hf _).mono ?_
      rintro _ w10 ⟨rfl, c9⟩
      replace on := on.below c9
      replace s8 := s8.below c9 s8.1
      clear c9 hf
      obtain ⟨c0, c1, c2, c3, c4, c5, c6⟩ := on.sv.cells
      obtain ⟨d0, d1, d2, d3, d4, d5, d6⟩ := s8.cells
      go_wp2_with fail
      go_ret
      exact ⟨rfl, on.bel⟩
    · have g5 : (chk k c b t d l p != 0) = true := by simpa using hz
      clear hz
      generalize chk k c b t d l p = CK at *
      go_wp2_with fail
      refine (hk _).mono ?_
      rintro _ w6 ⟨rfl, c9⟩
      replace on := on.below c9
      clear c9
      go_wp2_with fail
      refine (hf _).mono ?_
      rintro _ w7 ⟨rfl, c9⟩
      replace on := on.below c9
      clear c9 hf
      go_wp2_with fail
      go_ret
      exact ⟨rfl, on.bel⟩
end Go.Proofs.Ytodejnligocadaa
