/-
  ConfigTakes' walk: what any bytes are taken as, or why they aren't, is the document's; what is taken has those bytes. Condition: what the slice leads to are bytes.
-/
import Derived.Test.YtodejnligocadaaRefCGet
namespace Go.Proofs.Ytodejnligocadaa
open Go.RowKit

theorem takes_great (A : Option Addr) (m cap : Nat) (hm : 30 < m) (w : World) :
    Calls Try.prog 4 #[.slice A m cap] w fun e w' => e = .returned (.bool true) ∧ Below w.heap.size w w' := by
  have g : (30 : Int) < (m : Int) := by omega
  have hf := fixed_any
  go_enter Try.func4, Try.ntmps4
  go_wp2_with fail
  refine (hf _).mono ?_
  rintro e w1 ⟨rfl, hb⟩
  go_wp2_with fail
  go_ret
  exact ⟨rfl, hb⟩

set_option maxHeartbeats 4000000 in
theorem takes_short (A : Option Addr) (m cap : Nat) (hm : m < 14) (hA : A = none → cap = 0) (x : List UInt8) (hx : x.length = m) (w : World) (h : HoldsE KB w A x) :
    Calls Try.prog 4 #[.slice A m cap] w fun e w' => e = .returned (.bool true) ∧ Below w.heap.size w w' := by
  have g : ¬ (30 : Int) < (m : Int) := by omega
  have g2 : (m : Int) < 14 := by omega
  have hf := fixed_any
  have e1 : tkE x = 2 := if_pos (by omega)
  have tk := taken_any A m cap x hx (by omega) hA w h
  rw [show tkV x = cf 0 0 0 0 0 0 0 from if_neg (by rw [e1]; decide), e1] at tk
  unfold cf at tk
  clear e1 h
  go_enter Try.func4, Try.ntmps4
  go_wp2_with fail
  refine tk.mono ?_
  rintro e w1 ⟨rfl, b1⟩
  have s2 := Seven.new 0 0 0 0 0 0 0 w1 23
  have b2 := (Below.refl w1.heap.size w1).alloc (Nat.le_refl _) (.cells #[.int .i64 0, .int .i64 0, .int .i64 0, .int .i64 0, .int .i64 0, .int .i64 0, .int .i64 0] 23)
  have b02 := b1.trans (b2.mono b1.size)
  clear tk b1 b2
  go_wp2_with fail
  generalize w1.alloc (.cells #[.int .i64 0, .int .i64 0, .int .i64 0, .int .i64 0, .int .i64 0, .int .i64 0, .int .i64 0] 23) = w2 at *
  refine (hf _).mono ?_
  rintro e w3 ⟨rfl, b3⟩
  obtain ⟨c0, c1, c2, c3, c4, c5, c6⟩ := (s2.below b3 s2.1).cells
  have HB := Lib.hid (b02.trans (b3.mono b02.size))
  clear b02 b3 s2
  go_wp2_with fail
  go_ret
  exact ⟨rfl, HB.out⟩

set_option maxHeartbeats 8000000 in
theorem takes_wrong (A : Option Addr) (m cap : Nat) (hm : 14 ≤ m) (hm2 : m ≤ 30) (hA : A = none → cap = 0) (x : List UInt8) (hx : x.length = m) (w : World) (h : HoldsE KB w A x) (hz : gE x ≠ 0) :
    Calls Try.prog 4 #[.slice A m cap] w fun e w' => e = .returned (.bool true) ∧ Below w.heap.size w w' := by
  have g : ¬ (30 : Int) < (m : Int) := by omega
  have g2 : ¬ (m : Int) < 14 := by omega
  have hf := fixed_any
  have tk := taken_any A m cap x hx (by omega) hA w h
  have hrg := refCGet_any x (by omega) (by omega)
  have e1 : tkE x = gE x := by
    unfold tkE
    rw [if_neg (by omega), if_neg hz]
  rw [show tkV x = cf 0 0 0 0 0 0 0 from if_neg (by rw [e1]; exact hz), e1] at tk
  rw [show gV x = cf 0 0 0 0 0 0 0 from if_neg hz] at hrg
  have g5 : (gE x != 0) = true := by simpa using hz
  clear e1 hz
  unfold cf at tk hrg
  generalize gE x = ge at *
  go_enter Try.func4, Try.ntmps4
  go_wp2_with fail
  refine tk.mono ?_
  rintro e w1 ⟨rfl, b1⟩
  have s2 := Seven.new 0 0 0 0 0 0 0 w1 23
  have b2 := (Below.refl w1.heap.size w1).alloc (Nat.le_refl _) (.cells #[.int .i64 0, .int .i64 0, .int .i64 0, .int .i64 0, .int .i64 0, .int .i64 0, .int .i64 0] 23)
  have b02 := b1.trans (b2.mono b1.size)
  have h2 := (h.below b1).below b2
  have cv := run_str _ A m cap x hx h2
  clear tk b1 b2 h
  go_wp2_with fail
  generalize w1.alloc (.cells #[.int .i64 0, .int .i64 0, .int .i64 0, .int .i64 0, .int .i64 0, .int .i64 0, .int .i64 0] 23) = w2 at *
  obtain ⟨Y, hY⟩ : ∃ Y, w1.heap.size = Y := ⟨_, rfl⟩
  rw [hY] at s2 ⊢
  clear hY
  refine (hrg _).mono ?_
  rintro e w3 ⟨rfl, b3⟩
  have s3 := s2.below b3 s2.1
  have h3 := h2.below b3
  have b03 := b02.trans (b3.mono b02.size)
  have s4 := Seven.new 0 0 0 0 0 0 0 w3 23
  have b4 := (Below.refl w3.heap.size w3).alloc (Nat.le_refl _) (.cells #[.int .i64 0, .int .i64 0, .int .i64 0, .int .i64 0, .int .i64 0, .int .i64 0, .int .i64 0] 23)
  have b04 := b03.trans (b4.mono b03.size)
  have s34 := s3.below b4 s3.1
  have h4 := h3.below b4
  clear hrg b3 s2 h2 b02 cv b03 b4 s3 h3
  go_wp2_with fail
  generalize w3.alloc (.cells #[.int .i64 0, .int .i64 0, .int .i64 0, .int .i64 0, .int .i64 0, .int .i64 0, .int .i64 0] 23) = w4 at *
  refine (hf _).mono ?_
  rintro e w5 ⟨rfl, b5⟩
  obtain ⟨c0, c1, c2, c3, c4, c5, c6⟩ := (s34.below b5 s34.1).cells
  have HB := Lib.hid (b04.trans (b5.mono b04.size))
  clear b04 b5 s34 s4 h4 hf
  go_wp2_with fail
  go_ret
  exact ⟨rfl, HB.out⟩

set_option maxHeartbeats 8000000 in
theorem takes_more (A : Option Addr) (m cap : Nat) (hm : 14 ≤ m) (hm2 : m ≤ 30) (hA : A = none → cap = 0) (x : List UInt8) (hx : x.length = m) (w : World) (h : HoldsE KB w A x) (hz : gE x = 0) (hmm : 14 < m) :
    Calls Try.prog 4 #[.slice A m cap] w fun e w' => e = .returned (.bool true) ∧ Below w.heap.size w w' := by
  have g : ¬ (30 : Int) < (m : Int) := by omega
  have g2 : ¬ (m : Int) < 14 := by omega
  have hf := fixed_any
  have tk := taken_any A m cap x hx (by omega) hA w h
  have hrg := refCGet_any x (by omega) (by omega)
  have e1 : tkE x = 3 := by
    unfold tkE
    rw [if_neg (by omega), if_pos hz, if_neg (by omega)]
  rw [show tkV x = cf 0 0 0 0 0 0 0 from if_neg (by rw [e1]; decide), e1] at tk
  rw [show gV x = cf (gN x 0) (gN x 1) (gN x 2) (gN x 3) (gN x 4) (gN x 5) (gN x 6) from if_pos hz, hz] at hrg
  have g6 : (14 : Int) < (m : Int) := by omega
  clear e1 hz
  unfold cf at tk hrg
  generalize gN x 0 = k at *
  generalize gN x 1 = c at *
  generalize gN x 2 = b at *
  generalize gN x 3 = t at *
  generalize gN x 4 = d at *
  generalize gN x 5 = l at *
  generalize gN x 6 = p at *
  go_enter Try.func4, Try.ntmps4
  go_wp2_with fail
  refine tk.mono ?_
  rintro e w1 ⟨rfl, b1⟩
  have s2 := Seven.new 0 0 0 0 0 0 0 w1 23
  have b2 := (Below.refl w1.heap.size w1).alloc (Nat.le_refl _) (.cells #[.int .i64 0, .int .i64 0, .int .i64 0, .int .i64 0, .int .i64 0, .int .i64 0, .int .i64 0] 23)
  have b02 := b1.trans (b2.mono b1.size)
  have h2 := (h.below b1).below b2
  have cv := run_str _ A m cap x hx h2
  clear tk b1 b2 h
  go_wp2_with fail
  generalize w1.alloc (.cells #[.int .i64 0, .int .i64 0, .int .i64 0, .int .i64 0, .int .i64 0, .int .i64 0, .int .i64 0] 23) = w2 at *
  obtain ⟨Y, hY⟩ : ∃ Y, w1.heap.size = Y := ⟨_, rfl⟩
  rw [hY] at s2 ⊢
  clear hY
  refine (hrg _).mono ?_
  rintro e w3 ⟨rfl, b3⟩
  have s3 := s2.below b3 s2.1
  have h3 := h2.below b3
  have b03 := b02.trans (b3.mono b02.size)
  have s4 := Seven.new k c b t d l p w3 23
  have b4 := (Below.refl w3.heap.size w3).alloc (Nat.le_refl _) (.cells #[.int .i64 k, .int .i64 c, .int .i64 b, .int .i64 t, .int .i64 d, .int .i64 l, .int .i64 p] 23)
  have b04 := b03.trans (b4.mono b03.size)
  have s34 := s3.below b4 s3.1
  have h4 := h3.below b4
  clear hrg b3 s2 h2 b02 cv b03 b4 s3 h3
  go_wp2_with fail
  generalize w3.alloc (.cells #[.int .i64 k, .int .i64 c, .int .i64 b, .int .i64 t, .int .i64 d, .int .i64 l, .int .i64 p] 23) = w4 at *
  refine (hf _).mono ?_
  rintro e w5 ⟨rfl, b5⟩
  obtain ⟨c0, c1, c2, c3, c4, c5, c6⟩ := (s34.below b5 s34.1).cells
  have HB := Lib.hid (b04.trans (b5.mono b04.size))
  clear b04 b5 s34 s4 h4 hf
  go_wp2_with fail
  go_ret
  exact ⟨rfl, HB.out⟩

/-- What the last test's worlds hold. -/
structure TkS (Y V : Nat) (f : Nat → Int) (A : Option Addr) (x : List UInt8) (w0 w : World) : Prop where
  sa : Seven Y f w
  sb : Seven V f w
  ho : HoldsE KB w A x
  bel : Below w0.heap.size w0 w
theorem TkS.below {Y V : Nat} {f : Nat → Int} {A : Option Addr} {x : List UInt8} {w0 w w' : World} (h : TkS Y V f A x w0 w) (c : Below w.heap.size w w') : TkS Y V f A x w0 w' := ⟨h.sa.below c h.sa.1, h.sb.below c h.sb.1, h.ho.below c, h.bel.trans (c.mono h.bel.size)⟩

set_option maxHeartbeats 8000000 in
theorem takes_right (A : Option Addr) (m cap : Nat) (hm : 14 ≤ m) (hm2 : m ≤ 30) (hA : A = none → cap = 0) (x : List UInt8) (hx : x.length = m) (w : World) (h : HoldsE KB w A x) (hz : gE x = 0) (hmm : m = 14) :
    Calls Try.prog 4 #[.slice A m cap] w fun e w' => e = .returned (.bool true) ∧ Below w.heap.size w w' := by
  have g : ¬ (30 : Int) < (m : Int) := by omega
  have g2 : ¬ (m : Int) < 14 := by omega
  have hf := fixed_any
  have tk := taken_any A m cap x hx (by omega) hA w h
  have hrg := refCGet_any x (by omega) (by omega)
  have e1 : tkE x = 0 := by
    unfold tkE
    rw [if_neg (by omega), if_pos hz, if_pos (by omega)]
  rw [show tkV x = cf (gN x 0) (gN x 1) (gN x 2) (gN x 3) (gN x 4) (gN x 5) (gN x 6) from if_pos e1, e1] at tk
  rw [show gV x = cf (gN x 0) (gN x 1) (gN x 2) (gN x 3) (gN x 4) (gN x 5) (gN x 6) from if_pos hz, hz] at hrg
  have g6 : ¬ (14 : Int) < (m : Int) := by omega
  have hp0 := fun w => cput_any none 0 0 [] rfl (by omega) (fun _ => rfl) (gN x 0) (gN x 1) (gN x 2) (gN x 3) (gN x 4) (gN x 5) (gN x 6) w (.inl rfl)
  have HP : Hid ([] ++ cbs (gN x 0) (gN x 1) (gN x 2) (gN x 3) (gN x 4) (gN x 5) (gN x 6) = x) := by
    show _ = _
    rw [List.nil_append, show cbs (gN x 0) (gN x 1) (gN x 2) (gN x 3) (gN x 4) (gN x 5) (gN x 6) = _ from if_pos hz]
    exact cb_gN x (by omega)
  clear e1 hz hmm
  unfold cf at tk hrg hp0
  generalize gN x 0 = k at *
  generalize gN x 1 = c at *
  generalize gN x 2 = b at *
  generalize gN x 3 = t at *
  generalize gN x 4 = d at *
  generalize gN x 5 = l at *
  generalize gN x 6 = p at *
  go_enter Try.func4, Try.ntmps4
  go_wp2_with fail
  refine tk.mono ?_
  rintro e w1 ⟨rfl, b1⟩
  have s2 := Seven.new k c b t d l p w1 23
  have b2 := (Below.refl w1.heap.size w1).alloc (Nat.le_refl _) (.cells #[.int .i64 k, .int .i64 c, .int .i64 b, .int .i64 t, .int .i64 d, .int .i64 l, .int .i64 p] 23)
  have b02 := b1.trans (b2.mono b1.size)
  have h2 := (h.below b1).below b2
  have cv := run_str _ A m cap x hx h2
  clear tk b1 b2 h
  go_wp2_with fail
  generalize w1.alloc (.cells #[.int .i64 k, .int .i64 c, .int .i64 b, .int .i64 t, .int .i64 d, .int .i64 l, .int .i64 p] 23) = w2 at *
  obtain ⟨Y, hY⟩ : ∃ Y, w1.heap.size = Y := ⟨_, rfl⟩
  rw [hY] at s2 ⊢
  clear hY
  refine (hrg _).mono ?_
  rintro e w3 ⟨rfl, b3⟩
  have s3 := s2.below b3 s2.1
  have h3 := h2.below b3
  have b03 := b02.trans (b3.mono b02.size)
  have s4 := Seven.new k c b t d l p w3 23
  have b4 := (Below.refl w3.heap.size w3).alloc (Nat.le_refl _) (.cells #[.int .i64 k, .int .i64 c, .int .i64 b, .int .i64 t, .int .i64 d, .int .i64 l, .int .i64 p] 23)
  have b04 := b03.trans (b4.mono b03.size)
  have s34 := s3.below b4 s3.1
  have h4 := h3.below b4
  clear hrg b3 s2 h2 b02 cv b03 b4 s3 h3
  go_wp2_with fail
  generalize w3.alloc (.cells #[.int .i64 k, .int .i64 c, .int .i64 b, .int .i64 t, .int .i64 d, .int .i64 l, .int .i64 p] 23) = w4 at *
  obtain ⟨V, hV⟩ : ∃ V, w3.heap.size = V := ⟨_, rfl⟩
  rw [hV] at s4 ⊢
  clear hV
  obtain ⟨SX, hSX⟩ : ∃ SX, sb x = SX := ⟨_, rfl⟩
  have HSX := Lib.hid hSX
  have q : TkS Y V (nf k c b t d l p) A x w w4.drew := TkS.below ⟨s34, s4, h4, b04⟩ (Below.refl _ _).drew
  have HXX := Lib.hid hx
  have qs : (SX.toList == SX.toList) = true := beq_self_eq_true _
  clear hSX hx s34 s4 h4 b04 hm hm2
  refine wp_region_held_drew (S := fun w' => (w'.cell? ⟨Y, 0, none⟩ = some (.int .i64 k) ∧ w'.cell? ⟨Y, 1, none⟩ = some (.int .i64 c) ∧ w'.cell? ⟨Y, 2, none⟩ = some (.int .i64 b) ∧ w'.cell? ⟨Y, 3, none⟩ = some (.int .i64 t) ∧ w'.cell? ⟨Y, 4, none⟩ = some (.int .i64 d) ∧ w'.cell? ⟨Y, 5, none⟩ = some (.int .i64 l) ∧ w'.cell? ⟨Y, 6, none⟩ = some (.int .i64 p)) ∧ (w'.cell? ⟨V, 0, none⟩ = some (.int .i64 k) ∧ w'.cell? ⟨V, 1, none⟩ = some (.int .i64 c) ∧ w'.cell? ⟨V, 2, none⟩ = some (.int .i64 b) ∧ w'.cell? ⟨V, 3, none⟩ = some (.int .i64 t) ∧ w'.cell? ⟨V, 4, none⟩ = some (.int .i64 d) ∧ w'.cell? ⟨V, 5, none⟩ = some (.int .i64 l) ∧ w'.cell? ⟨V, 6, none⟩ = some (.int .i64 p)) ∧ (convert 24 9 (.slice A m cap)).run Try.prog w' = .ok (.string SX) w') (by kernel_rfl) (by have hq := And.intro q.sa.cells (And.intro q.sb.cells (run_str _ A m cap x HXX.out q.ho)); rw [HSX.out] at hq; exact hq) (fun hHeld => ?_)
  refine callL (i := 0) (by kernel_rfl) rfl (by rfl) (fun K hK => ?_)
  go_simp
  refine (hf _).mono ?_
  rintro _ _ ⟨rfl, c9⟩
  replace q := q.below c9
  clear c9
  try dsimp only
  refine hK.out _ _ (by have hq := And.intro q.sa.cells (And.intro q.sb.cells (run_str _ A m cap x HXX.out q.ho)); rw [HSX.out] at hq; exact hq) (fun hHeld => ?_)
  clear hK K
  try simp only [Act.put, List.setIfInBounds_toArray, List.set_cons_zero, List.set_cons_succ]
  refine takeQ (i := 1) (v := ?_) rfl (by kernel_rfl) (by kernel_rfl) (by kernel_rfl) (fun _ _ _ h => h) (by rfl) hHeld ?_ ?_
  rotate_left
  · (intro w' hSw; (try dsimp only at hSw); go_simp <;> (with_reducible rfl))
  try simp only [Act.put, List.setIfInBounds_toArray, List.set_cons_zero, List.set_cons_succ]
  refine takeQ (i := 2) (v := ?_) rfl (by kernel_rfl) (by kernel_rfl) (by kernel_rfl) (fun _ _ _ h => h) (by rfl) hHeld ?_ ?_
  rotate_left
  · (intro w' hSw; (try dsimp only at hSw); go_simp <;> (with_reducible rfl))
  try simp only [Act.put, List.setIfInBounds_toArray, List.set_cons_zero, List.set_cons_succ]
  refine takeQ (i := 3) (v := ?_) rfl (by kernel_rfl) (by kernel_rfl) (by kernel_rfl) (fun _ _ _ h => h) (by rfl) hHeld ?_ ?_
  rotate_left
  · (intro w' hSw; (try dsimp only at hSw); go_simp <;> (with_reducible rfl))
  try simp only [Act.put, List.setIfInBounds_toArray, List.set_cons_zero, List.set_cons_succ]
  refine takeQ (i := 4) (v := ?_) rfl (by kernel_rfl) (by kernel_rfl) (by kernel_rfl) (fun _ _ _ h => h) (by rfl) hHeld ?_ ?_
  rotate_left
  · (intro w' hSw; (try dsimp only at hSw); go_simp <;> (with_reducible rfl))
  try simp only [Act.put, List.setIfInBounds_toArray, List.set_cons_zero, List.set_cons_succ]
  refine takeQ (i := 5) (v := ?_) rfl (by kernel_rfl) (by kernel_rfl) (by kernel_rfl) (fun _ _ _ h => h) (by rfl) hHeld ?_ ?_
  rotate_left
  · (intro w' hSw; (try dsimp only at hSw); go_simp <;> (with_reducible rfl))
  try simp only [Act.put, List.setIfInBounds_toArray, List.set_cons_zero, List.set_cons_succ]
  refine takeQ (i := 6) (v := ?_) rfl (by kernel_rfl) (by kernel_rfl) (by kernel_rfl) (fun _ _ _ h => h) (by rfl) hHeld ?_ ?_
  rotate_left
  · (intro w' hSw; (try dsimp only at hSw); go_simp <;> (with_reducible rfl))
  try simp only [Act.put, List.setIfInBounds_toArray, List.set_cons_zero, List.set_cons_succ]
  refine takeQ (i := 7) (v := ?_) rfl (by kernel_rfl) (by kernel_rfl) (by kernel_rfl) (fun _ _ _ h => h) (by rfl) hHeld ?_ ?_
  rotate_left
  · (intro w' hSw; (try dsimp only at hSw); go_simp <;> (with_reducible rfl))
  try simp only [Act.put, List.setIfInBounds_toArray, List.set_cons_zero, List.set_cons_succ]
  refine takeQ (i := 8) (v := ?_) rfl (by kernel_rfl) (by kernel_rfl) (by kernel_rfl) (fun _ _ _ h => h) (by rfl) hHeld ?_ ?_
  rotate_left
  · (intro w' hSw; (try dsimp only at hSw); go_simp <;> (with_reducible rfl))
  try simp only [Act.put, List.setIfInBounds_toArray, List.set_cons_zero, List.set_cons_succ]
  refine takeQ (i := 9) (v := ?_) rfl (by kernel_rfl) (by kernel_rfl) (by kernel_rfl) (fun _ _ _ h => h) (by rfl) hHeld ?_ ?_
  rotate_left
  · (intro w' hSw; (try dsimp only at hSw); go_simp <;> (with_reducible rfl))
  try simp only [Act.put, List.setIfInBounds_toArray, List.set_cons_zero, List.set_cons_succ]
  refine takeQ (i := 10) (v := ?_) rfl (by kernel_rfl) (by kernel_rfl) (by kernel_rfl) (fun _ _ _ h => h) (by rfl) hHeld ?_ ?_
  rotate_left
  · (intro w' hSw; (try dsimp only at hSw); go_simp <;> (with_reducible rfl))
  try simp only [Act.put, List.setIfInBounds_toArray, List.set_cons_zero, List.set_cons_succ]
  refine takeQ (i := 11) (v := ?_) rfl (by kernel_rfl) (by kernel_rfl) (by kernel_rfl) (fun _ _ _ h => h) (by rfl) hHeld ?_ ?_
  rotate_left
  · (intro w' hSw; (try dsimp only at hSw); go_simp <;> (with_reducible rfl))
  try simp only [Act.put, List.setIfInBounds_toArray, List.set_cons_zero, List.set_cons_succ]
  refine takeQ (i := 14) (v := ?_) rfl (by kernel_rfl) (by kernel_rfl) (by kernel_rfl) (fun _ _ _ h => h) (by rfl) hHeld ?_ ?_
  rotate_left
  · (intro w' hSw; (try dsimp only at hSw); go_simp <;> (with_reducible rfl))
  try simp only [Act.put, List.setIfInBounds_toArray, List.set_cons_zero, List.set_cons_succ]
  refine takeQ (i := 15) (v := ?_) rfl (by kernel_rfl) (by kernel_rfl) (by kernel_rfl) (fun _ _ _ h => h) (by rfl) hHeld ?_ ?_
  rotate_left
  · (intro w' hSw; (try dsimp only at hSw); go_simp <;> (with_reducible rfl))
  try simp only [Act.put, List.setIfInBounds_toArray, List.set_cons_zero, List.set_cons_succ]
  refine callL (i := 12) (by kernel_rfl) rfl (by rfl) (fun K hK => ?_)
  go_simp
  refine (hp0 _).mono ?_
  rintro _ w7 ⟨v7, rfl, ta7, c9⟩
  replace q := q.below c9
  clear c9
  obtain ⟨a7, cap7, rfl, hn7, hh7⟩ := ta7
  have hcv := run_str w7 a7 _ cap7 _ rfl hh7
  rw [HP.out, HSX.out] at hcv
  rw [HP.out]
  try dsimp only
  refine hK.out _ _ (by have hq := And.intro q.sa.cells (And.intro q.sb.cells (run_str _ A m cap x HXX.out q.ho)); rw [HSX.out] at hq; exact hq) (fun hHeld => ?_)
  clear hK K
  try simp only [Act.put, List.setIfInBounds_toArray, List.set_cons_zero, List.set_cons_succ]
  refine callL (i := 13) (by kernel_rfl) rfl (by rfl) (fun K hK => ?_)
  go_simp
  try dsimp only
  refine hK.out _ _ (by have hq := And.intro q.sa.cells (And.intro q.sb.cells (run_str _ A m cap x HXX.out q.ho)); rw [HSX.out] at hq; exact hq) (fun hHeld => ?_)
  clear hK K
  try simp only [Act.put, List.setIfInBounds_toArray, List.set_cons_zero, List.set_cons_succ]
  refine takeQ (i := 16) (v := ?_) rfl (by kernel_rfl) (by kernel_rfl) (by kernel_rfl) (fun _ _ _ h => h) (by rfl) hHeld ?_ ?_
  rotate_left
  · (intro w' hSw; (try dsimp only at hSw); go_simp <;> (with_reducible rfl))
  try simp only [Act.put, List.setIfInBounds_toArray, List.set_cons_zero, List.set_cons_succ]
  refine takeQ (i := 17) (v := ?_) rfl (by kernel_rfl) (by kernel_rfl) (by kernel_rfl) (fun _ _ _ h => h) (by rfl) hHeld ?_ ?_
  rotate_left
  · (intro w' hSw; (try dsimp only at hSw); go_simp <;> (with_reducible rfl))
  try simp only [Act.put, List.setIfInBounds_toArray, List.set_cons_zero, List.set_cons_succ]
  refine takeQ (i := 18) (v := ?_) rfl (by kernel_rfl) (by kernel_rfl) (by kernel_rfl) (fun _ _ _ h => h) (by rfl) hHeld ?_ ?_
  rotate_left
  · (intro w' hSw; (try dsimp only at hSw); go_simp <;> (with_reducible rfl))
  try simp only [Act.put, List.setIfInBounds_toArray, List.set_cons_zero, List.set_cons_succ]
  refine wpAnyH_done (by kernel_rfl) ?_ _
  have HB := Lib.hid q.bel
  clear q hcv hHeld
  go_wp2_with fail
  go_ret
  exact ⟨rfl, HB.out⟩
end Go.Proofs.Ytodejnligocadaa
