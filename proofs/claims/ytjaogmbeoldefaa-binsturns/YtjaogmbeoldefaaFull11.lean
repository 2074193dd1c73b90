/-
  DATASETS: whether there are as many values as rows and columns multiplied; the document's dataset of one whose values are told by their bits; a column's values. Conditions: rows and columns of 64 bits with a sign; at most 1000 values and targets.
-/
import Derived.Test.YtjaogmbeoldefaaDatE
import Derived.Test.YtjaogmbeoldefaaMulLay
import Derived.Test.YtjaogmbeoldefaaAppLies
import Derived.Test.YtjaogmbeoldefaaByHand
import Derived.Test.YtjaogmbeoldefaaRefRows
namespace Go.Proofs.Ytjaogmbeoldefaa
open Go.RowKit

/-- As many values as rows and columns multiplied. -/
def fullB (r q : Int) (n : Nat) : Bool := decide (0 ≤ r ∧ 0 ≤ q ∧ r * q = (n : Int))

set_option maxHeartbeats 1000000 in
theorem full_any (k c b t d l p r q : Int) (aV : Option Addr) (nV cV : Nat) (T : Value) (hr : -9223372036854775808 ≤ r ∧ r ≤ 9223372036854775807) (hq : -9223372036854775808 ≤ q ∧ q ≤ 9223372036854775807) (hn : nV ≤ 1048576) (w : World) :
    Calls Try.prog 45 #[ds k c b t d l p r q (.slice aV nV cV) T] w fun e w' => e = .returned (.bool (fullB r q nV)) ∧ Below w.heap.size w w' := by
  have hb := fun o => (Below.refl w.heap.size w).alloc (Nat.le_refl _) o
  have hm := mul64 (IntKind.u64.wrap r) (IntKind.u64.wrap q) (by rw [IntKind.wrap_u64]; exact ⟨by omega, by omega⟩) (by rw [IntKind.wrap_u64]; exact ⟨by omega, by omega⟩)
  have wn : IntKind.u64.wrap (nV : Int) = nV := by rw [IntKind.wrap_u64]; omega
  unfold ds
  by_cases h1 : r < 0
  · have HE : Hid (fullB r q nV = false) := decide_eq_false (by omega)
    have g1 : decide (r ≥ 0) = false := by simpa using h1
    clear hr hq
    generalize hi _ _ = H at *
    generalize lo _ _ = L at *
    go_enter Try.func45, Try.ntmps45
    go_wp2_with (go_at_call 55; refine (hm _).mono ?_; rintro e w' ⟨rfl, rfl⟩)
    go_ret
    exact ⟨by rw [HE.out]; rfl, hb _⟩

  have g1 : decide (r ≥ 0) = true := by simpa using h1
  by_cases h2 : q < 0
  · have HE : Hid (fullB r q nV = false) := decide_eq_false (by omega)
    have g2 : decide (q ≥ 0) = false := by simpa using h2
    clear hr hq
    generalize hi _ _ = H at *
    generalize lo _ _ = L at *
    go_enter Try.func45, Try.ntmps45
    go_wp2_with (go_at_call 55; refine (hm _).mono ?_; rintro e w' ⟨rfl, rfl⟩)
    go_ret
    exact ⟨by rw [HE.out]; rfl, hb _⟩

  have g2 : decide (q ≥ 0) = true := by simpa using h2
  have wr : IntKind.u64.wrap r = r := by rw [IntKind.wrap_u64]; omega
  have wq : IntKind.u64.wrap q = q := by rw [IntKind.wrap_u64]; omega
  have HHL : Hid (hi (IntKind.u64.wrap r) (IntKind.u64.wrap q) * 18446744073709551616 + lo (IntKind.u64.wrap r) (IntKind.u64.wrap q) = r * q) := by
    show _ = _
    rw [wr, wq]; unfold hi lo; omega
  have HLO : Hid (0 ≤ lo (IntKind.u64.wrap r) (IntKind.u64.wrap q) ∧ lo (IntKind.u64.wrap r) (IntKind.u64.wrap q) < 18446744073709551616) := by
    show _ ∧ _
    unfold lo; omega
  generalize hi _ _ = H at *
  generalize lo _ _ = L at *
  by_cases h3 : H = 0
  · have g3 : (H == 0) = true := by simpa using h3
    by_cases h4 : L = nV
    · have HE : Hid (fullB r q nV = true) := decide_eq_true ⟨by omega, by omega, by have := HHL.out; omega⟩
      have g4 : (L == (nV : Int)) = true := by simpa using h4
      clear hr hq h3 h4 wr wq HHL HLO
      go_enter Try.func45, Try.ntmps45
      go_wp2_with (go_at_call 55; refine (hm _).mono ?_; rintro e w' ⟨rfl, rfl⟩)
      go_ret
      exact ⟨by rw [HE.out]; rfl, hb _⟩

    · have HE : Hid (fullB r q nV = false) := decide_eq_false (by have := HHL.out; omega)
      have g4 : (L == (nV : Int)) = false := by simpa using h4
      clear hr hq h3 h4 wr wq HHL HLO
      go_enter Try.func45, Try.ntmps45
      go_wp2_with (go_at_call 55; refine (hm _).mono ?_; rintro e w' ⟨rfl, rfl⟩)
      go_ret
      exact ⟨by rw [HE.out]; rfl, hb _⟩

  · have HE : Hid (fullB r q nV = false) := decide_eq_false (by have := HHL.out; have := HLO.out; omega)
    have g3 : (H == 0) = false := by simpa using h3
    clear hr hq h3 wr wq HHL HLO
    go_enter Try.func45, Try.ntmps45
    go_wp2_with (go_at_call 55; refine (hm _).mono ?_; rintro e w' ⟨rfl, rfl⟩)
    go_ret
    exact ⟨by rw [HE.out]; rfl, hb _⟩

theorem bitsOf_takeO (l : List Int) (j : Nat) (hj : j < l.length) : bitsOf (l.take (j + 1)) = bitsOf (l.take j) ++ [(l.getD j 0).toNat] := by
  have e : l.take (j + 1) = l.take j ++ [l.getD j 0] := by rw [List.take_add_one, List.getElem?_eq_getElem hj]; simp [List.getD_eq_getElem?_getD, hj]
  rw [e, bitsOf, List.map_append]
  rfl
set_option maxHeartbeats 1000000 in
theorem refOfO_any (a : Option Addr) (cap n : Nat) (l : List Int) (hn : l.length = n) (hb : n ≤ 1000) (w : World) (hr : HoldsE KU w a l) :
    Calls Try.prog 14 #[.slice a n cap] w fun e w' => (∃ v, e = .returned v ∧ Own KF w' w.heap.size v (bitsOf l)) ∧ Below w.heap.size w w' := by
  go_enter Try.func14, Try.ntmps14
  go_wp2_with fail
  go_loopw [3, 4] (fun v i wr => ∃ (j : Nat), j ≤ n ∧ i = .int .i64 (j : Int) ∧ Own KF wr w.heap.size v (bitsOf (l.take j)) ∧ Below w.heap.size w wr) (fun _ i _ => n - (intOf i).toNat)
  case atStart => exact ⟨0, by omega, rfl, Own.start w _ (Nat.le_refl _), (Below.refl _ w).alloc (Nat.le_refl _) _⟩
  case round =>
    obtain ⟨j, hj, rfl, hown, hB⟩ := hrel
    have hsz := hB.size
    by_cases hlt : j < n
    · obtain ⟨ga, off, rfl, hga, hrow⟩ : ∃ g off, a = some ⟨g, off, none⟩ ∧ g < w.heap.size ∧ ∀ j, j < l.length → w.cell? ⟨g, off + j, none⟩ = some (.int .u64 (l.getD j 0)) := by
        rcases hr with rfl | h'
        · simp at hn; omega
        · exact h'
      have hlen : (bitsOf (l.take j)).length = j := by simp [bitsOf_len]; omega
      have HT := Lib.hid (bitsOf_takeO l j (by omega))
      have cx : wr.cell? ⟨ga, off + j, none⟩ = some (.int .u64 (l.getD j 0)) := (hB.cell (by exact hga)).trans (hrow j (by omega))
      obtain ⟨x, HX⟩ : ∃ x, Hid (l.getD j 0 = x) := ⟨_, rfl⟩
      rw [HX.out] at cx HT
      have hfr : ∀ w : World, (callFunc 35 #[.int .u64 x]).run Try.prog w = .ok (.value (.float .f64 x.toNat)) w := fromb x
      clear hr hrow
      have hB1 : w.heap.size ≤ (wr.alloc (.cells #[.float .f64 x.toNat] 62)).heap.size := by simp; omega
      go_wp2_with (at_builtin; refine app_own okF rfl _ _ rfl w.heap.size hB1 _ _ rfl (hown.alloc _) _ 1 1 [x.toNat] rfl (CameE.new _) (by rw [hlen]; simp; omega) (fun v' w' ho hb => ?_))
      have HB2 := Lib.hid ((hB.alloc (by omega) (.cells #[.float .f64 x.toNat] 62)).trans hb)
      rw [← HT.out] at ho
      clear hown hB hb HT
      go_wp2_with fail
      go_roundw
      case rel => exact ⟨j + 1, by omega, by go_num, ho, HB2.out⟩
      case measure => simp [intOf]; omega
    · obtain rfl : j = n := by omega
      rw [List.take_of_length_le (by omega)] at hown
      clear hlt
      go_wp2_with fail
      go_ret
      exact ⟨⟨_, rfl, hown⟩, hB⟩

/-- An append of what a slice leads to, nil or not. -/
theorem app_wpN {α : Type} {K : Kind α} {w : World} (ok : K.Ok) {o : Oper} {a : Act} {KK : Act → World → Prop} {Q : Exit → Act → World → Prop} (s x : Operand)
    (ho : o.op = .call { callee := .builtin .append, args := #[s, x], argTypes := #[K.s, K.s] }) (B : Nat) (hB : B ≤ w.heap.size) (g n cap : Nat) (l : List α) (hs : a.eval s = .slice (some ⟨g, 0, none⟩) n cap) (hown : Own K w B (.slice (some ⟨g, 0, none⟩) n cap) l)
    (A : Option Addr) (m c : Nat) (k : List α) (hx : a.eval x = .slice A m c) (hl : k.length = m) (hA : A = none → c = 0) (hk : HoldsE K w A k) (hm : l.length + k.length ≤ 1048576)
    (h : ∀ v' w', Own K w' B v' (l ++ k) → Below B w w' → But g w w' → KK (a.put o.dst v') w') : Oper.wp Try.prog o a w KK Q := by
  cases A with
  | some ad => exact app_wp0 ok s x ho B hB _ l hs hown (some ad) m c k hx ⟨⟨ad, rfl⟩, hl, hk⟩ hm (fun v' w' h1 h2 => h v' w' h1 ((Below.refl B w).grown h2 hB (fun g hg => (World.ownsRow.lt hown g hg).1)) (But.grown h2))
  | none =>
    obtain rfl := hA rfl
    obtain rfl : k = [] := by
      rcases hk with h | ⟨_, _, h, _⟩
      · exact h
      · cases h
    obtain rfl : m = 0 := hl.symm
    obtain ⟨i0, hi, hz0, hz1, hz2⟩ := info_parts ok.info
    have hrun := run_append_owned_none (P := Try.prog) (w := w) B K.s o.type K.e i0 1 ok.under hi _ _ _ hown
    unfold Oper.wp execOp
    simp only [ho, resolve, invoke, builtin, Sem.run_bind, Sem.run_pure, Result.andThen_ok, List.map_toArray, List.map_cons, List.map_nil, hs, hx, hrun]
    exact h _ w (by rw [List.append_nil]; exact hown) (Below.refl B w) (But.refl g w)

set_option maxRecDepth 20000 in
set_option maxHeartbeats 8000000 in
theorem pfull_any (k c b t d l p r q : Int) (aV aT : Option Addr) (nV cV nT cT : Nat) (V T : List Int) (hVl : V.length = nV) (hTl : T.length = nT) (hn : nV ≤ 1000) (hn2 : nT ≤ 1000) (hTc : aT = none → cT = 0) (w : World) (hV0 : HoldsE KU w aV V) (hT0 : HoldsE K64 w aT T) :
    Calls Try.prog 10 #[ds k c b t d l p r q (.slice aV nV cV) (.slice aT nT cT)] w fun e w' => (∃ v x, e = .returned (ds k c b t d l p r q v x) ∧ Own KF w' w.heap.size v (bitsOf V) ∧ Own K64 w' w.heap.size x T) ∧ Below w.heap.size w w' := by
  have hof := fun W h => refOfO_any aV cV nV V hVl hn W h
  have D0 := lay_dat w 27 k c b t d l p r q (.slice aV nV cV) (.slice aT nT cT)
  have b0 := lay_below w 27 k c b t d l p r q (.slice aV nV cV) (.slice aT nT cT)
  have z0 := lay_size w 27 k c b t d l p r q (.slice aV nV cV) (.slice aT nT cT)
  unfold ds
  go_enter Try.func10, Try.ntmps10
  go_wp2_with fail
  change Code.wp _ _ _ _ (lay (lay w 27 k c b t d l p r q (.slice aV nV cV) (.slice aT nT cT)) 33 0 0 0 0 0 0 0 0 0 (.slice none 0 0) (.slice none 0 0))
  have h0V := hV0.below b0
  have h0T := hT0.below b0
  generalize lay w 27 k c b t d l p r q (.slice aV nV cV) (.slice aT nT cT) = w00 at *
  have E0 := lay_dat w00 33 0 0 0 0 0 0 0 0 0 (.slice none 0 0) (.slice none 0 0)
  have b1 := lay_below w00 33 0 0 0 0 0 0 0 0 0 (.slice none 0 0) (.slice none 0 0)
  have h1V := h0V.below b1
  have h1T := h0T.below b1
  have D1 := D0.below b1 D0.lt
  have bb1 := b0.trans (b1.mono b0.size)
  rw [z0] at E0
  generalize lay w00 33 0 0 0 0 0 0 0 0 0 (.slice none 0 0) (.slice none 0 0) = w0 at *
  obtain ⟨N, hN⟩ : ∃ N, w.heap.size = N := ⟨_, rfl⟩
  have hwN : w.heap.size ≤ N := Nat.le_of_eq hN
  have hNX : N < N + 1 := Nat.lt_succ_self N
  rw [hN] at D1 E0 ⊢
  clear hN D0 b0 b1 z0 h0V h0T hV0 hT0
  have D := D1.drew
  have X := E0.drew
  have bb := bb1.drew
  have hV : HoldsE KU w0.drew aV V := h1V
  have hT : HoldsE K64 w0.drew aT T := h1T
  clear D1 E0 bb1 h1V h1T
  refine wp_region_held_drew (S := (fun W => W.cell? ⟨N, 0, none⟩ = some (.int .i64 k) ∧ W.cell? ⟨N, 1, none⟩ = some (.int .i64 c) ∧ W.cell? ⟨N, 2, none⟩ = some (.int .i64 b) ∧ W.cell? ⟨N, 3, none⟩ = some (.int .i64 t) ∧ W.cell? ⟨N, 4, none⟩ = some (.int .i64 d) ∧ W.cell? ⟨N, 5, none⟩ = some (.int .i64 l) ∧ W.cell? ⟨N, 6, none⟩ = some (.int .i64 p) ∧ W.cell? ⟨N, 7, none⟩ = some (.int .i64 r) ∧ W.cell? ⟨N, 8, none⟩ = some (.int .i64 q) ∧ W.cell? ⟨N, 9, none⟩ = some (.slice aV nV cV) ∧ W.cell? ⟨N, 10, none⟩ = some (.slice aT nT cT))) (by kernel_rfl) (by first | exact DZ.cells | exact D.cells) (fun hHeld => ?_)
  refine takeQ (i := 0) (v := ?_) rfl (by kernel_rfl) (by kernel_rfl) (by kernel_rfl) (fun _ _ _ h => h) (by rfl) hHeld ?_ ?_
  rotate_left
  · (intro w' hSw; (try dsimp only at hSw); go_simp <;> (with_reducible rfl))
  try simp only [Act.put, List.setIfInBounds_toArray, List.set_cons_zero, List.set_cons_succ]
  refine takeQ (i := 1) (v := ?_) rfl (by kernel_rfl) (by kernel_rfl) (by kernel_rfl) (fun _ _ _ h => h) (by rfl) hHeld ?_ ?_
  rotate_left
  · (intro w' hSw; (try dsimp only at hSw); go_simp <;> (with_reducible rfl))
  try simp only [Act.put, List.setIfInBounds_toArray, List.set_cons_zero, List.set_cons_succ]
  refine takeQ (i := 2) (v := ?_) rfl (by kernel_rfl) (by kernel_rfl) (by kernel_rfl) (fun _ _ _ h => h) (by rfl) hHeld ?_ ?_
  rotate_left
  · (intro w' hSw; (try dsimp only at hSw); go_simp <;> (with_reducible rfl))
  try simp only [Act.put, List.setIfInBounds_toArray, List.set_cons_zero, List.set_cons_succ]
  refine takeQ (i := 3) (v := ?_) rfl (by kernel_rfl) (by kernel_rfl) (by kernel_rfl) (fun _ _ _ h => h) (by rfl) hHeld ?_ ?_
  rotate_left
  · (intro w' hSw; (try dsimp only at hSw); go_simp <;> (with_reducible rfl))
  try simp only [Act.put, List.setIfInBounds_toArray, List.set_cons_zero, List.set_cons_succ]
  refine takeQ (i := 4) (v := ?_) rfl (by kernel_rfl) (by kernel_rfl) (by kernel_rfl) (fun _ _ _ h => h) (by rfl) hHeld ?_ ?_
  rotate_left
  · (intro w' hSw; (try dsimp only at hSw); go_simp <;> (with_reducible rfl))
  try simp only [Act.put, List.setIfInBounds_toArray, List.set_cons_zero, List.set_cons_succ]
  refine takeQ (i := 5) (v := ?_) rfl (by kernel_rfl) (by kernel_rfl) (by kernel_rfl) (fun _ _ _ h => h) (by rfl) hHeld ?_ ?_
  rotate_left
  · (intro w' hSw; (try dsimp only at hSw); go_simp <;> (with_reducible rfl))
  try simp only [Act.put, List.setIfInBounds_toArray, List.set_cons_zero, List.set_cons_succ]
  refine takeQ (i := 6) (v := ?_) rfl (by kernel_rfl) (by kernel_rfl) (by kernel_rfl) (fun _ _ _ h => h) (by rfl) hHeld ?_ ?_
  rotate_left
  · (intro w' hSw; (try dsimp only at hSw); go_simp <;> (with_reducible rfl))
  try simp only [Act.put, List.setIfInBounds_toArray, List.set_cons_zero, List.set_cons_succ]
  refine takeQ (i := 7) (v := ?_) rfl (by kernel_rfl) (by kernel_rfl) (by kernel_rfl) (fun _ _ _ h => h) (by rfl) hHeld ?_ ?_
  rotate_left
  · (intro w' hSw; (try dsimp only at hSw); go_simp <;> (with_reducible rfl))
  try simp only [Act.put, List.setIfInBounds_toArray, List.set_cons_zero, List.set_cons_succ]
  refine takeQ (i := 10) (v := ?_) rfl (by kernel_rfl) (by kernel_rfl) (by kernel_rfl) (fun _ _ _ h => h) (by rfl) hHeld ?_ ?_
  rotate_left
  · (intro w' hSw; (try dsimp only at hSw); go_simp <;> (with_reducible rfl))
  try simp only [Act.put, List.setIfInBounds_toArray, List.set_cons_zero, List.set_cons_succ]
  refine takeQ (i := 11) (v := ?_) rfl (by kernel_rfl) (by kernel_rfl) (by kernel_rfl) (fun _ _ _ h => h) (by rfl) hHeld ?_ ?_
  rotate_left
  · (intro w' hSw; (try dsimp only at hSw); go_simp <;> (with_reducible rfl))
  try simp only [Act.put, List.setIfInBounds_toArray, List.set_cons_zero, List.set_cons_succ]
  refine bothL (i := 8) (j := 9) (by kernel_rfl) rfl rfl (by rfl) (by rfl) (fun K hK => ?_) (fun K hK => ?_)
  · go_simp
    refine (hof _ hV).mono ?_
    rintro _ w2 ⟨⟨v, rfl, ov⟩, b2⟩
    have hVb := bb.size
    have hXv := X.lt
    replace hT := hT.below b2
    replace X := X.below b2 X.lt
    replace D := D.below b2 D.lt
    replace bb := bb.trans (b2.mono bb.size)
    try dsimp only
    refine hK.out _ _ (by first | exact DZ.cells | exact D.cells) (fun hHeld => ?_)
    clear hK K
    try simp only [Act.put, List.setIfInBounds_toArray, List.set_cons_zero, List.set_cons_succ]
    refine callL (i := 9) (by kernel_rfl) rfl (by rfl) (fun K hK => ?_)
    go_simp
    have b4 := (Below.refl w2.heap.size w2).alloc (Nat.le_refl _) (.cells #[] 2)
    have o4 := Own.start (K := K64) w2 w2.heap.size (Nat.le_refl _)
    have hTb := bb.size
    have hXt := X.lt
    replace hT := hT.below b4
    replace X := X.below b4 X.lt
    replace D := D.below b4 D.lt
    replace bb := bb.trans (b4.mono bb.size)
    try dsimp only
    refine hK.out _ _ (by first | exact DZ.cells | exact D.cells) (fun hHeld => ?_)
    clear hK K
    try simp only [Act.put, List.setIfInBounds_toArray, List.set_cons_zero, List.set_cons_succ]
    refine callL (i := 12) (by kernel_rfl) rfl (by rfl) (fun K hK => ?_)
    refine app_wpN (w := w2.alloc (.cells #[] 2)) ok64 _ _ rfl w2.heap.size b4.size _ _ _ _ rfl o4 aT nT cT T rfl hTl hTc hT (by simp; omega) ?_
    intro t2 w3 ot b3 u3
    rw [List.nil_append] at ot
    replace X := X.below b3 hXt
    replace D := D.below b3 (Nat.lt_trans hNX hXt)
    replace bb := bb.trans (b3.mono hTb)
    replace ov := ov.below (b4.trans b3)
    obtain ⟨av, nv, cv, rfl⟩ : ∃ a n c, v = .slice a n c := (by obtain ⟨a, c, h, _⟩ := ov.holds; exact ⟨a, _, c, h⟩)
    obtain ⟨at2, nt2, ct2, rfl⟩ : ∃ a n c, t2 = .slice a n c := (by obtain ⟨a, c, h, _⟩ := ot.holds; exact ⟨a, _, c, h⟩)
    try dsimp only
    refine hK.out _ _ (by first | exact DZ.cells | exact D.cells) (fun hHeld => ?_)
    clear hK K
    try simp only [Act.put, List.setIfInBounds_toArray, List.set_cons_zero, List.set_cons_succ]
    refine callL (i := 13) (by kernel_rfl) rfl (by rfl) (fun K hK => ?_)
    go_simp
    try dsimp only
    refine hK.out _ _ (by first | exact DZ.cells | exact D.cells) (fun hHeld => ?_)
    clear hK K
    try simp only [Act.put, List.setIfInBounds_toArray, List.set_cons_zero, List.set_cons_succ]
    refine callL (i := 14) (by kernel_rfl) rfl (by rfl) (fun K hK => ?_)
    obtain ⟨x0, x1, x2, x3, x4, x5, x6, x7, x8, x9, x10⟩ := X.cells
    obtain ⟨y0, y1, y2, y3, y4, y5, y6, y7, y8, y9, y10⟩ := X.frs
    obtain ⟨fv, fb⟩ := put11_facts k c b t d l p r q (.slice av nv cv) (.slice at2 nt2 ct2) X
    have DZ := D.but fb (Nat.ne_of_lt hNX)
    have ov9 := ov.but fb hXv
    have ot9 := ot.but fb hXt
    have bz := bb.trans (fb.below (Nat.le_trans hwN (Nat.le_of_lt hNX)) bb.size)
    go_simp
    try dsimp only
    refine hK.out _ _ (by first | exact DZ.cells | exact D.cells) (fun hHeld => ?_)
    clear hK K
    try simp only [Act.put, List.setIfInBounds_toArray, List.set_cons_zero, List.set_cons_succ]
    refine wpAnyH_done (by kernel_rfl) ?_ _
    have HB := Lib.hid bz
    have HV := Lib.hid (ov9.base hVb)
    have HTT := Lib.hid (ot9.base hTb)
    clear x0 x1 x2 x3 x4 x5 x6 x7 x8 x9 x10 y0 y1 y2 y3 y4 y5 y6 y7 y8 y9 y10 D X bb ov ot fb DZ ov9 ot9 bz hHeld
    change Exit.then _ _ _ _ (put11 w3 (N + 1) k c b t d l p r q (.slice av nv cv) (.slice at2 nt2 ct2))
    generalize put11 w3 (N + 1) k c b t d l p r q (.slice av nv cv) (.slice at2 nt2 ct2) = w9 at *
    obtain ⟨c0, c1, c2, c3, c4, c5, c6, c7, c8, c9, c10⟩ := fv.cells
    go_wp2_with fail
    refine bodyPost_ret (v := ds k c b t d l p r q (.slice av nv cv) (.slice at2 nt2 ct2)) (by simp [ds, results, Try.results10, go_sem, c0, c1, c2, c3, c4, c5, c6, c7, c8, c9, c10]) rfl ?_
    exact ⟨⟨_, _, rfl, HV.out, HTT.out⟩, HB.out⟩
  · go_simp
    have b4 := (Below.refl w0.drew.heap.size w0.drew).alloc (Nat.le_refl _) (.cells #[] 2)
    have o4 := Own.start (K := K64) w0.drew w0.drew.heap.size (Nat.le_refl _)
    have hTb := bb.size
    have hXt := X.lt
    replace hT := hT.below b4
    replace X := X.below b4 X.lt
    replace D := D.below b4 D.lt
    replace bb := bb.trans (b4.mono bb.size)
    have hV' := hV.below b4
    clear hV
    have hV := hV'
    have b4lt : w0.drew.heap.size < (w0.drew.alloc (.cells #[] 2)).heap.size := (by simp)
    try dsimp only
    refine hK.out _ _ (by first | exact DZ.cells | exact D.cells) (fun hHeld => ?_)
    clear hK K
    try simp only [Act.put, List.setIfInBounds_toArray, List.set_cons_zero, List.set_cons_succ]
    refine callL (i := 8) (by kernel_rfl) rfl (by rfl) (fun K hK => ?_)
    go_simp
    refine (hof _ hV).mono ?_
    rintro _ w2 ⟨⟨v, rfl, ov⟩, b2⟩
    have hVb := bb.size
    have hXv := X.lt
    replace hT := hT.below b2
    replace X := X.below b2 X.lt
    replace D := D.below b2 D.lt
    replace bb := bb.trans (b2.mono bb.size)
    replace o4 := o4.below b2
    try dsimp only
    refine hK.out _ _ (by first | exact DZ.cells | exact D.cells) (fun hHeld => ?_)
    clear hK K
    try simp only [Act.put, List.setIfInBounds_toArray, List.set_cons_zero, List.set_cons_succ]
    refine callL (i := 12) (by kernel_rfl) rfl (by rfl) (fun K hK => ?_)
    refine app_wpN (w := w2) ok64 _ _ rfl w0.drew.heap.size (Nat.le_trans b4.size b2.size) _ _ _ _ rfl o4 aT nT cT T rfl hTl hTc hT (by simp; omega) ?_
    intro t2 w3 ot b3 u3
    rw [List.nil_append] at ot
    replace X := X.below b3 hXt
    replace D := D.below b3 (Nat.lt_trans hNX hXt)
    replace bb := bb.trans (b3.mono hTb)
    replace ov := ov.but u3 b4lt
    obtain ⟨av, nv, cv, rfl⟩ : ∃ a n c, v = .slice a n c := (by obtain ⟨a, c, h, _⟩ := ov.holds; exact ⟨a, _, c, h⟩)
    obtain ⟨at2, nt2, ct2, rfl⟩ : ∃ a n c, t2 = .slice a n c := (by obtain ⟨a, c, h, _⟩ := ot.holds; exact ⟨a, _, c, h⟩)
    try dsimp only
    refine hK.out _ _ (by first | exact DZ.cells | exact D.cells) (fun hHeld => ?_)
    clear hK K
    try simp only [Act.put, List.setIfInBounds_toArray, List.set_cons_zero, List.set_cons_succ]
    refine callL (i := 13) (by kernel_rfl) rfl (by rfl) (fun K hK => ?_)
    go_simp
    try dsimp only
    refine hK.out _ _ (by first | exact DZ.cells | exact D.cells) (fun hHeld => ?_)
    clear hK K
    try simp only [Act.put, List.setIfInBounds_toArray, List.set_cons_zero, List.set_cons_succ]
    refine callL (i := 14) (by kernel_rfl) rfl (by rfl) (fun K hK => ?_)
    obtain ⟨x0, x1, x2, x3, x4, x5, x6, x7, x8, x9, x10⟩ := X.cells
    obtain ⟨y0, y1, y2, y3, y4, y5, y6, y7, y8, y9, y10⟩ := X.frs
    obtain ⟨fv, fb⟩ := put11_facts k c b t d l p r q (.slice av nv cv) (.slice at2 nt2 ct2) X
    have DZ := D.but fb (Nat.ne_of_lt hNX)
    have ov9 := ov.but fb hXv
    have ot9 := ot.but fb hXt
    have bz := bb.trans (fb.below (Nat.le_trans hwN (Nat.le_of_lt hNX)) bb.size)
    go_simp
    try dsimp only
    refine hK.out _ _ (by first | exact DZ.cells | exact D.cells) (fun hHeld => ?_)
    clear hK K
    try simp only [Act.put, List.setIfInBounds_toArray, List.set_cons_zero, List.set_cons_succ]
    refine wpAnyH_done (by kernel_rfl) ?_ _
    have HB := Lib.hid bz
    have HV := Lib.hid (ov9.base hVb)
    have HTT := Lib.hid (ot9.base hTb)
    clear x0 x1 x2 x3 x4 x5 x6 x7 x8 x9 x10 y0 y1 y2 y3 y4 y5 y6 y7 y8 y9 y10 D X bb ov ot fb DZ ov9 ot9 bz hHeld
    change Exit.then _ _ _ _ (put11 w3 (N + 1) k c b t d l p r q (.slice av nv cv) (.slice at2 nt2 ct2))
    generalize put11 w3 (N + 1) k c b t d l p r q (.slice av nv cv) (.slice at2 nt2 ct2) = w9 at *
    obtain ⟨c0, c1, c2, c3, c4, c5, c6, c7, c8, c9, c10⟩ := fv.cells
    go_wp2_with fail
    refine bodyPost_ret (v := ds k c b t d l p r q (.slice av nv cv) (.slice at2 nt2 ct2)) (by simp [ds, results, Try.results10, go_sem, c0, c1, c2, c3, c4, c5, c6, c7, c8, c9, c10]) rfl ?_
    exact ⟨⟨_, _, rfl, HV.out, HTT.out⟩, HB.out⟩
end Go.Proofs.Ytjaogmbeoldefaa
