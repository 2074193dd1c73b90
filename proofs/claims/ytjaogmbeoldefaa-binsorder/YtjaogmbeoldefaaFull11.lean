/-
  DATASETS as values; whether there are as many values as rows and columns multiplied; the document's dataset of one whose values are told by their bits. Conditions: rows and columns of 64 bits with a sign; at most 1000 values and targets.
-/
import Derived.Test.YtjaogmbeoldefaaOwnE
import Derived.Test.YtjaogmbeoldefaaMulLay
import Derived.Test.YtjaogmbeoldefaaRefRows
namespace Go.Proofs.Ytjaogmbeoldefaa
open Go.RowKit

/-- Whole numbers of 64 bits. -/
def K64 : Kind Int := ⟨25, 2, .int .i64, 0, 8⟩
theorem ok64 : K64.Ok := ⟨Try.underlying25, by kernel_rfl, by decide, fun _ => rfl, rfl⟩

/-- A dataset as a value. -/
def ds (k c b t d l p r q : Int) (V T : Value) : Value := .agg #[.int .i64 k, .int .i64 c, .int .i64 b, .int .i64 t, .int .i64 d, .int .i64 l, .int .i64 p, .int .i64 r, .int .i64 q, V, T]
/-- Its cells. -/
def dv (k c b t d l p r q : Int) (V T : Value) : Nat → Value
  | 0 => .int .i64 k | 1 => .int .i64 c | 2 => .int .i64 b | 3 => .int .i64 t | 4 => .int .i64 d | 5 => .int .i64 l | 6 => .int .i64 p | 7 => .int .i64 r | 8 => .int .i64 q | 9 => V | _ => T
/-- A block that holds eleven cells, which may be written. -/
structure Dat (N : Nat) (f : Nat → Value) (w : World) : Prop where
  lt : N < w.heap.size
  c : ∀ j, j < 11 → w.cell? ⟨N, j, none⟩ = some (f j)
  fr : ∀ j, j < 11 → w.frozen? ⟨N, j, none⟩ = false
theorem Dat.below {N B : Nat} {f : Nat → Value} {w w' : World} (h : Dat N f w) (b : Below B w w') (hB : N < B) : Dat N f w' :=
  ⟨Nat.lt_of_lt_of_le h.lt b.size, fun j hj => (b.cell hB).trans (h.c j hj), fun j hj => (b.frozen hB).trans (h.fr j hj)⟩
theorem Dat.but {N b : Nat} {f : Nat → Value} {w w' : World} (h : Dat N f w) (hb : But b w w') (hn : N ≠ b) : Dat N f w' :=
  ⟨Nat.lt_of_lt_of_le h.lt hb.size, fun j hj => (hb.cell h.lt hn).trans (h.c j hj), fun j hj => (hb.frozen h.lt hn).trans (h.fr j hj)⟩
theorem Dat.drew {N : Nat} {f : Nat → Value} {w : World} (h : Dat N f w) : Dat N f w.drew := ⟨h.lt, h.c, h.fr⟩
theorem Dat.drewN {N : Nat} {f : Nat → Value} {w : World} (h : Dat N f w) (n : Nat) : Dat N f (w.drewN n) := ⟨h.lt, h.c, h.fr⟩
theorem Dat.set {N : Nat} {f g : Nat → Value} {w : World} (h : Dat N f w) (j : Nat) (x : Value) (hj : j < 11) (hg : ∀ t, g t = if t = j then x else f t) : Dat N g (w.setCell ⟨N, j, none⟩ x) := by
  refine ⟨by simpa [World.setCell] using h.lt, fun i hi => ?_, fun i hi => by rw [World.frozen?_setCell]; exact h.fr i hi⟩
  rw [hg i]
  by_cases e : i = j
  · subst e
    rw [if_pos rfl, World.cell?_setCell_same _ _ _ (h.c i hi)]
  · rw [if_neg e, World.cell?_setCell_other _ _ _ _ (by simp)]
    exact h.c i hi
/-- A dataset, laid anew. -/
def lay (w : World) (ty : TypeId) (k c b t d l p r q : Int) (V T : Value) : World := w.alloc (.cells #[.int .i64 k, .int .i64 c, .int .i64 b, .int .i64 t, .int .i64 d, .int .i64 l, .int .i64 p, .int .i64 r, .int .i64 q, V, T] ty)
theorem lay_size (w : World) (ty : TypeId) (k c b t d l p r q : Int) (V T : Value) : (lay w ty k c b t d l p r q V T).heap.size = w.heap.size + 1 := by simp [lay]
theorem lay_below (w : World) (ty : TypeId) (k c b t d l p r q : Int) (V T : Value) : Below w.heap.size w (lay w ty k c b t d l p r q V T) := (Below.refl w.heap.size w).alloc (Nat.le_refl _) _
theorem lay_dat (w : World) (ty : TypeId) (k c b t d l p r q : Int) (V T : Value) : Dat w.heap.size (dv k c b t d l p r q V T) (lay w ty k c b t d l p r q V T) := by
  refine ⟨by simp [lay], fun j hj => ?_, fun j hj => by simp [lay, go_sem]⟩
  match j with
  | 0 => simp [lay, go_sem, dv]
  | 1 => simp [lay, go_sem, dv]
  | 2 => simp [lay, go_sem, dv]
  | 3 => simp [lay, go_sem, dv]
  | 4 => simp [lay, go_sem, dv]
  | 5 => simp [lay, go_sem, dv]
  | 6 => simp [lay, go_sem, dv]
  | 7 => simp [lay, go_sem, dv]
  | 8 => simp [lay, go_sem, dv]
  | 9 => simp [lay, go_sem, dv]
  | 10 => simp [lay, go_sem, dv]
  | n + 11 => omega
theorem Dat.cells {N : Nat} {k c b t d l p r q : Int} {V T : Value} {w : World} (h : Dat N (dv k c b t d l p r q V T) w) : w.cell? ⟨N, 0, none⟩ = some (.int .i64 k) ∧ w.cell? ⟨N, 1, none⟩ = some (.int .i64 c) ∧ w.cell? ⟨N, 2, none⟩ = some (.int .i64 b) ∧ w.cell? ⟨N, 3, none⟩ = some (.int .i64 t) ∧ w.cell? ⟨N, 4, none⟩ = some (.int .i64 d) ∧ w.cell? ⟨N, 5, none⟩ = some (.int .i64 l) ∧ w.cell? ⟨N, 6, none⟩ = some (.int .i64 p) ∧ w.cell? ⟨N, 7, none⟩ = some (.int .i64 r) ∧ w.cell? ⟨N, 8, none⟩ = some (.int .i64 q) ∧ w.cell? ⟨N, 9, none⟩ = some V ∧ w.cell? ⟨N, 10, none⟩ = some T :=
  ⟨h.c 0 (by decide), h.c 1 (by decide), h.c 2 (by decide), h.c 3 (by decide), h.c 4 (by decide), h.c 5 (by decide), h.c 6 (by decide), h.c 7 (by decide), h.c 8 (by decide), h.c 9 (by decide), h.c 10 (by decide)⟩
theorem Dat.frs {N : Nat} {f : Nat → Value} {w : World} (h : Dat N f w) : w.frozen? ⟨N, 0, none⟩ = false ∧ w.frozen? ⟨N, 1, none⟩ = false ∧ w.frozen? ⟨N, 2, none⟩ = false ∧ w.frozen? ⟨N, 3, none⟩ = false ∧ w.frozen? ⟨N, 4, none⟩ = false ∧ w.frozen? ⟨N, 5, none⟩ = false ∧ w.frozen? ⟨N, 6, none⟩ = false ∧ w.frozen? ⟨N, 7, none⟩ = false ∧ w.frozen? ⟨N, 8, none⟩ = false ∧ w.frozen? ⟨N, 9, none⟩ = false ∧ w.frozen? ⟨N, 10, none⟩ = false :=
  ⟨h.fr 0 (by decide), h.fr 1 (by decide), h.fr 2 (by decide), h.fr 3 (by decide), h.fr 4 (by decide), h.fr 5 (by decide), h.fr 6 (by decide), h.fr 7 (by decide), h.fr 8 (by decide), h.fr 9 (by decide), h.fr 10 (by decide)⟩
/-- Seven numbers, stored one behind the other. -/
def setW (w : World) (X : Nat) (k c b t d l p : Int) : World := ((((((w.setCell ⟨X, 0, none⟩ (.int .i64 k)).setCell ⟨X, 1, none⟩ (.int .i64 c)).setCell ⟨X, 2, none⟩ (.int .i64 b)).setCell ⟨X, 3, none⟩ (.int .i64 t)).setCell ⟨X, 4, none⟩ (.int .i64 d)).setCell ⟨X, 5, none⟩ (.int .i64 l)).setCell ⟨X, 6, none⟩ (.int .i64 p)
/-- Eleven values, stored one behind the other. -/
def put11 (w : World) (X : Nat) (k c b t d l p r q : Int) (V T : Value) : World := ((((setW w X k c b t d l p).setCell ⟨X, 7, none⟩ (.int .i64 r)).setCell ⟨X, 8, none⟩ (.int .i64 q)).setCell ⟨X, 9, none⟩ V).setCell ⟨X, 10, none⟩ T
/-- One cell turned. -/
def upd (f : Nat → Value) (j : Nat) (x : Value) : Nat → Value := fun t => if t = j then x else f t
theorem put11_facts {w : World} {X : Nat} {f : Nat → Value} (k c b t d l p r q : Int) (V T : Value) (h : Dat X f w) : Dat X (dv k c b t d l p r q V T) (put11 w X k c b t d l p r q V T) ∧ But X w (put11 w X k c b t d l p r q V T) := by
  have h1 := h.set 0 (.int .i64 k) (by decide) (g := upd f 0 (.int .i64 k)) (fun _ => rfl)
  have h2 := h1.set 1 (.int .i64 c) (by decide) (g := upd _ 1 (.int .i64 c)) (fun _ => rfl)
  have h3 := h2.set 2 (.int .i64 b) (by decide) (g := upd _ 2 (.int .i64 b)) (fun _ => rfl)
  have h4 := h3.set 3 (.int .i64 t) (by decide) (g := upd _ 3 (.int .i64 t)) (fun _ => rfl)
  have h5 := h4.set 4 (.int .i64 d) (by decide) (g := upd _ 4 (.int .i64 d)) (fun _ => rfl)
  have h6 := h5.set 5 (.int .i64 l) (by decide) (g := upd _ 5 (.int .i64 l)) (fun _ => rfl)
  have h7 := h6.set 6 (.int .i64 p) (by decide) (g := upd _ 6 (.int .i64 p)) (fun _ => rfl)
  have h8 := h7.set 7 (.int .i64 r) (by decide) (g := upd _ 7 (.int .i64 r)) (fun _ => rfl)
  have h9 := h8.set 8 (.int .i64 q) (by decide) (g := upd _ 8 (.int .i64 q)) (fun _ => rfl)
  have h10 := h9.set 9 V (by decide) (g := upd _ 9 V) (fun _ => rfl)
  have h11 := h10.set 10 T (by decide) (g := upd _ 10 T) (fun _ => rfl)
  refine ⟨⟨h11.lt, fun j hj => (h11.c j hj).trans ?_, h11.fr⟩, ?_⟩
  · match j with
    | 0 => rfl
    | 1 => rfl
    | 2 => rfl
    | 3 => rfl
    | 4 => rfl
    | 5 => rfl
    | 6 => rfl
    | 7 => rfl
    | 8 => rfl
    | 9 => rfl
    | 10 => rfl
    | n + 11 => omega
  · exact ((((((((((But.setCell X 0 w _).trans (But.setCell X 1 _ _)).trans (But.setCell X 2 _ _)).trans (But.setCell X 3 _ _)).trans (But.setCell X 4 _ _)).trans (But.setCell X 5 _ _)).trans (But.setCell X 6 _ _)).trans (But.setCell X 7 _ _)).trans (But.setCell X 8 _ _)).trans (But.setCell X 9 _ _)).trans (But.setCell X 10 _ _)

/-- A slice that leads to these elements. -/
def Sl {α : Type} (K : Kind α) (w : World) (v : Value) (l : List α) : Prop := ∃ a cap, v = .slice a l.length cap ∧ (a = none → cap = 0) ∧ l.length ≤ cap ∧ HoldsE K w a l
theorem Sl.below {α : Type} {K : Kind α} {w w' : World} {v : Value} {l : List α} (h : Sl K w v l) (b : Below w.heap.size w w') : Sl K w' v l := by
  obtain ⟨a, cap, h1, h2, h3, h4⟩ := h
  exact ⟨a, cap, h1, h2, h3, h4.below b⟩
theorem Own.sl {α : Type} {K : Kind α} {w : World} {B : Nat} {v : Value} {l : List α} (h : Own K w B v l) : Sl K w v l := by
  obtain ⟨a, cap, h1, h2, h3, _, h4⟩ := h.holds
  exact ⟨a, cap, h1, h2, h3, h4⟩

/-- As many values as rows and columns multiplied. -/
def fullB (r q : Int) (n : Nat) : Bool := decide (0 ≤ r ∧ 0 ≤ q ∧ r * q = (n : Int))

set_option maxHeartbeats 1000000 in
theorem full_any (k c b t d l p r q : Int) (aV : Option Addr) (nV cV : Nat) (T : Value) (hr : -9223372036854775808 ≤ r ∧ r ≤ 9223372036854775807) (hq : -9223372036854775808 ≤ q ∧ q ≤ 9223372036854775807) (hn : nV ≤ 1048576) (w : World) :
    Calls Try.prog 45 #[ds k c b t d l p r q (.slice aV nV cV) T] w fun e w' => e = .returned (.bool (fullB r q nV)) ∧ Below w.heap.size w w' := by
  have hb := fun o => (Below.refl w.heap.size w).alloc (Nat.le_refl _) o
  have hm := mul64 (IntKind.u64.wrap r) (IntKind.u64.wrap q) (by rw [IntKind.wrap_u64]; exact ⟨by omega, by omega⟩) (by rw [IntKind.wrap_u64]; exact ⟨by omega, by omega⟩)
  have wn : IntKind.u64.wrap (nV : Int) = nV := by rw [IntKind.wrap_u64]; omega
  unfold ds
  by_cases h1 : r < 0
  · have HE : Hid (fullB r q nV = false) := decide_eq_false (by omega)
    have g1 : decide (r ≥ 0) = false := by simpa using h1
    clear hr hq
    generalize hi _ _ = H at *
    generalize lo _ _ = L at *
    go_enter Try.func45, Try.ntmps45
    go_wp2_with (go_at_call 55; refine (hm _).mono ?_; rintro e w' ⟨rfl, rfl⟩)
    go_ret
    exact ⟨by rw [HE.out]; rfl, hb _⟩

  have g1 : decide (r ≥ 0) = true := by simpa using h1
  by_cases h2 : q < 0
  · have HE : Hid (fullB r q nV = false) := decide_eq_false (by omega)
    have g2 : decide (q ≥ 0) = false := by simpa using h2
    clear hr hq
    generalize hi _ _ = H at *
    generalize lo _ _ = L at *
    go_enter Try.func45, Try.ntmps45
    go_wp2_with (go_at_call 55; refine (hm _).mono ?_; rintro e w' ⟨rfl, rfl⟩)
    go_ret
    exact ⟨by rw [HE.out]; rfl, hb _⟩

  have g2 : decide (q ≥ 0) = true := by simpa using h2
  have wr : IntKind.u64.wrap r = r := by rw [IntKind.wrap_u64]; omega
  have wq : IntKind.u64.wrap q = q := by rw [IntKind.wrap_u64]; omega
  have HHL : Hid (hi (IntKind.u64.wrap r) (IntKind.u64.wrap q) * 18446744073709551616 + lo (IntKind.u64.wrap r) (IntKind.u64.wrap q) = r * q) := by
    show _ = _
    rw [wr, wq]; unfold hi lo; omega
  have HLO : Hid (0 ≤ lo (IntKind.u64.wrap r) (IntKind.u64.wrap q) ∧ lo (IntKind.u64.wrap r) (IntKind.u64.wrap q) < 18446744073709551616) := by
    show _ ∧ _
    unfold lo; omega
  generalize hi _ _ = H at *
  generalize lo _ _ = L at *
  by_cases h3 : H = 0
  · have g3 : (H == 0) = true := by simpa using h3
    by_cases h4 : L = nV
    · have HE : Hid (fullB r q nV = true) := decide_eq_true ⟨by omega, by omega, by have := HHL.out; omega⟩
      have g4 : (L == (nV : Int)) = true := by simpa using h4
      clear hr hq h3 h4 wr wq HHL HLO
      go_enter Try.func45, Try.ntmps45
      go_wp2_with (go_at_call 55; refine (hm _).mono ?_; rintro e w' ⟨rfl, rfl⟩)
      go_ret
      exact ⟨by rw [HE.out]; rfl, hb _⟩

    · have HE : Hid (fullB r q nV = false) := decide_eq_false (by have := HHL.out; omega)
      have g4 : (L == (nV : Int)) = false := by simpa using h4
      clear hr hq h3 h4 wr wq HHL HLO
      go_enter Try.func45, Try.ntmps45
      go_wp2_with (go_at_call 55; refine (hm _).mono ?_; rintro e w' ⟨rfl, rfl⟩)
      go_ret
      exact ⟨by rw [HE.out]; rfl, hb _⟩

  · have HE : Hid (fullB r q nV = false) := decide_eq_false (by have := HHL.out; have := HLO.out; omega)
    have g3 : (H == 0) = false := by simpa using h3
    clear hr hq h3 wr wq HHL HLO
    go_enter Try.func45, Try.ntmps45
    go_wp2_with (go_at_call 55; refine (hm _).mono ?_; rintro e w' ⟨rfl, rfl⟩)
    go_ret
    exact ⟨by rw [HE.out]; rfl, hb _⟩

theorem bitsOf_takeO (l : List Int) (j : Nat) (hj : j < l.length) : bitsOf (l.take (j + 1)) = bitsOf (l.take j) ++ [(l.getD j 0).toNat] := by
  have e : l.take (j + 1) = l.take j ++ [l.getD j 0] := by rw [List.take_add_one, List.getElem?_eq_getElem hj]; simp [List.getD_eq_getElem?_getD, hj]
  rw [e, bitsOf, List.map_append]
  rfl
set_option maxHeartbeats 1000000 in
theorem refOfO_any (a : Option Addr) (cap n : Nat) (l : List Int) (hn : l.length = n) (hb : n ≤ 1000) (w : World) (hr : HoldsE KU w a l) :
    Calls Try.prog 14 #[.slice a n cap] w fun e w' => (∃ v, e = .returned v ∧ Own KF w' w.heap.size v (bitsOf l)) ∧ Below w.heap.size w w' := by
  go_enter Try.func14, Try.ntmps14
  go_wp2_with fail
  go_loopw [3, 4] (fun v i wr => ∃ (j : Nat), j ≤ n ∧ i = .int .i64 (j : Int) ∧ Own KF wr w.heap.size v (bitsOf (l.take j)) ∧ Below w.heap.size w wr) (fun _ i _ => n - (intOf i).toNat)
  case atStart => exact ⟨0, by omega, rfl, Own.start w _ (Nat.le_refl _), (Below.refl _ w).alloc (Nat.le_refl _) _⟩
  case round =>
    obtain ⟨j, hj, rfl, hown, hB⟩ := hrel
    have hsz := hB.size
    by_cases hlt : j < n
    · obtain ⟨ga, off, rfl, hga, hrow⟩ : ∃ g off, a = some ⟨g, off, none⟩ ∧ g < w.heap.size ∧ ∀ j, j < l.length → w.cell? ⟨g, off + j, none⟩ = some (.int .u64 (l.getD j 0)) := by
        rcases hr with rfl | h'
        · simp at hn; omega
        · exact h'
      have hlen : (bitsOf (l.take j)).length = j := by simp [bitsOf_len]; omega
      have HT := Lib.hid (bitsOf_takeO l j (by omega))
      have cx : wr.cell? ⟨ga, off + j, none⟩ = some (.int .u64 (l.getD j 0)) := (hB.cell (by exact hga)).trans (hrow j (by omega))
      obtain ⟨x, HX⟩ : ∃ x, Hid (l.getD j 0 = x) := ⟨_, rfl⟩
      rw [HX.out] at cx HT
      have hfr : ∀ w : World, (callFunc 35 #[.int .u64 x]).run Try.prog w = .ok (.value (.float .f64 x.toNat)) w := fromb x
      clear hr hrow
      have hB1 : w.heap.size ≤ (wr.alloc (.cells #[.float .f64 x.toNat] 62)).heap.size := by simp; omega
      go_wp2_with (at_builtin; refine app_own okF rfl _ _ rfl w.heap.size hB1 _ _ rfl (hown.alloc _) _ 1 1 [x.toNat] rfl (CameE.new _) (by rw [hlen]; simp; omega) (fun v' w' ho hb => ?_))
      have HB2 := Lib.hid ((hB.alloc (by omega) (.cells #[.float .f64 x.toNat] 62)).trans hb)
      rw [← HT.out] at ho
      clear hown hB hb HT
      go_wp2_with fail
      go_roundw
      case rel => exact ⟨j + 1, by omega, by go_num, ho, HB2.out⟩
      case measure => simp [intOf]; omega
    · obtain rfl : j = n := by omega
      rw [List.take_of_length_le (by omega)] at hown
      clear hlt
      go_wp2_with fail
      go_ret
      exact ⟨⟨_, rfl, hown⟩, hB⟩

/-- An append of what a slice leads to, nil or not. -/
theorem app_wpN {α : Type} {K : Kind α} {w : World} (ok : K.Ok) {o : Oper} {a : Act} {KK : Act → World → Prop} {Q : Exit → Act → World → Prop} (s x : Operand)
    (ho : o.op = .call { callee := .builtin .append, args := #[s, x], argTypes := #[K.s, K.s] }) (B : Nat) (hB : B ≤ w.heap.size) (g n cap : Nat) (l : List α) (hs : a.eval s = .slice (some ⟨g, 0, none⟩) n cap) (hown : Own K w B (.slice (some ⟨g, 0, none⟩) n cap) l)
    (A : Option Addr) (m c : Nat) (k : List α) (hx : a.eval x = .slice A m c) (hl : k.length = m) (hA : A = none → c = 0) (hk : HoldsE K w A k) (hm : l.length + k.length ≤ 1048576)
    (h : ∀ v' w', Own K w' B v' (l ++ k) → Below B w w' → But g w w' → KK (a.put o.dst v') w') : Oper.wp Try.prog o a w KK Q := by
  cases A with
  | some ad => exact app_wp0 ok s x ho B hB _ l hs hown (some ad) m c k hx ⟨⟨ad, rfl⟩, hl, hk⟩ hm (fun v' w' h1 h2 => h v' w' h1 ((Below.refl B w).grown h2 hB (fun g hg => (World.ownsRow.lt hown g hg).1)) (But.grown h2))
  | none =>
    obtain rfl := hA rfl
    obtain rfl : k = [] := by
      rcases hk with h | ⟨_, _, h, _⟩
      · exact h
      · cases h
    obtain rfl : m = 0 := hl.symm
    obtain ⟨i0, hi, hz0, hz1, hz2⟩ := info_parts ok.info
    have hrun := run_append_owned_none (P := Try.prog) (w := w) B K.s o.type K.e i0 1 ok.under hi _ _ _ hown
    unfold Oper.wp execOp
    simp only [ho, resolve, invoke, builtin, Sem.run_bind, Sem.run_pure, Result.andThen_ok, List.map_toArray, List.map_cons, List.map_nil, hs, hx, hrun]
    exact h _ w (by rw [List.append_nil]; exact hown) (Below.refl B w) (But.refl g w)

set_option maxRecDepth 20000 in
set_option maxHeartbeats 8000000 in
theorem pfull_any (k c b t d l p r q : Int) (aV aT : Option Addr) (nV cV nT cT : Nat) (V T : List Int) (hVl : V.length = nV) (hTl : T.length = nT) (hn : nV ≤ 1000) (hn2 : nT ≤ 1000) (hTc : aT = none → cT = 0) (w : World) (hV0 : HoldsE KU w aV V) (hT0 : HoldsE K64 w aT T) :
    Calls Try.prog 10 #[ds k c b t d l p r q (.slice aV nV cV) (.slice aT nT cT)] w fun e w' => (∃ v x, e = .returned (ds k c b t d l p r q v x) ∧ Own KF w' w.heap.size v (bitsOf V) ∧ Own K64 w' w.heap.size x T) ∧ Below w.heap.size w w' := by
  have hof := fun W h => refOfO_any aV cV nV V hVl hn W h
  have D0 := lay_dat w 27 k c b t d l p r q (.slice aV nV cV) (.slice aT nT cT)
  have b0 := lay_below w 27 k c b t d l p r q (.slice aV nV cV) (.slice aT nT cT)
  have z0 := lay_size w 27 k c b t d l p r q (.slice aV nV cV) (.slice aT nT cT)
  unfold ds
  go_enter Try.func10, Try.ntmps10
  go_wp2_with fail
  change Code.wp _ _ _ _ (lay (lay w 27 k c b t d l p r q (.slice aV nV cV) (.slice aT nT cT)) 33 0 0 0 0 0 0 0 0 0 (.slice none 0 0) (.slice none 0 0))
  have h0V := hV0.below b0
  have h0T := hT0.below b0
  generalize lay w 27 k c b t d l p r q (.slice aV nV cV) (.slice aT nT cT) = w00 at *
  have E0 := lay_dat w00 33 0 0 0 0 0 0 0 0 0 (.slice none 0 0) (.slice none 0 0)
  have b1 := lay_below w00 33 0 0 0 0 0 0 0 0 0 (.slice none 0 0) (.slice none 0 0)
  have h1V := h0V.below b1
  have h1T := h0T.below b1
  have D1 := D0.below b1 D0.lt
  have bb1 := b0.trans (b1.mono b0.size)
  rw [z0] at E0
  generalize lay w00 33 0 0 0 0 0 0 0 0 0 (.slice none 0 0) (.slice none 0 0) = w0 at *
  obtain ⟨N, hN⟩ : ∃ N, w.heap.size = N := ⟨_, rfl⟩
  have hwN : w.heap.size ≤ N := Nat.le_of_eq hN
  have hNX : N < N + 1 := Nat.lt_succ_self N
  rw [hN] at D1 E0 ⊢
  clear hN D0 b0 b1 z0 h0V h0T hV0 hT0
  have D := D1.drew
  have X := E0.drew
  have bb := bb1.drew
  have hV : HoldsE KU w0.drew aV V := h1V
  have hT : HoldsE K64 w0.drew aT T := h1T
  clear D1 E0 bb1 h1V h1T
  refine wp_region_held_drew (S := (fun W => W.cell? ⟨N, 0, none⟩ = some (.int .i64 k) ∧ W.cell? ⟨N, 1, none⟩ = some (.int .i64 c) ∧ W.cell? ⟨N, 2, none⟩ = some (.int .i64 b) ∧ W.cell? ⟨N, 3, none⟩ = some (.int .i64 t) ∧ W.cell? ⟨N, 4, none⟩ = some (.int .i64 d) ∧ W.cell? ⟨N, 5, none⟩ = some (.int .i64 l) ∧ W.cell? ⟨N, 6, none⟩ = some (.int .i64 p) ∧ W.cell? ⟨N, 7, none⟩ = some (.int .i64 r) ∧ W.cell? ⟨N, 8, none⟩ = some (.int .i64 q) ∧ W.cell? ⟨N, 9, none⟩ = some (.slice aV nV cV) ∧ W.cell? ⟨N, 10, none⟩ = some (.slice aT nT cT))) (by kernel_rfl) (by first | exact DZ.cells | exact D.cells) (fun hHeld => ?_)
  refine takeQ (i := 0) (v := ?_) rfl (by kernel_rfl) (by kernel_rfl) (by kernel_rfl) (fun _ _ _ h => h) (by rfl) hHeld ?_ ?_
  rotate_left
  · (intro w' hSw; (try dsimp only at hSw); go_simp <;> (with_reducible rfl))
  try simp only [Act.put, List.setIfInBounds_toArray, List.set_cons_zero, List.set_cons_succ]
  refine takeQ (i := 1) (v := ?_) rfl (by kernel_rfl) (by kernel_rfl) (by kernel_rfl) (fun _ _ _ h => h) (by rfl) hHeld ?_ ?_
  rotate_left
  · (intro w' hSw; (try dsimp only at hSw); go_simp <;> (with_reducible rfl))
  try simp only [Act.put, List.setIfInBounds_toArray, List.set_cons_zero, List.set_cons_succ]
  refine takeQ (i := 2) (v := ?_) rfl (by kernel_rfl) (by kernel_rfl) (by kernel_rfl) (fun _ _ _ h => h) (by rfl) hHeld ?_ ?_
  rotate_left
  · (intro w' hSw; (try dsimp only at hSw); go_simp <;> (with_reducible rfl))
  try simp only [Act.put, List.setIfInBounds_toArray, List.set_cons_zero, List.set_cons_succ]
  refine takeQ (i := 3) (v := ?_) rfl (by kernel_rfl) (by kernel_rfl) (by kernel_rfl) (fun _ _ _ h => h) (by rfl) hHeld ?_ ?_
  rotate_left
  · (intro w' hSw; (try dsimp only at hSw); go_simp <;> (with_reducible rfl))
  try simp only [Act.put, List.setIfInBounds_toArray, List.set_cons_zero, List.set_cons_succ]
  refine takeQ (i := 4) (v := ?_) rfl (by kernel_rfl) (by kernel_rfl) (by kernel_rfl) (fun _ _ _ h => h) (by rfl) hHeld ?_ ?_
  rotate_left
  · (intro w' hSw; (try dsimp only at hSw); go_simp <;> (with_reducible rfl))
  try simp only [Act.put, List.setIfInBounds_toArray, List.set_cons_zero, List.set_cons_succ]
  refine takeQ (i := 5) (v := ?_) rfl (by kernel_rfl) (by kernel_rfl) (by kernel_rfl) (fun _ _ _ h => h) (by rfl) hHeld ?_ ?_
  rotate_left
  · (intro w' hSw; (try dsimp only at hSw); go_simp <;> (with_reducible rfl))
  try simp only [Act.put, List.setIfInBounds_toArray, List.set_cons_zero, List.set_cons_succ]
  refine takeQ (i := 6) (v := ?_) rfl (by kernel_rfl) (by kernel_rfl) (by kernel_rfl) (fun _ _ _ h => h) (by rfl) hHeld ?_ ?_
  rotate_left
  · (intro w' hSw; (try dsimp only at hSw); go_simp <;> (with_reducible rfl))
  try simp only [Act.put, List.setIfInBounds_toArray, List.set_cons_zero, List.set_cons_succ]
  refine takeQ (i := 7) (v := ?_) rfl (by kernel_rfl) (by kernel_rfl) (by kernel_rfl) (fun _ _ _ h => h) (by rfl) hHeld ?_ ?_
  rotate_left
  · (intro w' hSw; (try dsimp only at hSw); go_simp <;> (with_reducible rfl))
  try simp only [Act.put, List.setIfInBounds_toArray, List.set_cons_zero, List.set_cons_succ]
  refine takeQ (i := 10) (v := ?_) rfl (by kernel_rfl) (by kernel_rfl) (by kernel_rfl) (fun _ _ _ h => h) (by rfl) hHeld ?_ ?_
  rotate_left
  · (intro w' hSw; (try dsimp only at hSw); go_simp <;> (with_reducible rfl))
  try simp only [Act.put, List.setIfInBounds_toArray, List.set_cons_zero, List.set_cons_succ]
  refine takeQ (i := 11) (v := ?_) rfl (by kernel_rfl) (by kernel_rfl) (by kernel_rfl) (fun _ _ _ h => h) (by rfl) hHeld ?_ ?_
  rotate_left
  · (intro w' hSw; (try dsimp only at hSw); go_simp <;> (with_reducible rfl))
  try simp only [Act.put, List.setIfInBounds_toArray, List.set_cons_zero, List.set_cons_succ]
  refine bothL (i := 8) (j := 9) (by kernel_rfl) rfl rfl (by rfl) (by rfl) (fun K hK => ?_) (fun K hK => ?_)
  · go_simp
    refine (hof _ hV).mono ?_
    rintro _ w2 ⟨⟨v, rfl, ov⟩, b2⟩
    have hVb := bb.size
    have hXv := X.lt
    replace hT := hT.below b2
    replace X := X.below b2 X.lt
    replace D := D.below b2 D.lt
    replace bb := bb.trans (b2.mono bb.size)
    try dsimp only
    refine hK.out _ _ (by first | exact DZ.cells | exact D.cells) (fun hHeld => ?_)
    clear hK K
    try simp only [Act.put, List.setIfInBounds_toArray, List.set_cons_zero, List.set_cons_succ]
    refine callL (i := 9) (by kernel_rfl) rfl (by rfl) (fun K hK => ?_)
    go_simp
    have b4 := (Below.refl w2.heap.size w2).alloc (Nat.le_refl _) (.cells #[] 2)
    have o4 := Own.start (K := K64) w2 w2.heap.size (Nat.le_refl _)
    have hTb := bb.size
    have hXt := X.lt
    replace hT := hT.below b4
    replace X := X.below b4 X.lt
    replace D := D.below b4 D.lt
    replace bb := bb.trans (b4.mono bb.size)
    try dsimp only
    refine hK.out _ _ (by first | exact DZ.cells | exact D.cells) (fun hHeld => ?_)
    clear hK K
    try simp only [Act.put, List.setIfInBounds_toArray, List.set_cons_zero, List.set_cons_succ]
    refine callL (i := 12) (by kernel_rfl) rfl (by rfl) (fun K hK => ?_)
    refine app_wpN (w := w2.alloc (.cells #[] 2)) ok64 _ _ rfl w2.heap.size b4.size _ _ _ _ rfl o4 aT nT cT T rfl hTl hTc hT (by simp; omega) ?_
    intro t2 w3 ot b3 u3
    rw [List.nil_append] at ot
    replace X := X.below b3 hXt
    replace D := D.below b3 (Nat.lt_trans hNX hXt)
    replace bb := bb.trans (b3.mono hTb)
    replace ov := ov.below (b4.trans b3)
    obtain ⟨av, nv, cv, rfl⟩ : ∃ a n c, v = .slice a n c := (by obtain ⟨a, c, h, _⟩ := ov.holds; exact ⟨a, _, c, h⟩)
    obtain ⟨at2, nt2, ct2, rfl⟩ : ∃ a n c, t2 = .slice a n c := (by obtain ⟨a, c, h, _⟩ := ot.holds; exact ⟨a, _, c, h⟩)
    try dsimp only
    refine hK.out _ _ (by first | exact DZ.cells | exact D.cells) (fun hHeld => ?_)
    clear hK K
    try simp only [Act.put, List.setIfInBounds_toArray, List.set_cons_zero, List.set_cons_succ]
    refine callL (i := 13) (by kernel_rfl) rfl (by rfl) (fun K hK => ?_)
    go_simp
    try dsimp only
    refine hK.out _ _ (by first | exact DZ.cells | exact D.cells) (fun hHeld => ?_)
    clear hK K
    try simp only [Act.put, List.setIfInBounds_toArray, List.set_cons_zero, List.set_cons_succ]
    refine callL (i := 14) (by kernel_rfl) rfl (by rfl) (fun K hK => ?_)
    obtain ⟨x0, x1, x2, x3, x4, x5, x6, x7, x8, x9, x10⟩ := X.cells
    obtain ⟨y0, y1, y2, y3, y4, y5, y6, y7, y8, y9, y10⟩ := X.frs
    obtain ⟨fv, fb⟩ := put11_facts k c b t d l p r q (.slice av nv cv) (.slice at2 nt2 ct2) X
    have DZ := D.but fb (Nat.ne_of_lt hNX)
    have ov9 := ov.but fb hXv
    have ot9 := ot.but fb hXt
    have bz := bb.trans (fb.below (Nat.le_trans hwN (Nat.le_of_lt hNX)) bb.size)
    go_simp
    try dsimp only
    refine hK.out _ _ (by first | exact DZ.cells | exact D.cells) (fun hHeld => ?_)
    clear hK K
    try simp only [Act.put, List.setIfInBounds_toArray, List.set_cons_zero, List.set_cons_succ]
    refine wpAnyH_done (by kernel_rfl) ?_ _
    have HB := Lib.hid bz
    have HV := Lib.hid (ov9.base hVb)
    have HTT := Lib.hid (ot9.base hTb)
    clear x0 x1 x2 x3 x4 x5 x6 x7 x8 x9 x10 y0 y1 y2 y3 y4 y5 y6 y7 y8 y9 y10 D X bb ov ot fb DZ ov9 ot9 bz hHeld
    change Exit.then _ _ _ _ (put11 w3 (N + 1) k c b t d l p r q (.slice av nv cv) (.slice at2 nt2 ct2))
    generalize put11 w3 (N + 1) k c b t d l p r q (.slice av nv cv) (.slice at2 nt2 ct2) = w9 at *
    obtain ⟨c0, c1, c2, c3, c4, c5, c6, c7, c8, c9, c10⟩ := fv.cells
    go_wp2_with fail
    refine bodyPost_ret (v := ds k c b t d l p r q (.slice av nv cv) (.slice at2 nt2 ct2)) (by simp [ds, results, Try.results10, go_sem, c0, c1, c2, c3, c4, c5, c6, c7, c8, c9, c10]) rfl ?_
    exact ⟨⟨_, _, rfl, HV.out, HTT.out⟩, HB.out⟩
  · go_simp
    have b4 := (Below.refl w0.drew.heap.size w0.drew).alloc (Nat.le_refl _) (.cells #[] 2)
    have o4 := Own.start (K := K64) w0.drew w0.drew.heap.size (Nat.le_refl _)
    have hTb := bb.size
    have hXt := X.lt
    replace hT := hT.below b4
    replace X := X.below b4 X.lt
    replace D := D.below b4 D.lt
    replace bb := bb.trans (b4.mono bb.size)
    have hV' := hV.below b4
    clear hV
    have hV := hV'
    have b4lt : w0.drew.heap.size < (w0.drew.alloc (.cells #[] 2)).heap.size := (by simp)
    try dsimp only
    refine hK.out _ _ (by first | exact DZ.cells | exact D.cells) (fun hHeld => ?_)
    clear hK K
    try simp only [Act.put, List.setIfInBounds_toArray, List.set_cons_zero, List.set_cons_succ]
    refine callL (i := 8) (by kernel_rfl) rfl (by rfl) (fun K hK => ?_)
    go_simp
    refine (hof _ hV).mono ?_
    rintro _ w2 ⟨⟨v, rfl, ov⟩, b2⟩
    have hVb := bb.size
    have hXv := X.lt
    replace hT := hT.below b2
    replace X := X.below b2 X.lt
    replace D := D.below b2 D.lt
    replace bb := bb.trans (b2.mono bb.size)
    replace o4 := o4.below b2
    try dsimp only
    refine hK.out _ _ (by first | exact DZ.cells | exact D.cells) (fun hHeld => ?_)
    clear hK K
    try simp only [Act.put, List.setIfInBounds_toArray, List.set_cons_zero, List.set_cons_succ]
    refine callL (i := 12) (by kernel_rfl) rfl (by rfl) (fun K hK => ?_)
    refine app_wpN (w := w2) ok64 _ _ rfl w0.drew.heap.size (Nat.le_trans b4.size b2.size) _ _ _ _ rfl o4 aT nT cT T rfl hTl hTc hT (by simp; omega) ?_
    intro t2 w3 ot b3 u3
    rw [List.nil_append] at ot
    replace X := X.below b3 hXt
    replace D := D.below b3 (Nat.lt_trans hNX hXt)
    replace bb := bb.trans (b3.mono hTb)
    replace ov := ov.but u3 b4lt
    obtain ⟨av, nv, cv, rfl⟩ : ∃ a n c, v = .slice a n c := (by obtain ⟨a, c, h, _⟩ := ov.holds; exact ⟨a, _, c, h⟩)
    obtain ⟨at2, nt2, ct2, rfl⟩ : ∃ a n c, t2 = .slice a n c := (by obtain ⟨a, c, h, _⟩ := ot.holds; exact ⟨a, _, c, h⟩)
    try dsimp only
    refine hK.out _ _ (by first | exact DZ.cells | exact D.cells) (fun hHeld => ?_)
    clear hK K
    try simp only [Act.put, List.setIfInBounds_toArray, List.set_cons_zero, List.set_cons_succ]
    refine callL (i := 13) (by kernel_rfl) rfl (by rfl) (fun K hK => ?_)
    go_simp
    try dsimp only
    refine hK.out _ _ (by first | exact DZ.cells | exact D.cells) (fun hHeld => ?_)
    clear hK K
    try simp only [Act.put, List.setIfInBounds_toArray, List.set_cons_zero, List.set_cons_succ]
    refine callL (i := 14) (by kernel_rfl) rfl (by rfl) (fun K hK => ?_)
    obtain ⟨x0, x1, x2, x3, x4, x5, x6, x7, x8, x9, x10⟩ := X.cells
    obtain ⟨y0, y1, y2, y3, y4, y5, y6, y7, y8, y9, y10⟩ := X.frs
    obtain ⟨fv, fb⟩ := put11_facts k c b t d l p r q (.slice av nv cv) (.slice at2 nt2 ct2) X
    have DZ := D.but fb (Nat.ne_of_lt hNX)
    have ov9 := ov.but fb hXv
    have ot9 := ot.but fb hXt
    have bz := bb.trans (fb.below (Nat.le_trans hwN (Nat.le_of_lt hNX)) bb.size)
    go_simp
    try dsimp only
    refine hK.out _ _ (by first | exact DZ.cells | exact D.cells) (fun hHeld => ?_)
    clear hK K
    try simp only [Act.put, List.setIfInBounds_toArray, List.set_cons_zero, List.set_cons_succ]
    refine wpAnyH_done (by kernel_rfl) ?_ _
    have HB := Lib.hid bz
    have HV := Lib.hid (ov9.base hVb)
    have HTT := Lib.hid (ot9.base hTb)
    clear x0 x1 x2 x3 x4 x5 x6 x7 x8 x9 x10 y0 y1 y2 y3 y4 y5 y6 y7 y8 y9 y10 D X bb ov ot fb DZ ov9 ot9 bz hHeld
    change Exit.then _ _ _ _ (put11 w3 (N + 1) k c b t d l p r q (.slice av nv cv) (.slice at2 nt2 ct2))
    generalize put11 w3 (N + 1) k c b t d l p r q (.slice av nv cv) (.slice at2 nt2 ct2) = w9 at *
    obtain ⟨c0, c1, c2, c3, c4, c5, c6, c7, c8, c9, c10⟩ := fv.cells
    go_wp2_with fail
    refine bodyPost_ret (v := ds k c b t d l p r q (.slice av nv cv) (.slice at2 nt2 ct2)) (by simp [ds, results, Try.results10, go_sem, c0, c1, c2, c3, c4, c5, c6, c7, c8, c9, c10]) rfl ?_
    exact ⟨⟨_, _, rfl, HV.out, HTT.out⟩, HB.out⟩
end Go.Proofs.Ytjaogmbeoldefaa
