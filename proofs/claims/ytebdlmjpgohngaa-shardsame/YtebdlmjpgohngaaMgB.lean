/-
  Several texts in one: each says what it shows at its head.
-/
import Derived.Test.YtebdlmjpgohngaaHisN
import Derived.Test.YtebdlmjpgohngaaHisU
import Derived.Test.YtebdlmjpgohngaaMgA
/- HISTOGRAMS: what is merged does not hang on the order; what parts come to. No program. -/
namespace Go.Proofs.Ytebdlmjpgohngaa
open Go.RowKit

theorem plV_comm (x y : Int) : plV x y = plV y x := by unfold plV; rw [Int.add_comm]
theorem plE_comm (x y : Int) : plE x y = plE y x := by unfold plE; rw [Int.add_comm]
theorem likeD_comm (a b : HD) : likeD a b = likeD b a := by
  have key : ∀ a b : HD, likeD a b = true → likeD b a = true := by
    intro a b h
    obtain ⟨h1, h2, h3, h4, h5⟩ := likeD_true h
    simp [likeD, h1, h2, h3, h4, h5]
  cases h : likeD a b
  · cases h' : likeD b a
    · rfl
    · rw [key _ _ h'] at h; cases h
  · exact (key _ _ h).symm
theorem like_len {a b : HD} (h : likeD a b = true) : a.lc.length = b.lc.length ∧ a.lm.length = b.lm.length := by
  obtain ⟨h1, h2, h3, h4, h5⟩ := likeD_true h
  obtain ⟨_, q1, q2⟩ := rightD_true h1
  obtain ⟨_, q3, q4⟩ := rightD_true h2
  rw [h3, h4, h5] at q1 q2
  omega
theorem mmV_plus (X Y : Nat → Int) (i : Nat) : mmV plV plV plV X Y i = plV (X i) (Y i) := by unfold mmV; split; rfl; split <;> rfl
theorem ec_comm {a b : HD} (h : a.lc.length = b.lc.length) : plusW.ec a b = plusW.ec b a := by
  unfold Ways.ec
  rw [h]
  exact firstE_congr fun i _ => plE_comm _ _
theorem em_comm {a b : HD} (h : a.lm.length = b.lm.length) : plusW.em a b = plusW.em b a := by
  unfold Ways.em
  rw [h]
  refine firstE_congr fun i _ => ?_
  show or3 (plE _ _) (plE _ _) (plE _ _) = or3 (plE _ _) (plE _ _) (plE _ _)
  rw [plE_comm, plE_comm (a.lm.getD (i * 3 + 1) 0), plE_comm (a.lm.getD (i * 3 + 2) 0)]
theorem lc_comm {a b : HD} (h : a.lc.length = b.lc.length) : plusW.lc a b = plusW.lc b a := by
  unfold Ways.lc
  rw [h]
  exact mapN_congr fun i _ => plV_comm _ _
theorem lm_comm {a b : HD} (h : a.lm.length = b.lm.length) : plusW.lm a b = plusW.lm b a := by
  unfold Ways.lm
  rw [h]
  refine mapN_congr fun i _ => ?_
  show mmV plV plV plV _ _ i = mmV plV plV plV _ _ i
  rw [mmV_plus, mmV_plus, plV_comm]
theorem bothE_comm (a b : HD) : bothE plusW a b = bothE plusW b a := by
  unfold bothE
  rw [likeD_comm b a]
  cases h : likeD a b
  · rfl
  · obtain ⟨l1, l2⟩ := like_len h
    rw [ec_comm l1, em_comm l2]
theorem bothE_like {W : Ways} {a b : HD} (h : bothE W a b = 0) : likeD a b = true ∧ W.ec a b = 0 ∧ W.em a b = 0 := by
  unfold bothE at h
  cases hl : likeD a b
  · rw [hl] at h; simp at h
  · rw [hl] at h
    simp only [Bool.true_eq_false, if_false] at h
    by_cases h1 : W.ec a b = 0
    · rw [if_pos h1] at h
      exact ⟨rfl, h1, h⟩
    · rw [if_neg h1] at h
      exact absurd h h1
theorem bothD_comm (a b : HD) : bothD plusW a b = bothD plusW b a := by
  unfold bothD
  rw [bothE_comm b a]
  by_cases h : bothE plusW a b = 0
  · rw [if_pos h, if_pos h]
    obtain ⟨hl, _, _⟩ := bothE_like h
    obtain ⟨l1, l2⟩ := like_len hl
    obtain ⟨_, _, h3, h4, h5⟩ := likeD_true hl
    rw [lc_comm l1, lm_comm l2, h3, h4, h5]
  · rw [if_neg h, if_neg h]
theorem both_len (W : Ways) (a b : HD) : (bothD W a b).lc.length ≤ a.lc.length ∧ (bothD W a b).lm.length ≤ a.lm.length := by
  unfold bothD
  split
  · exact ⟨by show (W.lc a b).length ≤ _; unfold Ways.lc; rw [mapN_len]; exact Nat.le_refl _, by show (W.lm a b).length ≤ _; unfold Ways.lm; rw [mapN_len]; exact Nat.le_refl _⟩
  · exact ⟨Nat.zero_le _, Nat.zero_le _⟩

/-- What two come to, number by number. -/
theorem plE_sum {x y : Int} (h : plE x y = 0) : plV x y = x + y := fitV_yes (fitE_in h)
theorem both_c {a b : HD} (h : bothE plusW a b = 0) : (bothD plusW a b).lc.length = a.lc.length ∧ a.lc.length = b.lc.length ∧ ∀ i, i < a.lc.length → (bothD plusW a b).lc.getD i 0 = a.lc.getD i 0 + b.lc.getD i 0 := by
  obtain ⟨hl, h1, h2⟩ := bothE_like h
  obtain ⟨l1, l2⟩ := like_len hl
  have e : bothD plusW a b = ⟨a.k, a.b, a.c, plusW.lc a b, plusW.lm a b⟩ := if_pos h
  rw [e]
  refine ⟨mapN_len _ _, l1, fun i hi => ?_⟩
  show (mapN _ _).getD i 0 = _
  rw [mapN_get _ hi]
  exact plE_sum (firstE_zero.1 h1 i hi)
theorem both_m {a b : HD} (h : bothE plusW a b = 0) : (bothD plusW a b).lm.length = a.lm.length ∧ a.lm.length = b.lm.length ∧ ∀ i, i < a.lm.length → (bothD plusW a b).lm.getD i 0 = a.lm.getD i 0 + b.lm.getD i 0 := by
  obtain ⟨hl, h1, h2⟩ := bothE_like h
  obtain ⟨l1, l2⟩ := like_len hl
  have e : bothD plusW a b = ⟨a.k, a.b, a.c, plusW.lc a b, plusW.lm a b⟩ := if_pos h
  have h3 : a.lm.length % 3 = 0 := by
    obtain ⟨q1, _⟩ := likeD_true hl
    have := (rightD_true q1).2.2
    omega
  rw [e]
  refine ⟨mapN_len _ _, l2, fun i hi => ?_⟩
  show (mapN _ _).getD i 0 = _
  rw [mapN_get _ hi]
  show mmV plV plV plV _ _ i = _
  rw [mmV_plus]
  have := firstE_zero.1 h2 (i / 3) (by omega)
  obtain ⟨e0, e1, e2⟩ := or3_zero.1 this
  have : i = i / 3 * 3 ∨ i = i / 3 * 3 + 1 ∨ i = i / 3 * 3 + 2 := by omega
  rcases this with q | q | q
  · rw [← q] at e0; exact plE_sum e0
  · rw [← q] at e1; exact plE_sum e1
  · rw [← q] at e2; exact plE_sum e2
theorem both_head {a b : HD} (h : bothE plusW a b = 0) : (bothD plusW a b).k = a.k ∧ (bothD plusW a b).b = a.b ∧ (bothD plusW a b).c = a.c := by
  have e : bothD plusW a b = ⟨a.k, a.b, a.c, plusW.lc a b, plusW.lm a b⟩ := if_pos h
  rw [e]
  exact ⟨rfl, rfl, rfl⟩
theorem HD.ext' {a b : HD} (h1 : a.k = b.k) (h2 : a.b = b.b) (h3 : a.c = b.c) (h4 : a.lc = b.lc) (h5 : a.lm = b.lm) : a = b := by
  cases a; cases b; simp_all
theorem both_turns {a b c : HD} (h1 : bothE plusW a b = 0) (h2 : bothE plusW (bothD plusW a b) c = 0) (h3 : bothE plusW b c = 0) (h4 : bothE plusW a (bothD plusW b c) = 0) :
    bothD plusW (bothD plusW a b) c = bothD plusW a (bothD plusW b c) := by
  obtain ⟨a1, a2, a3⟩ := both_c h1
  obtain ⟨b1, b2, b3⟩ := both_c h2
  obtain ⟨c1, c2, c3⟩ := both_c h3
  obtain ⟨d1, d2, d3⟩ := both_c h4
  obtain ⟨A1, A2, A3⟩ := both_m h1
  obtain ⟨B1, B2, B3⟩ := both_m h2
  obtain ⟨C1, C2, C3⟩ := both_m h3
  obtain ⟨D1, D2, D3⟩ := both_m h4
  obtain ⟨p1, p2, p3⟩ := both_head h1
  obtain ⟨q1, q2, q3⟩ := both_head h2
  obtain ⟨r1, r2, r3⟩ := both_head h4
  refine HD.ext' (by rw [q1, p1, r1]) (by rw [q2, p2, r2]) (by rw [q3, p3, r3]) (ext_getD (by omega) fun i hi => ?_) (ext_getD (by omega) fun i hi => ?_)
  · rw [b3 i (by omega), a3 i (by omega), d3 i (by omega), c3 i (by omega), Int.add_assoc]
  · rw [B3 i (by omega), A3 i (by omega), D3 i (by omega), C3 i (by omega), Int.add_assoc]
end Go.Proofs.Ytebdlmjpgohngaa

/- HISTOGRAMS: the document's Merge and Less. Conditions: each number is of 64 bits with a sign; no more than 2^20 of them. -/
namespace Go.Proofs.Ytebdlmjpgohngaa
open Go.RowKit

/-- Two are read, one of the call's own is written. -/
structure St (a b : HD) (ac : Option Addr) (cc : Nat) (am : Option Addr) (cm : Nat) (bc : Option Addr) (bcc : Nat) (bm : Option Addr) (bcm : Nat) (nc nm : Nat) (vA vB vR vO g m co mo : Nat) (C M : List Int) (w0 w : World) : Prop where
  A : VarH vA a.k a.b a.c (.slice ac nc cc) (.slice am nm cm) w
  B : VarH vB b.k b.b b.c (.slice bc nc bcc) (.slice bm nm bcm) w
  R : VarH vR 0 0 0 (.slice none 0 0) (.slice none 0 0) w
  O : VarH vO a.k a.b a.c (.slice (some ⟨g, 0, none⟩) nc co) (.slice (some ⟨m, 0, none⟩) nm mo) w
  G : Lst KL g 0 C w
  M : Lst KL m 0 M w
  W : Below w0.heap.size w0 w
section
variable {a b : HD} {ac : Option Addr} {cc : Nat} {am : Option Addr} {cm : Nat} {bc : Option Addr} {bcc : Nat} {bm : Option Addr} {bcm : Nat} {nc nm : Nat} {vA vB vR vO g m co mo : Nat} {C M : List Int} {w0 w w' : World}
theorem St.below (h : St a b ac cc am cm bc bcc bm bcm nc nm vA vB vR vO g m co mo C M w0 w) (k : Below w.heap.size w w') : St a b ac cc am cm bc bcc bm bcm nc nm vA vB vR vO g m co mo C M w0 w' :=
  ⟨h.A.below k h.A.lt, h.B.below k h.B.lt, h.R.below k h.R.lt, h.O.below k h.O.lt, h.G.below k h.G.lt, h.M.below k h.M.lt, h.W.trans (k.mono h.W.size)⟩
theorem St.drew (h : St a b ac cc am cm bc bcc bm bcm nc nm vA vB vR vO g m co mo C M w0 w) : St a b ac cc am cm bc bcc bm bcm nc nm vA vB vR vO g m co mo C M w0 w.drew :=
  ⟨h.A.drew, h.B.drew, h.R.drew, h.O.drew, h.G.drew, h.M.drew, h.W.drew⟩
theorem St.drewN (h : St a b ac cc am cm bc bcc bm bcm nc nm vA vB vR vO g m co mo C M w0 w) (n : Nat) : St a b ac cc am cm bc bcc bm bcm nc nm vA vB vR vO g m co mo C M w0 (w.drewN n) :=
  ⟨h.A.drewN n, h.B.drewN n, h.R.drewN n, h.O.drewN n, h.G.drewN n, h.M.drewN n, drawB h.W n⟩
/-- The blocks are apart. -/
structure Far (vA vB vR vO g m : Nat) (w0 : World) : Prop where
  g0 : w0.heap.size ≤ g
  m0 : w0.heap.size ≤ m
  r0 : w0.heap.size ≤ vR
  ag : vA ≠ g
  bg : vB ≠ g
  rg : vR ≠ g
  og : vO ≠ g
  am : vA ≠ m
  bm : vB ≠ m
  rm : vR ≠ m
  om : vO ≠ m
  gm : g ≠ m
theorem St.setG (h : St a b ac cc am cm bc bcc bm bcm nc nm vA vB vR vO g m co mo C M w0 w) (f : Far vA vB vR vO g m w0) (j : Nat) (x : Int) (hj : j < C.length) : St a b ac cc am cm bc bcc bm bcm nc nm vA vB vR vO g m co mo (C.set j x) M w0 (w.setCell ⟨g, j, none⟩ (.int .i64 x)) := by
  have hb := But.setCell g j w (.int .i64 x)
  have hs := h.G.set j x hj
  rw [Nat.zero_add] at hs
  exact ⟨h.A.but hb f.ag, h.B.but hb f.bg, h.R.but hb f.rg, h.O.but hb f.og, hs, h.M.but hb (Ne.symm f.gm), h.W.trans (hb.below f.g0 h.W.size)⟩
theorem St.setM (h : St a b ac cc am cm bc bcc bm bcm nc nm vA vB vR vO g m co mo C M w0 w) (f : Far vA vB vR vO g m w0) (j : Nat) (x y z : Int) (hj : j * 3 + 2 < M.length) : St a b ac cc am cm bc bcc bm bcm nc nm vA vB vR vO g m co mo C (((M.set (j * 3) x).set (j * 3 + 1) y).set (j * 3 + 2) z) w0 (set3 w m (j * 3) (.int .i64 x) (.int .i64 y) (.int .i64 z)) := by
  have hb := set3_but (b := m) (o := j * 3) (x := .int .i64 x) (y := .int .i64 y) (z := .int .i64 z) w
  have hs := h.M.set3 j hj x y z
  rw [Nat.zero_add] at hs
  exact ⟨h.A.but hb f.am, h.B.but hb f.bm, h.R.but hb f.rm, h.O.but hb f.om, h.G.but hb f.gm, hs, h.W.trans (hb.below f.m0 h.W.size)⟩
end

/-- Four cells that are read. -/
structure C4 (b1 o1 b2 o2 b3 o3 b4 o4 : Nat) (v1 v2 v3 v4 : Value) (w : World) : Prop where
  l1 : b1 < w.heap.size
  l2 : b2 < w.heap.size
  l3 : b3 < w.heap.size
  l4 : b4 < w.heap.size
  c1 : w.cell? ⟨b1, o1, none⟩ = some v1
  c2 : w.cell? ⟨b2, o2, none⟩ = some v2
  c3 : w.cell? ⟨b3, o3, none⟩ = some v3
  c4 : w.cell? ⟨b4, o4, none⟩ = some v4
theorem C4.below {b1 o1 b2 o2 b3 o3 b4 o4 : Nat} {v1 v2 v3 v4 : Value} {w w' : World} (h : C4 b1 o1 b2 o2 b3 o3 b4 o4 v1 v2 v3 v4 w) (k : Below w.heap.size w w') : C4 b1 o1 b2 o2 b3 o3 b4 o4 v1 v2 v3 v4 w' :=
  ⟨Nat.lt_of_lt_of_le h.l1 k.size, Nat.lt_of_lt_of_le h.l2 k.size, Nat.lt_of_lt_of_le h.l3 k.size, Nat.lt_of_lt_of_le h.l4 k.size, (k.cell (by exact h.l1)).trans h.c1, (k.cell (by exact h.l2)).trans h.c2, (k.cell (by exact h.l3)).trans h.c3, (k.cell (by exact h.l4)).trans h.c4⟩
theorem C4.drew {b1 o1 b2 o2 b3 o3 b4 o4 : Nat} {v1 v2 v3 v4 : Value} {w : World} (h : C4 b1 o1 b2 o2 b3 o3 b4 o4 v1 v2 v3 v4 w) : C4 b1 o1 b2 o2 b3 o3 b4 o4 v1 v2 v3 v4 w.drew := ⟨h.l1, h.l2, h.l3, h.l4, h.c1, h.c2, h.c3, h.c4⟩
theorem C4.cells {b1 o1 b2 o2 b3 o3 b4 o4 : Nat} {v1 v2 v3 v4 : Value} {w : World} (h : C4 b1 o1 b2 o2 b3 o3 b4 o4 v1 v2 v3 v4 w) : w.cell? ⟨b1, o1, none⟩ = some v1 ∧ w.cell? ⟨b2, o2, none⟩ = some v2 ∧ w.cell? ⟨b3, o3, none⟩ = some v3 ∧ w.cell? ⟨b4, o4, none⟩ = some v4 := ⟨h.c1, h.c2, h.c3, h.c4⟩
/-- Two variables and two moments that are read. -/
structure X8 (vA vB : Nat) (M N : Value) (ga oa gb ob : Nat) (x0 x1 x2 y0 y1 y2 : Int) (w : World) : Prop where
  x : X6 ga oa gb ob x0 x1 x2 y0 y1 y2 w
  l1 : vA < w.heap.size
  l2 : vB < w.heap.size
  c1 : w.cell? ⟨vA, 4, none⟩ = some M
  c2 : w.cell? ⟨vB, 4, none⟩ = some N
section
variable {vA vB : Nat} {M N : Value} {ga oa gb ob : Nat} {x0 x1 x2 y0 y1 y2 : Int} {w w' : World}
theorem X8.below (h : X8 vA vB M N ga oa gb ob x0 x1 x2 y0 y1 y2 w) (k : Below w.heap.size w w') : X8 vA vB M N ga oa gb ob x0 x1 x2 y0 y1 y2 w' :=
  ⟨h.x.below k, Nat.lt_of_lt_of_le h.l1 k.size, Nat.lt_of_lt_of_le h.l2 k.size, (k.cell (by exact h.l1)).trans h.c1, (k.cell (by exact h.l2)).trans h.c2⟩
theorem X8.alloc (h : X8 vA vB M N ga oa gb ob x0 x1 x2 y0 y1 y2 w) (o : Obj) : X8 vA vB M N ga oa gb ob x0 x1 x2 y0 y1 y2 (w.alloc o) := h.below (alloc_below w o)
theorem X8.drew (h : X8 vA vB M N ga oa gb ob x0 x1 x2 y0 y1 y2 w) : X8 vA vB M N ga oa gb ob x0 x1 x2 y0 y1 y2 w.drew := ⟨h.x.drew, h.l1, h.l2, h.c1, h.c2⟩
theorem X8.set {m : Nat} (h : X8 vA vB M N ga oa gb ob x0 x1 x2 y0 y1 y2 w) (ha : ga ≠ m) (hb : gb ≠ m) (h1 : vA ≠ m) (h2 : vB ≠ m) (o : Nat) (v : Value) : X8 vA vB M N ga oa gb ob x0 x1 x2 y0 y1 y2 (w.setCell ⟨m, o, none⟩ v) :=
  ⟨h.x.set ha hb o v, Nat.lt_of_lt_of_le h.l1 (But.setCell m o w v).size, Nat.lt_of_lt_of_le h.l2 (But.setCell m o w v).size, ((But.setCell m o w v).cell (by exact h.l1) (by exact h1)).trans h.c1, ((But.setCell m o w v).cell (by exact h.l2) (by exact h2)).trans h.c2⟩
theorem X8.cells (h : X8 vA vB M N ga oa gb ob x0 x1 x2 y0 y1 y2 w) : (w.cell? ⟨vA, 4, none⟩ = some M ∧ w.cell? ⟨vB, 4, none⟩ = some N) ∧ ((w.cell? ⟨ga, oa, none⟩ = some (.int .i64 x0) ∧ w.cell? ⟨ga, oa + 1, none⟩ = some (.int .i64 x1) ∧ w.cell? ⟨ga, oa + 2, none⟩ = some (.int .i64 x2)) ∧ (w.cell? ⟨gb, ob, none⟩ = some (.int .i64 y0) ∧ w.cell? ⟨gb, ob + 1, none⟩ = some (.int .i64 y1) ∧ w.cell? ⟨gb, ob + 2, none⟩ = some (.int .i64 y2))) := ⟨⟨h.c1, h.c2⟩, h.x.cells⟩
end


set_option maxRecDepth 20000 in
set_option maxHeartbeats 4000000 in
theorem rmerge_any (a a' : HD) (ac am ac' am' : Option Addr) (nc cc nm cm nc' cc' nm' cm' : Nat) (w : World) (h : Reads a ac nc am nm w) (h' : Reads a' ac' nc' am' nm' w) (z1 : ac = none → cc = 0) (z2 : am = none → cm = 0) :
    Calls Try.prog 28 #[.agg #[.int .i64 a.k, .int .i64 a.b, .int .i64 a.c, .slice ac nc cc, .slice am nm cm], .agg #[.int .i64 a'.k, .int .i64 a'.b, .int .i64 a'.c, .slice ac' nc' cc', .slice am' nm' cm']] w fun e w' =>
      Made (bothD plusW a a') (bothE plusW a a') w e w' := by
  have rL := fun w1 => like_any a a' ac am ac' am' nc cc nm cm nc' cc' nm' cm' w w1 h h'
  have bA := VarH.new w a.k a.b a.c (.slice ac nc cc) (.slice am nm cm) 45
  obtain ⟨W1, hW1⟩ : ∃ W1, w.alloc (.cells #[.int .i64 a.k, .int .i64 a.b, .int .i64 a.c, .slice ac nc cc, .slice am nm cm] 45) = W1 := ⟨_, rfl⟩
  rw [hW1] at bA
  have s1 : W1.heap.size = w.heap.size + 1 := by rw [← hW1]; simp
  have bB := VarH.new W1 a'.k a'.b a'.c (.slice ac' nc' cc') (.slice am' nm' cm') 45
  obtain ⟨W2, hW2⟩ : ∃ W2, W1.alloc (.cells #[.int .i64 a'.k, .int .i64 a'.b, .int .i64 a'.c, .slice ac' nc' cc', .slice am' nm' cm'] 45) = W2 := ⟨_, rfl⟩
  rw [hW2, s1] at bB
  have s2 : W2.heap.size = w.heap.size + 1 + 1 := by rw [← hW2]; simp [s1]
  have bR := VarH.new W2 0 0 0 (.slice none 0 0) (.slice none 0 0) 45
  obtain ⟨W3, hW3⟩ : ∃ W3, W2.alloc (.cells #[.int .i64 0, .int .i64 0, .int .i64 0, .slice none 0 0, .slice none 0 0] 45) = W3 := ⟨_, rfl⟩
  rw [hW3, s2] at bR
  have s3 : W3.heap.size = w.heap.size + 1 + 1 + 1 := by rw [← hW3]; simp [s2]
  replace bB := bB.below (hW3 ▸ alloc_below W2 _) (by omega)
  replace bA := (bA.below (hW2 ▸ alloc_below W1 _) (by omega)).below (hW3 ▸ alloc_below W2 _) (by omega)
  have hB0 : Below w.heap.size w W3 := by
    have := alloc3_below w (.cells #[.int .i64 a.k, .int .i64 a.b, .int .i64 a.c, .slice ac nc cc, .slice am nm cm] 45) (.cells #[.int .i64 a'.k, .int .i64 a'.b, .int .i64 a'.c, .slice ac' nc' cc', .slice am' nm' cm'] 45) (.cells #[.int .i64 0, .int .i64 0, .int .i64 0, .slice none 0 0, .slice none 0 0] 45)
    rw [hW1, hW2, hW3] at this
    exact this
  go_enter Try.func28, Try.ntmps28
  go_upto_region 1 with fail
  clear hW1 hW2 hW3 s1 s2
  obtain ⟨a0, a1, a2, a3, a4⟩ := bA.five
  obtain ⟨b0, b1, b2, b3, b4⟩ := bB.five
  have HS3 := Lib.hid s3
  clear s3
  go_wp2_with fail
  refine (rL _).mono ?_
  rintro e W4 ⟨rfl, c4⟩
  replace bA := bA.below c4 bA.lt
  replace bB := bB.below c4 bB.lt
  replace bR := bR.below c4 bR.lt
  replace hB0 := hB0.trans (c4.mono hB0.size)
  have s4 : w.heap.size + 1 + 1 + 1 ≤ W4.heap.size := by have := c4.size; have := HS3.out; omega
  clear a0 a1 a2 a3 a4 b0 b1 b2 b3 b4 c4 HS3 rL W1 W2 W3
  cases hl : likeD a a'
  · have HE : Hid (bothE plusW a a' = 8) := if_pos hl
    have HD : Hid (bothD plusW a a' = zD) := if_neg (by rw [HE.out]; decide)
    obtain ⟨r0, r1, r2, r3, r4⟩ := bR.five
    obtain ⟨k0, k1, k2, k3, k4⟩ := bR.soft
    clear hl bA bB
    go_wp2_with fail
    obtain ⟨d0, d1, d2, d3, d4⟩ := (bR.set 0 0 0 (.slice none 0 0) (.slice none 0 0)).five
    have HBW := set5_below (g := w.heap.size + 1 + 1) (x0 := .int .i64 0) (x1 := .int .i64 0) (x2 := .int .i64 0) (x3 := .slice none 0 0) (x4 := .slice none 0 0) hB0 (by omega)
    change bodyPost _ _ _ _ _ (set5 W4 (w.heap.size + 1 + 1) (.int .i64 0) (.int .i64 0) (.int .i64 0) (.slice none 0 0) (.slice none 0 0))
    generalize set5 W4 (w.heap.size + 1 + 1) (.int .i64 0) (.int .i64 0) (.int .i64 0) (.slice none 0 0) (.slice none 0 0) = WX at *
    simp [bodyPost, results, Try.results28, go_sem, d0, d1, d2, d3, d4]
    rw [HE.out, HD.out]
    exact ⟨_, rfl, Is.zero _ _, HBW⟩
  · obtain ⟨hr, hr', hk, hb, hc⟩ := likeD_true hl
    obtain ⟨p0, p1, p2⟩ := rightD_true hr
    obtain ⟨p0', p1', p2'⟩ := rightD_true hr'
    rw [← hk, ← hb, ← hc] at p0' p1' p2'
    have in1 := lenC_in a.k a.b a.c
    have in2 := lenM_in a.k a.b a.c
    have n1 := h.nc
    have n2 := h.nm
    have n3 := h'.nc
    have n4 := h'.nm
    obtain rfl : nc' = nc := by omega
    obtain rfl : nm' = nm := by omega
    have HN1 : Hid (nc' ≤ 1048576) := by show _ ≤ _; omega
    have HN2 : Hid (nm' ≤ 1048576) := by show _ ≤ _; omega
    have HL : Hid ((a.lc.length = nc' ∧ a'.lc.length = nc') ∧ a.lm.length = nm' * 3 ∧ a'.lm.length = nm' * 3) := by show _ ∧ _; omega
    have HE1 : Hid (Ways.ec plusW a a' ≠ 0 → bothE plusW a a' = Ways.ec plusW a a') := by
      intro h0
      unfold bothE; rw [if_neg (by rw [hl]; decide), if_neg h0]
    have HE2 : Hid (Ways.ec plusW a a' = 0 → bothE plusW a a' = Ways.em plusW a a') := by
      intro h0
      unfold bothE; rw [if_neg (by rw [hl]; decide), if_pos h0]
    have hcp := fun w1 (b : Below w.heap.size w w1) => copy_any a ac am nc' cc nm' cm w1 (h.below b) z1 z2 HN1.out HN2.out
    have HH := Lib.hid h
    have HH' := Lib.hid h'
    clear p0 p1 p2 p0' p1' p2' in1 in2 n1 n2 n3 n4 hl hr hr' hk hb hc z1 z2 h h'
    have HS4 := Lib.hid s4
    clear s4
    obtain ⟨a0, a1, a2, a3, a4⟩ := bA.five
    have hcp := hcp W4 hB0
    go_wp2_with fail
    refine hcp.mono ?_
    rintro e W5 ⟨g, m, nm2, co, mo, rfl, hnm2, hco, hmo, L1, L2, hg, hgm, c5⟩
    obtain rfl : nm2 = nm' := by have := HL.out; omega
    rw [HL.out.1.1]
    have hA5 := bA.below c5 bA.lt
    have hB5 := bB.below c5 bB.lt
    have hR5 := bR.below c5 bR.lt
    have hW5 := hB0.trans (c5.mono hB0.size)
    have bO := VarH.new W5 a.k a.b a.c (.slice (some ⟨g, 0, none⟩) nc' co) (.slice (some ⟨m, 0, none⟩) nm2 mo) 45
    have hOlt := L2.lt
    clear a0 a1 a2 a3 a4 hcp
    replace hA5 := Lib.hid hA5
    replace hB5 := Lib.hid hB5
    replace hR5 := Lib.hid hR5
    replace hW5 := Lib.hid hW5
    replace L1 := Lib.hid L1
    replace L2 := Lib.hid L2
    have HFAR : Hid (Far w.heap.size (w.heap.size + 1) (w.heap.size + 1 + 1) W5.heap.size g m w) := by
      have := HS4.out
      exact ⟨by omega, by omega, by omega, by omega, by omega, by omega, by omega, by omega, by omega, by omega, by omega, by omega⟩
    have HSM : Hid (nc' ≤ co ∧ nm2 ≤ mo) := by show _ ∧ _; rw [HL.out.1.1] at hco; omega
    clear hg hgm hOlt hnm2 hco hmo bA bB bR hB0 c5 HS4
    go_upto_region 4 with fail
    have c6 := alloc_below W5 (.cells #[.int .i64 a.k, .int .i64 a.b, .int .i64 a.c, .slice (some ⟨g, 0, none⟩) nc' co, .slice (some ⟨m, 0, none⟩) nm2 mo] 45)
    obtain ⟨W6, hW6⟩ : ∃ W6, W5.alloc (.cells #[.int .i64 a.k, .int .i64 a.b, .int .i64 a.c, .slice (some ⟨g, 0, none⟩) nc' co, .slice (some ⟨m, 0, none⟩) nm2 mo] 45) = W6 := ⟨_, rfl⟩
    rw [hW6] at bO c6 ⊢
    obtain ⟨vO, hvO⟩ : ∃ v, W5.heap.size = v := ⟨_, rfl⟩
    have st0 : Hid (St a a' ac cc am cm ac' cc' am' cm' nc' nm2 w.heap.size (w.heap.size + 1) (w.heap.size + 1 + 1) W5.heap.size g m co mo a.lc a.lm w W6) :=
      ⟨hA5.out.below c6 hA5.out.lt, hB5.out.below c6 hB5.out.lt, hR5.out.below c6 hR5.out.lt, bO, L1.out.below c6 L1.out.lt, L2.out.below c6 L2.out.lt, hW5.out.trans (c6.mono hW5.out.size)⟩
    rw [hvO] at st0 HFAR ⊢
    clear hvO hW6 bO c6 hA5 hB5 hR5 hW5 L1 L2 W4 W5
    obtain ⟨vA, hvA⟩ : ∃ v, w.heap.size = v := ⟨_, rfl⟩
    have HVA := Lib.hid hvA
    rw [hvA] at st0 HFAR ⊢
    clear hvA
    obtain ⟨vB, hvB⟩ : ∃ v, vA + 1 = v := ⟨_, rfl⟩
    obtain ⟨vR, hvR⟩ : ∃ v, vA + 1 + 1 = v := ⟨_, rfl⟩
    rw [hvR, hvB] at st0 HFAR
    rw [hvR, hvB]
    clear hvB hvR
    go_wp2_with fail
    go_loopw [7] (fun iv wr => ∃ j : Nat, j ≤ nc' ∧ iv = .int .i64 j ∧ Hid (St a a' ac cc am cm ac' cc' am' cm' nc' nm2 vA vB vR vO g m co mo (mixL (fun j => plV (a.lc.getD j 0) (a'.lc.getD j 0)) a.lc j) a.lm w wr) ∧ Hid (∀ i, i < j → plE (a.lc.getD i 0) (a'.lc.getD i 0) = 0)) (fun iv _ => nc' - (intOf iv).toNat)
    case atStart => exact ⟨0, by omega, rfl, st0.out, fun i h => by omega⟩
    case round =>
      obtain ⟨j, hj, rfl, HST, HZ⟩ := hrel
      obtain ⟨a0, a1, a2, a3, a4⟩ := HST.out.A.five
      by_cases hlt : j < nc'
      · have i1 : (j : Int) < (nc' : Int) := by omega
        have HLT := Lib.hid hlt
        have HJ := Lib.hid hj
        obtain ⟨ga, oa, rfl, hga, cX⟩ := (HH.out.below HST.out.W).hc.cells (by have := HL.out; omega)
        obtain ⟨gb, ob, rfl, hgb, cY⟩ := (HH'.out.below HST.out.W).hc.cells (by have := HL.out; omega)
        have q0 : C4 vA 3 vB 3 ga (oa + j) gb (ob + j) _ _ _ _ wr := ⟨HST.out.A.lt, HST.out.B.lt, hga, hgb, HST.out.A.c3, HST.out.B.c3, cX j (by have := HL.out; omega), cY j (by have := HL.out; omega)⟩
        have hwx := HH.out.wc j (by have := HL.out; omega)
        have hwy := HH'.out.wc j (by have := HL.out; omega)
        have hcall := fun w => refP (a.lc.getD j 0) (a'.lc.getD j 0) hwx hwy w
        have HVJ : Hid (∀ v, plV (a.lc.getD j 0) (a'.lc.getD j 0) = v → (mixL (fun j => plV (a.lc.getD j 0) (a'.lc.getD j 0)) a.lc j).set j v = mixL (fun j => plV (a.lc.getD j 0) (a'.lc.getD j 0)) a.lc (j + 1)) := by rintro v rfl; rfl
        have HZJ : Hid (plE (a.lc.getD j 0) (a'.lc.getD j 0) = 0 → ∀ i, i < j + 1 → plE (a.lc.getD i 0) (a'.lc.getD i 0) = 0) := by
          intro he i hi
          by_cases q : i < j
          · exact HZ.out i q
          · obtain rfl : i = j := by omega
            exact he
        have HRJ : Hid (∀ e, plE (a.lc.getD j 0) (a'.lc.getD j 0) = e → e ≠ 0 → bothE plusW a a' = e ∧ bothD plusW a a' = zD) := by
          intro e he h0
          have hr : Ran (fun j => Ways.E plusW (a.lc.getD j 0) (a'.lc.getD j 0)) nc' j e := ⟨hj, HZ.out, .inr ⟨hlt, he, h0⟩⟩
          have h1 : Ways.ec plusW a a' = e := by unfold Ways.ec; rw [HL.out.1.1]; exact hr.first.symm
          have h2 : bothE plusW a a' = e := (HE1.out (by rw [h1]; exact h0)).trans h1
          exact ⟨h2, if_neg (by rw [h2]; exact h0)⟩
        clear cX cY hga hgb hwx hwy hj hlt
        generalize a.lc.getD j 0 = x at *
        generalize a'.lc.getD j 0 = y at *
        have i2 : (j : Int) < (nc' : Int) := i1
        go_upto_region 7 with fail
        clear a0 a1 a2 a3 a4
        have q1 := q0.drew
        have st1 := Lib.hid HST.out.drew
        go_region_held3 (fun w' => w'.cell? ⟨vA, 3, none⟩ = some (.slice (some ⟨ga, oa, none⟩) nc' cc) ∧ w'.cell? ⟨vB, 3, none⟩ = some (.slice (some ⟨gb, ob, none⟩) nc' cc') ∧ w'.cell? ⟨ga, oa + j, none⟩ = some (.int .i64 x) ∧ w'.cell? ⟨gb, ob + j, none⟩ = some (.int .i64 y)) (first | exact q1.cells | exact q0.cells)
          ((go_at_call 41; refine (hcall _).mono ?_; rintro e w' ⟨rfl, cc9⟩; replace q1 := q1.below cc9; replace st1 := Lib.hid (st1.out.below cc9); clear cc9))
        clear q0 q1 hcall HST
        obtain ⟨v, HVV⟩ : ∃ v, Hid (plV x y = v) := ⟨_, rfl⟩
        obtain ⟨ee, HEE⟩ : ∃ v, Hid (plE x y = v) := ⟨_, rfl⟩
        rw [HVV.out, HEE.out]
        by_cases he : ee = 0
        · have HX2 := Lib.hid (HZJ.out (HEE.out.trans he))
          subst he
          have HLj : Hid (j < (mixL (fun j => plV (a.lc.getD j 0) (a'.lc.getD j 0)) a.lc j).length) := by
            show _ < _
            rw [mixL_len]
            have := HL.out
            have := HLT.out
            omega
          have d0 := st1.out.G.cell j HLj.out
          have f0 := st1.out.G.frozen j HLj.out
          rw [Nat.zero_add] at d0 f0
          have o3 := st1.out.O.c3
          have st2 := Lib.hid (st1.out.setG HFAR.out j v HLj.out)
          rw [HVJ.out _ HVV.out] at st2
          clear HZ HZJ HRJ HVJ
          go_wp2_with fail
          go_roundw
          case rel => exact ⟨j + 1, HLT.out, (by first | exact congrArg (Value.int .i64) (next_num HLT.out HN1.out).1 | exact congrArg (Value.int .i64) (Int.natCast_succ j).symm), st2.out, HX2.out⟩
          case measure => first | exact (next_num HLT.out HN1.out).2 | (have := HLT.out; simp only [intOf]; omega)
        · obtain ⟨hE, hD⟩ := HRJ.out _ HEE.out he
          have gb1 : (ee != 0) = true := by simpa using he
          clear he
          have HE := Lib.hid hE
          have HD := Lib.hid hD
          obtain ⟨r0, r1, r2, r3, r4⟩ := st1.out.R.five
          obtain ⟨k0, k1, k2, k3, k4⟩ := st1.out.R.soft
          clear HZ HZJ HRJ HVJ hE hD
          go_wp2_with fail
          obtain ⟨d0, d1, d2, d3, d4⟩ := (st1.out.R.set 0 0 0 (.slice none 0 0) (.slice none 0 0)).five
          have HBW := set5_below (g := vR) (x0 := .int .i64 0) (x1 := .int .i64 0) (x2 := .int .i64 0) (x3 := (.slice none 0 0)) (x4 := (.slice none 0 0)) st1.out.W HFAR.out.r0
          change bodyPost _ _ _ _ _ (set5 _ vR (.int .i64 0) (.int .i64 0) (.int .i64 0) (.slice none 0 0) (.slice none 0 0))
          generalize set5 _ vR (.int .i64 0) (.int .i64 0) (.int .i64 0) (.slice none 0 0) (.slice none 0 0) = WX at *
          simp [bodyPost, results, Try.results28, go_sem, d0, d1, d2, d3, d4]
          rw [HE.out, HD.out]
          exact ⟨_, rfl, Is.zero _ _, HBW⟩
      · obtain rfl : nc' = j := by omega
        have HEC : Hid (Ways.ec plusW a a' = 0) := by
          show _ = _
          unfold Ways.ec; rw [HL.out.1.1]; exact firstE_zero.2 HZ.out
        have HLC : Hid (mixL (fun j => plV (a.lc.getD j 0) (a'.lc.getD j 0)) a.lc nc' = Ways.lc plusW a a') := by
          show _ = _
          unfold Ways.lc
          rw [mixL_all _ _ HL.out.1.1, HL.out.1.1]; rfl
        rw [HLC.out] at HST
        have HE3 := Lib.hid (HE2.out HEC.out)
        clear HZ HLC hlt hj
        go_upto_region 11 with fail
        clear a0 a1 a2 a3 a4
        go_wp2_with fail
        go_loopw [10] (fun iv wr => ∃ j : Nat, j ≤ nm2 ∧ iv = .int .i64 j ∧ Hid (St a a' ac cc am cm ac' cc' am' cm' nc' nm2 vA vB vR vO g m co mo (Ways.lc plusW a a') (mixL (mmV plV plV plV (fun j => a.lm.getD j 0) (fun j => a'.lm.getD j 0)) a.lm (j * 3)) w wr) ∧ Hid (∀ i, i < j → mmE plE plE plE (fun j => a.lm.getD j 0) (fun j => a'.lm.getD j 0) i = 0)) (fun iv _ => nm2 - (intOf iv).toNat)
        case atStart => exact ⟨0, by omega, rfl, HST.out, fun i h => by omega⟩
        case round =>
          obtain ⟨j, hj, rfl, HST, HZ⟩ := hrel
          obtain ⟨a0, a1, a2, a3, a4⟩ := HST.out.A.five
          by_cases hlt : j < nm2
          · have i1 : (j : Int) < (nm2 : Int) := by omega
            have HLT := Lib.hid hlt
            have HJ := Lib.hid hj
            obtain ⟨ga, oa, rfl, hga, cX⟩ := (HH.out.below HST.out.W).hm.cells (by have := HL.out; omega)
            obtain ⟨gb, ob, rfl, hgb, cY⟩ := (HH'.out.below HST.out.W).hm.cells (by have := HL.out; omega)
            have q0 : X8 vA vB _ _ ga (oa + j * 3) gb (ob + j * 3) _ _ _ _ _ _ wr := ⟨⟨⟨hga, cX (j * 3) (by have := HL.out; omega), by rw [Nat.add_assoc]; exact cX (j * 3 + 1) (by have := HL.out; omega), by rw [Nat.add_assoc]; exact cX (j * 3 + 2) (by have := HL.out; omega)⟩, ⟨hgb, cY (j * 3) (by have := HL.out; omega), by rw [Nat.add_assoc]; exact cY (j * 3 + 1) (by have := HL.out; omega), by rw [Nat.add_assoc]; exact cY (j * 3 + 2) (by have := HL.out; omega)⟩⟩, HST.out.A.lt, HST.out.B.lt, HST.out.A.c4, HST.out.B.c4⟩
            have hcall := fun w => rmplus_any (a.lm.getD (j * 3) 0) (a.lm.getD (j * 3 + 1) 0) (a.lm.getD (j * 3 + 2) 0) (a'.lm.getD (j * 3) 0) (a'.lm.getD (j * 3 + 1) 0) (a'.lm.getD (j * 3 + 2) 0) w (HH.out.wm _ (by have := HL.out; omega)) (HH.out.wm _ (by have := HL.out; omega)) (HH.out.wm _ (by have := HL.out; omega)) (HH'.out.wm _ (by have := HL.out; omega)) (HH'.out.wm _ (by have := HL.out; omega)) (HH'.out.wm _ (by have := HL.out; omega))
            have HEQ : Hid (or3 (plE (a.lm.getD (j * 3) 0) (a'.lm.getD (j * 3) 0)) (plE (a.lm.getD (j * 3 + 1) 0) (a'.lm.getD (j * 3 + 1) 0)) (plE (a.lm.getD (j * 3 + 2) 0) (a'.lm.getD (j * 3 + 2) 0)) = mmE plE plE plE (fun j => a.lm.getD j 0) (fun j => a'.lm.getD j 0) j) := rfl
            rw [HEQ.out] at hcall
            have HVJ : Hid ((((mixL (mmV plV plV plV (fun j => a.lm.getD j 0) (fun j => a'.lm.getD j 0)) a.lm (j * 3)).set (j * 3) (plV (a.lm.getD (j * 3) 0) (a'.lm.getD (j * 3) 0))).set (j * 3 + 1) (plV (a.lm.getD (j * 3 + 1) 0) (a'.lm.getD (j * 3 + 1) 0))).set (j * 3 + 2) (plV (a.lm.getD (j * 3 + 2) 0) (a'.lm.getD (j * 3 + 2) 0)) = mixL (mmV plV plV plV (fun j => a.lm.getD j 0) (fun j => a'.lm.getD j 0)) a.lm ((j + 1) * 3)) := by
              show _ = _
              rw [← mixL_3, mmV_0, mmV_1, mmV_2]
            have HZJ : Hid (mmE plE plE plE (fun j => a.lm.getD j 0) (fun j => a'.lm.getD j 0) j = 0 → ∀ i, i < j + 1 → mmE plE plE plE (fun j => a.lm.getD j 0) (fun j => a'.lm.getD j 0) i = 0) := by
              intro he i hi
              by_cases q : i < j
              · exact HZ.out i q
              · obtain rfl : i = j := by omega
                exact he
            have HRJ : Hid (mmE plE plE plE (fun j => a.lm.getD j 0) (fun j => a'.lm.getD j 0) j ≠ 0 → bothE plusW a a' = mmE plE plE plE (fun j => a.lm.getD j 0) (fun j => a'.lm.getD j 0) j ∧ bothD plusW a a' = zD) := by
              intro h0
              have hr : Ran (mmE plE plE plE (fun j => a.lm.getD j 0) (fun j => a'.lm.getD j 0)) nm2 j _ := ⟨hj, HZ.out, .inr ⟨hlt, rfl, h0⟩⟩
              have h1 : Ways.em plusW a a' = mmE plE plE plE (fun j => a.lm.getD j 0) (fun j => a'.lm.getD j 0) j := by unfold Ways.em; rw [HL.out.2.1, Nat.mul_div_cancel _ (by decide)]; exact hr.first.symm
              have h2 := HE3.out.trans h1
              exact ⟨h2, if_neg (by rw [h2]; exact h0)⟩
            clear cX cY hga hgb hj hlt HEQ
            generalize mmE plE plE plE (fun j => a.lm.getD j 0) (fun j => a'.lm.getD j 0) j = ee at *
            generalize plV (a.lm.getD (j * 3) 0) (a'.lm.getD (j * 3) 0) = t0 at *
            generalize plV (a.lm.getD (j * 3 + 1) 0) (a'.lm.getD (j * 3 + 1) 0) = t1 at *
            generalize plV (a.lm.getD (j * 3 + 2) 0) (a'.lm.getD (j * 3 + 2) 0) = t2 at *
            generalize a.lm.getD (j * 3) 0 = x0 at *
            generalize a.lm.getD (j * 3 + 1) 0 = x1 at *
            generalize a.lm.getD (j * 3 + 2) 0 = x2 at *
            generalize a'.lm.getD (j * 3) 0 = y0 at *
            generalize a'.lm.getD (j * 3 + 1) 0 = y1 at *
            generalize a'.lm.getD (j * 3 + 2) 0 = y2 at *
            go_upto_region 14 with fail
            clear a0 a1 a2 a3 a4
            go_cut [11, 12] (fun s10 s11 wx => ∃ gm : Nat, s10 = .pointer (some ⟨gm, 0, none⟩) ∧ s11 = .int .i64 ee ∧ AtM gm 0 (okV ee t0) (okV ee t1) (okV ee t2) wx ∧ wr.heap.size ≤ gm ∧ Below wr.heap.size wr wx)
            case first =>
              have na : ga ≠ wr.heap.size := by have := q0.x.a.lt; omega
              have nb : gb ≠ wr.heap.size := by have := q0.x.b.lt; omega
              have nA : vA ≠ wr.heap.size := by have := q0.l1; omega
              have nB : vB ≠ wr.heap.size := by have := q0.l2; omega
              go_region_held3 (fun w' => (w'.cell? ⟨vA, 4, none⟩ = some (.slice (some ⟨ga, oa, none⟩) nm2 cm) ∧ w'.cell? ⟨vB, 4, none⟩ = some (.slice (some ⟨gb, ob, none⟩) nm2 cm')) ∧ ((w'.cell? ⟨ga, oa + j * 3, none⟩ = some (.int .i64 x0) ∧ w'.cell? ⟨ga, oa + j * 3 + 1, none⟩ = some (.int .i64 x1) ∧ w'.cell? ⟨ga, oa + j * 3 + 2, none⟩ = some (.int .i64 x2)) ∧ (w'.cell? ⟨gb, ob + j * 3, none⟩ = some (.int .i64 y0) ∧ w'.cell? ⟨gb, ob + j * 3 + 1, none⟩ = some (.int .i64 y1) ∧ w'.cell? ⟨gb, ob + j * 3 + 2, none⟩ = some (.int .i64 y2))))
                ((refine X8.cells ?_; repeat (with_reducible (first | exact q0 | exact q9 | refine X8.alloc ?_ _ | refine X8.drew ?_ | refine X8.set ?_ na nb nA nB _ _))))
                ((go_at_call 43; refine (hcall _).mono ?_; rintro a9 w' ⟨rfl, c⟩; have q9 : X8 vA vB (.slice (some ⟨ga, oa, none⟩) nm2 cm) (.slice (some ⟨gb, ob, none⟩) nm2 cm') ga (oa + j * 3) gb (ob + j * 3) x0 x1 x2 y0 y1 y2 w' := X8.below (by (repeat (with_reducible (first | exact q0 | refine X8.alloc ?_ _ | refine X8.drew ?_)))) c; try (have mm : VarM wr.heap.size 0 0 0 w' := VarM.below (VarM.new wr 0 0 0 74).drew c; obtain ⟨⟨m9, m0, m1, m2⟩, mf0, mf1, mf2⟩ := mm)))
              · go_wp2_with fail
                go_meet
                exact ⟨_, rfl, rfl, AtM.new w' _ _ _ _, c.size, ((show Below wr.heap.size wr wr.drew from (Below.refl _ wr).drew).trans c).alloc c.size _⟩
              · go_wp2_with fail
                go_meet
                refine ⟨_, rfl, rfl, AtM.set (show AtM wr.heap.size 0 0 0 0 w' from ⟨m9, m0, m1, m2⟩), Nat.le_refl _, ?_⟩
                refine set3_below (b := wr.heap.size) (o := 0) (((Below.refl wr.heap.size wr).alloc (Nat.le_refl _) _).drew.trans (c.mono (by simp))) (Nat.le_refl _)
            case rest =>
              obtain ⟨gm, rfl, rfl, hM, hm, hW⟩ := hcut
              have HMLT : Hid (m < wr.heap.size ∧ vO < wr.heap.size) := ⟨HST.out.M.lt, HST.out.O.lt⟩
              replace HST := Lib.hid (HST.out.below hW)
              have HGM : Hid (gm ≠ m ∧ gm ≠ vO) := by
                have h1 := HMLT.out
                show _ ∧ _
                omega
              clear hcall q0 hW hm
              by_cases he : ee = 0
              · subst he
                have k0 : ∀ v, okV 0 v = v := fun v => if_pos rfl
                rw [k0, k0, k0] at hM
                have HX2 := Lib.hid (HZJ.out rfl)
                have HLj : Hid (j * 3 + 2 < (mixL (mmV plV plV plV (fun j => a.lm.getD j 0) (fun j => a'.lm.getD j 0)) a.lm (j * 3)).length) := by
                  show _ < _
                  rw [mixL_len]
                  have := HL.out
                  have := HLT.out
                  omega
                obtain ⟨_, e0, e1, e2⟩ := hM
                obtain ⟨_, d0, d1, d2⟩ := HST.out.M.atM j HLj.out
                have f0 := HST.out.M.frozen (j * 3) (by have := HLj.out; omega)
                have f1 := HST.out.M.frozen (j * 3 + 1) (by have := HLj.out; omega)
                have f2 := HST.out.M.frozen (j * 3 + 2) HLj.out
                rw [← Nat.add_assoc] at f1 f2
                rw [Nat.zero_add] at d0 d1 d2 f0 f1 f2
                have o4 := HST.out.O.c4
                have st2 := Lib.hid (HST.out.setM HFAR.out j t0 t1 t2 HLj.out)
                rw [HVJ.out] at st2
                have g1 := HGM.out.1
                have g2 := HGM.out.2
                clear HZ HZJ HRJ HVJ k0 HST
                go_wp2_with fail
                go_roundw
                case rel => exact ⟨j + 1, HLT.out, (by first | exact congrArg (Value.int .i64) (next_num HLT.out HN2.out).1 | exact congrArg (Value.int .i64) (Int.natCast_succ j).symm), st2.out, HX2.out⟩
                case measure => first | exact (next_num HLT.out HN2.out).2 | (have := HLT.out; simp only [intOf]; omega)
              · obtain ⟨hE, hD⟩ := HRJ.out he
                have HE := Lib.hid hE
                have HD := Lib.hid hD
                have gb1 : (ee != 0) = true := by simpa using he
                obtain ⟨r0, r1, r2, r3, r4⟩ := HST.out.R.five
                obtain ⟨k0, k1, k2, k3, k4⟩ := HST.out.R.soft
                clear HZ HZJ HRJ HVJ hM hE hD he
                go_wp2_with fail
                obtain ⟨d0, d1, d2, d3, d4⟩ := (HST.out.R.set 0 0 0 (.slice none 0 0) (.slice none 0 0)).five
                have HBW := set5_below (g := vR) (x0 := .int .i64 0) (x1 := .int .i64 0) (x2 := .int .i64 0) (x3 := (.slice none 0 0)) (x4 := (.slice none 0 0)) HST.out.W HFAR.out.r0
                have HBT := set5_but wc vR (.int .i64 0) (.int .i64 0) (.int .i64 0) (.slice none 0 0) (.slice none 0 0)
                change bodyPost _ _ _ _ _ (set5 wc vR (.int .i64 0) (.int .i64 0) (.int .i64 0) (.slice none 0 0) (.slice none 0 0))
                generalize set5 wc vR (.int .i64 0) (.int .i64 0) (.int .i64 0) (.slice none 0 0) (.slice none 0 0) = WX at *
                simp [bodyPost, results, Try.results28, go_sem, d0, d1, d2, d3, d4]
                rw [HE.out, HD.out]
                exact ⟨_, rfl, Is.zero _ _, HBW⟩
          · have HEM : Hid (Ways.em plusW a a' = 0) := by
              have hjn : j = nm2 := by omega
              show _ = _
              unfold Ways.em; rw [HL.out.2.1, Nat.mul_div_cancel _ (by decide)]; exact firstE_zero.2 (fun i hi => HZ.out i (by omega))
            have HLM : Hid (mixL (mmV plV plV plV (fun j => a.lm.getD j 0) (fun j => a'.lm.getD j 0)) a.lm (j * 3) = Ways.lm plusW a a') := by
              have hjn : j = nm2 := by omega
              show _ = _
              unfold Ways.lm
              rw [hjn, mixL_all _ _ HL.out.2.1, HL.out.2.1]; rfl
            have HE : Hid (bothE plusW a a' = 0) := HE3.out.trans HEM.out
            have HD : Hid (bothD plusW a a' = ⟨a.k, a.b, a.c, Ways.lc plusW a a', Ways.lm plusW a a'⟩) := if_pos HE.out
            rw [HLM.out] at HST
            obtain rfl : nm2 = j := by omega
            obtain ⟨o0, o1, o2, o3, o4⟩ := HST.out.O.five
            obtain ⟨r0, r1, r2, r3, r4⟩ := HST.out.R.five
            obtain ⟨k0, k1, k2, k3, k4⟩ := HST.out.R.soft
            have HRD : Hid (∀ W', But vR wr W' → Reads ⟨a.k, a.b, a.c, Ways.lc plusW a a', Ways.lm plusW a a'⟩ (some ⟨g, 0, none⟩) nc' (some ⟨m, 0, none⟩) nm2 W') := by
              intro W' hb
              have k3 := HST.out.G.but hb (Ne.symm HFAR.out.rg)
              have k4 := HST.out.M.but hb (Ne.symm HFAR.out.rm)
              exact ⟨by show (Ways.lc plusW a a').length = _; unfold Ways.lc; rw [mapN_len]; exact HL.out.1.1, by show (Ways.lm plusW a a').length = _; unfold Ways.lm; rw [mapN_len]; exact HL.out.2.1, k3.holds, k4.holds, Ways.lc_whole plusW_fine HEC.out, Ways.lm_whole plusW_fine HL.out.2.1 HEM.out⟩
            clear HZ HLM hlt hj
            go_wp2_with fail
            obtain ⟨d0, d1, d2, d3, d4⟩ := (HST.out.R.set a.k a.b a.c (.slice (some ⟨g, 0, none⟩) nc' co) (.slice (some ⟨m, 0, none⟩) nm2 mo)).five
            have HBW := set5_below (g := vR) (x0 := .int .i64 a.k) (x1 := .int .i64 a.b) (x2 := .int .i64 a.c) (x3 := (.slice (some ⟨g, 0, none⟩) nc' co)) (x4 := (.slice (some ⟨m, 0, none⟩) nm2 mo)) HST.out.W HFAR.out.r0
            have HBT := set5_but wr vR (.int .i64 a.k) (.int .i64 a.b) (.int .i64 a.c) (.slice (some ⟨g, 0, none⟩) nc' co) (.slice (some ⟨m, 0, none⟩) nm2 mo)
            change bodyPost _ _ _ _ _ (set5 wr vR (.int .i64 a.k) (.int .i64 a.b) (.int .i64 a.c) (.slice (some ⟨g, 0, none⟩) nc' co) (.slice (some ⟨m, 0, none⟩) nm2 mo))
            generalize set5 wr vR (.int .i64 a.k) (.int .i64 a.b) (.int .i64 a.c) (.slice (some ⟨g, 0, none⟩) nc' co) (.slice (some ⟨m, 0, none⟩) nm2 mo) = WX at *
            simp [bodyPost, results, Try.results28, go_sem, d0, d1, d2, d3, d4]
            rw [HE.out, HD.out]
            exact ⟨_, rfl, ⟨_, _, _, _, _, _, rfl, HRD.out _ HBT, ⟨fun ad h => (by cases h; exact HFAR.out.g0), fun ad h => (by cases h; exact HFAR.out.m0)⟩⟩, HBW⟩

end Go.Proofs.Ytebdlmjpgohngaa

/- HISTOGRAMS: the document's Merge, and a slice of nothing has no room. Conditions: each number is of 64 bits with a sign; no more than 2^20 of them. -/
namespace Go.Proofs.Ytebdlmjpgohngaa
open Go.RowKit

/-- A value is this histogram, made here; a slice of nothing has no room. -/
def IsZ (B : Nat) (d : HD) (w : World) (v : Value) : Prop := ∃ ac nc cc am nm cm, v = .agg #[.int .i64 d.k, .int .i64 d.b, .int .i64 d.c, .slice ac nc cc, .slice am nm cm] ∧ Reads d ac nc am nm w ∧ Past B ac am ∧ (ac = none → cc = 0) ∧ (am = none → cm = 0)
theorem IsZ.zero (B : Nat) (w : World) : IsZ B zD w (.agg #[.int .i64 0, .int .i64 0, .int .i64 0, .slice none 0 0, .slice none 0 0]) :=
  ⟨none, 0, 0, none, 0, 0, rfl, Reads.zero w, ⟨fun _ h => (by cases h), fun _ h => (by cases h)⟩, fun _ => rfl, fun _ => rfl⟩
theorem IsZ.is {B : Nat} {d : HD} {w : World} {v : Value} (h : IsZ B d w v) : Is B d w v := by
  obtain ⟨ac, nc, cc, am, nm, cm, hv, hr, hp, -, -⟩ := h
  exact ⟨ac, nc, cc, am, nm, cm, hv, hr, hp⟩
def MadeZ (d : HD) (err : Int) (w : World) (e : Ending) (w' : World) : Prop := ∃ v, e = .returned (.tuple #[v, .int .i64 err]) ∧ IsZ w.heap.size d w' v ∧ Below w.heap.size w w'
theorem MadeZ.made {d : HD} {err : Int} {w w' : World} {e : Ending} (h : MadeZ d err w e w') : Made d err w e w' := by
  obtain ⟨v, hv, hi, hb⟩ := h
  exact ⟨v, hv, hi.is, hb⟩

set_option maxRecDepth 20000 in
set_option maxHeartbeats 4000000 in
theorem rmergeZ_any (a a' : HD) (ac am ac' am' : Option Addr) (nc cc nm cm nc' cc' nm' cm' : Nat) (w : World) (h : Reads a ac nc am nm w) (h' : Reads a' ac' nc' am' nm' w) (z1 : ac = none → cc = 0) (z2 : am = none → cm = 0) :
    Calls Try.prog 28 #[.agg #[.int .i64 a.k, .int .i64 a.b, .int .i64 a.c, .slice ac nc cc, .slice am nm cm], .agg #[.int .i64 a'.k, .int .i64 a'.b, .int .i64 a'.c, .slice ac' nc' cc', .slice am' nm' cm']] w fun e w' =>
      MadeZ (bothD plusW a a') (bothE plusW a a') w e w' := by
  have rL := fun w1 => like_any a a' ac am ac' am' nc cc nm cm nc' cc' nm' cm' w w1 h h'
  have bA := VarH.new w a.k a.b a.c (.slice ac nc cc) (.slice am nm cm) 45
  obtain ⟨W1, hW1⟩ : ∃ W1, w.alloc (.cells #[.int .i64 a.k, .int .i64 a.b, .int .i64 a.c, .slice ac nc cc, .slice am nm cm] 45) = W1 := ⟨_, rfl⟩
  rw [hW1] at bA
  have s1 : W1.heap.size = w.heap.size + 1 := by rw [← hW1]; simp
  have bB := VarH.new W1 a'.k a'.b a'.c (.slice ac' nc' cc') (.slice am' nm' cm') 45
  obtain ⟨W2, hW2⟩ : ∃ W2, W1.alloc (.cells #[.int .i64 a'.k, .int .i64 a'.b, .int .i64 a'.c, .slice ac' nc' cc', .slice am' nm' cm'] 45) = W2 := ⟨_, rfl⟩
  rw [hW2, s1] at bB
  have s2 : W2.heap.size = w.heap.size + 1 + 1 := by rw [← hW2]; simp [s1]
  have bR := VarH.new W2 0 0 0 (.slice none 0 0) (.slice none 0 0) 45
  obtain ⟨W3, hW3⟩ : ∃ W3, W2.alloc (.cells #[.int .i64 0, .int .i64 0, .int .i64 0, .slice none 0 0, .slice none 0 0] 45) = W3 := ⟨_, rfl⟩
  rw [hW3, s2] at bR
  have s3 : W3.heap.size = w.heap.size + 1 + 1 + 1 := by rw [← hW3]; simp [s2]
  replace bB := bB.below (hW3 ▸ alloc_below W2 _) (by omega)
  replace bA := (bA.below (hW2 ▸ alloc_below W1 _) (by omega)).below (hW3 ▸ alloc_below W2 _) (by omega)
  have hB0 : Below w.heap.size w W3 := by
    have := alloc3_below w (.cells #[.int .i64 a.k, .int .i64 a.b, .int .i64 a.c, .slice ac nc cc, .slice am nm cm] 45) (.cells #[.int .i64 a'.k, .int .i64 a'.b, .int .i64 a'.c, .slice ac' nc' cc', .slice am' nm' cm'] 45) (.cells #[.int .i64 0, .int .i64 0, .int .i64 0, .slice none 0 0, .slice none 0 0] 45)
    rw [hW1, hW2, hW3] at this
    exact this
  go_enter Try.func28, Try.ntmps28
  go_upto_region 1 with fail
  clear hW1 hW2 hW3 s1 s2
  obtain ⟨a0, a1, a2, a3, a4⟩ := bA.five
  obtain ⟨b0, b1, b2, b3, b4⟩ := bB.five
  have HS3 := Lib.hid s3
  clear s3
  go_wp2_with fail
  refine (rL _).mono ?_
  rintro e W4 ⟨rfl, c4⟩
  replace bA := bA.below c4 bA.lt
  replace bB := bB.below c4 bB.lt
  replace bR := bR.below c4 bR.lt
  replace hB0 := hB0.trans (c4.mono hB0.size)
  have s4 : w.heap.size + 1 + 1 + 1 ≤ W4.heap.size := by have := c4.size; have := HS3.out; omega
  clear a0 a1 a2 a3 a4 b0 b1 b2 b3 b4 c4 HS3 rL W1 W2 W3
  cases hl : likeD a a'
  · have HE : Hid (bothE plusW a a' = 8) := if_pos hl
    have HD : Hid (bothD plusW a a' = zD) := if_neg (by rw [HE.out]; decide)
    obtain ⟨r0, r1, r2, r3, r4⟩ := bR.five
    obtain ⟨k0, k1, k2, k3, k4⟩ := bR.soft
    clear hl bA bB
    go_wp2_with fail
    obtain ⟨d0, d1, d2, d3, d4⟩ := (bR.set 0 0 0 (.slice none 0 0) (.slice none 0 0)).five
    have HBW := set5_below (g := w.heap.size + 1 + 1) (x0 := .int .i64 0) (x1 := .int .i64 0) (x2 := .int .i64 0) (x3 := .slice none 0 0) (x4 := .slice none 0 0) hB0 (by omega)
    change bodyPost _ _ _ _ _ (set5 W4 (w.heap.size + 1 + 1) (.int .i64 0) (.int .i64 0) (.int .i64 0) (.slice none 0 0) (.slice none 0 0))
    generalize set5 W4 (w.heap.size + 1 + 1) (.int .i64 0) (.int .i64 0) (.int .i64 0) (.slice none 0 0) (.slice none 0 0) = WX at *
    simp [bodyPost, results, Try.results28, go_sem, d0, d1, d2, d3, d4]
    rw [HE.out, HD.out]
    exact ⟨_, rfl, IsZ.zero _ _, HBW⟩
  · obtain ⟨hr, hr', hk, hb, hc⟩ := likeD_true hl
    obtain ⟨p0, p1, p2⟩ := rightD_true hr
    obtain ⟨p0', p1', p2'⟩ := rightD_true hr'
    rw [← hk, ← hb, ← hc] at p0' p1' p2'
    have in1 := lenC_in a.k a.b a.c
    have in2 := lenM_in a.k a.b a.c
    have n1 := h.nc
    have n2 := h.nm
    have n3 := h'.nc
    have n4 := h'.nm
    obtain rfl : nc' = nc := by omega
    obtain rfl : nm' = nm := by omega
    have HN1 : Hid (nc' ≤ 1048576) := by show _ ≤ _; omega
    have HN2 : Hid (nm' ≤ 1048576) := by show _ ≤ _; omega
    have HL : Hid ((a.lc.length = nc' ∧ a'.lc.length = nc') ∧ a.lm.length = nm' * 3 ∧ a'.lm.length = nm' * 3) := by show _ ∧ _; omega
    have HE1 : Hid (Ways.ec plusW a a' ≠ 0 → bothE plusW a a' = Ways.ec plusW a a') := by
      intro h0
      unfold bothE; rw [if_neg (by rw [hl]; decide), if_neg h0]
    have HE2 : Hid (Ways.ec plusW a a' = 0 → bothE plusW a a' = Ways.em plusW a a') := by
      intro h0
      unfold bothE; rw [if_neg (by rw [hl]; decide), if_pos h0]
    have hcp := fun w1 (b : Below w.heap.size w w1) => copy_any a ac am nc' cc nm' cm w1 (h.below b) z1 z2 HN1.out HN2.out
    have HH := Lib.hid h
    have HH' := Lib.hid h'
    clear p0 p1 p2 p0' p1' p2' in1 in2 n1 n2 n3 n4 hl hr hr' hk hb hc z1 z2 h h'
    have HS4 := Lib.hid s4
    clear s4
    obtain ⟨a0, a1, a2, a3, a4⟩ := bA.five
    have hcp := hcp W4 hB0
    go_wp2_with fail
    refine hcp.mono ?_
    rintro e W5 ⟨g, m, nm2, co, mo, rfl, hnm2, hco, hmo, L1, L2, hg, hgm, c5⟩
    obtain rfl : nm2 = nm' := by have := HL.out; omega
    rw [HL.out.1.1]
    have hA5 := bA.below c5 bA.lt
    have hB5 := bB.below c5 bB.lt
    have hR5 := bR.below c5 bR.lt
    have hW5 := hB0.trans (c5.mono hB0.size)
    have bO := VarH.new W5 a.k a.b a.c (.slice (some ⟨g, 0, none⟩) nc' co) (.slice (some ⟨m, 0, none⟩) nm2 mo) 45
    have hOlt := L2.lt
    clear a0 a1 a2 a3 a4 hcp
    replace hA5 := Lib.hid hA5
    replace hB5 := Lib.hid hB5
    replace hR5 := Lib.hid hR5
    replace hW5 := Lib.hid hW5
    replace L1 := Lib.hid L1
    replace L2 := Lib.hid L2
    have HFAR : Hid (Far w.heap.size (w.heap.size + 1) (w.heap.size + 1 + 1) W5.heap.size g m w) := by
      have := HS4.out
      exact ⟨by omega, by omega, by omega, by omega, by omega, by omega, by omega, by omega, by omega, by omega, by omega, by omega⟩
    have HSM : Hid (nc' ≤ co ∧ nm2 ≤ mo) := by show _ ∧ _; rw [HL.out.1.1] at hco; omega
    clear hg hgm hOlt hnm2 hco hmo bA bB bR hB0 c5 HS4
    go_upto_region 4 with fail
    have c6 := alloc_below W5 (.cells #[.int .i64 a.k, .int .i64 a.b, .int .i64 a.c, .slice (some ⟨g, 0, none⟩) nc' co, .slice (some ⟨m, 0, none⟩) nm2 mo] 45)
    obtain ⟨W6, hW6⟩ : ∃ W6, W5.alloc (.cells #[.int .i64 a.k, .int .i64 a.b, .int .i64 a.c, .slice (some ⟨g, 0, none⟩) nc' co, .slice (some ⟨m, 0, none⟩) nm2 mo] 45) = W6 := ⟨_, rfl⟩
    rw [hW6] at bO c6 ⊢
    obtain ⟨vO, hvO⟩ : ∃ v, W5.heap.size = v := ⟨_, rfl⟩
    have st0 : Hid (St a a' ac cc am cm ac' cc' am' cm' nc' nm2 w.heap.size (w.heap.size + 1) (w.heap.size + 1 + 1) W5.heap.size g m co mo a.lc a.lm w W6) :=
      ⟨hA5.out.below c6 hA5.out.lt, hB5.out.below c6 hB5.out.lt, hR5.out.below c6 hR5.out.lt, bO, L1.out.below c6 L1.out.lt, L2.out.below c6 L2.out.lt, hW5.out.trans (c6.mono hW5.out.size)⟩
    rw [hvO] at st0 HFAR ⊢
    clear hvO hW6 bO c6 hA5 hB5 hR5 hW5 L1 L2 W4 W5
    obtain ⟨vA, hvA⟩ : ∃ v, w.heap.size = v := ⟨_, rfl⟩
    have HVA := Lib.hid hvA
    rw [hvA] at st0 HFAR ⊢
    clear hvA
    obtain ⟨vB, hvB⟩ : ∃ v, vA + 1 = v := ⟨_, rfl⟩
    obtain ⟨vR, hvR⟩ : ∃ v, vA + 1 + 1 = v := ⟨_, rfl⟩
    rw [hvR, hvB] at st0 HFAR
    rw [hvR, hvB]
    clear hvB hvR
    go_wp2_with fail
    go_loopw [7] (fun iv wr => ∃ j : Nat, j ≤ nc' ∧ iv = .int .i64 j ∧ Hid (St a a' ac cc am cm ac' cc' am' cm' nc' nm2 vA vB vR vO g m co mo (mixL (fun j => plV (a.lc.getD j 0) (a'.lc.getD j 0)) a.lc j) a.lm w wr) ∧ Hid (∀ i, i < j → plE (a.lc.getD i 0) (a'.lc.getD i 0) = 0)) (fun iv _ => nc' - (intOf iv).toNat)
    case atStart => exact ⟨0, by omega, rfl, st0.out, fun i h => by omega⟩
    case round =>
      obtain ⟨j, hj, rfl, HST, HZ⟩ := hrel
      obtain ⟨a0, a1, a2, a3, a4⟩ := HST.out.A.five
      by_cases hlt : j < nc'
      · have i1 : (j : Int) < (nc' : Int) := by omega
        have HLT := Lib.hid hlt
        have HJ := Lib.hid hj
        obtain ⟨ga, oa, rfl, hga, cX⟩ := (HH.out.below HST.out.W).hc.cells (by have := HL.out; omega)
        obtain ⟨gb, ob, rfl, hgb, cY⟩ := (HH'.out.below HST.out.W).hc.cells (by have := HL.out; omega)
        have q0 : C4 vA 3 vB 3 ga (oa + j) gb (ob + j) _ _ _ _ wr := ⟨HST.out.A.lt, HST.out.B.lt, hga, hgb, HST.out.A.c3, HST.out.B.c3, cX j (by have := HL.out; omega), cY j (by have := HL.out; omega)⟩
        have hwx := HH.out.wc j (by have := HL.out; omega)
        have hwy := HH'.out.wc j (by have := HL.out; omega)
        have hcall := fun w => refP (a.lc.getD j 0) (a'.lc.getD j 0) hwx hwy w
        have HVJ : Hid (∀ v, plV (a.lc.getD j 0) (a'.lc.getD j 0) = v → (mixL (fun j => plV (a.lc.getD j 0) (a'.lc.getD j 0)) a.lc j).set j v = mixL (fun j => plV (a.lc.getD j 0) (a'.lc.getD j 0)) a.lc (j + 1)) := by rintro v rfl; rfl
        have HZJ : Hid (plE (a.lc.getD j 0) (a'.lc.getD j 0) = 0 → ∀ i, i < j + 1 → plE (a.lc.getD i 0) (a'.lc.getD i 0) = 0) := by
          intro he i hi
          by_cases q : i < j
          · exact HZ.out i q
          · obtain rfl : i = j := by omega
            exact he
        have HRJ : Hid (∀ e, plE (a.lc.getD j 0) (a'.lc.getD j 0) = e → e ≠ 0 → bothE plusW a a' = e ∧ bothD plusW a a' = zD) := by
          intro e he h0
          have hr : Ran (fun j => Ways.E plusW (a.lc.getD j 0) (a'.lc.getD j 0)) nc' j e := ⟨hj, HZ.out, .inr ⟨hlt, he, h0⟩⟩
          have h1 : Ways.ec plusW a a' = e := by unfold Ways.ec; rw [HL.out.1.1]; exact hr.first.symm
          have h2 : bothE plusW a a' = e := (HE1.out (by rw [h1]; exact h0)).trans h1
          exact ⟨h2, if_neg (by rw [h2]; exact h0)⟩
        clear cX cY hga hgb hwx hwy hj hlt
        generalize a.lc.getD j 0 = x at *
        generalize a'.lc.getD j 0 = y at *
        have i2 : (j : Int) < (nc' : Int) := i1
        go_upto_region 7 with fail
        clear a0 a1 a2 a3 a4
        have q1 := q0.drew
        have st1 := Lib.hid HST.out.drew
        go_region_held3 (fun w' => w'.cell? ⟨vA, 3, none⟩ = some (.slice (some ⟨ga, oa, none⟩) nc' cc) ∧ w'.cell? ⟨vB, 3, none⟩ = some (.slice (some ⟨gb, ob, none⟩) nc' cc') ∧ w'.cell? ⟨ga, oa + j, none⟩ = some (.int .i64 x) ∧ w'.cell? ⟨gb, ob + j, none⟩ = some (.int .i64 y)) (first | exact q1.cells | exact q0.cells)
          ((go_at_call 41; refine (hcall _).mono ?_; rintro e w' ⟨rfl, cc9⟩; replace q1 := q1.below cc9; replace st1 := Lib.hid (st1.out.below cc9); clear cc9))
        clear q0 q1 hcall HST
        obtain ⟨v, HVV⟩ : ∃ v, Hid (plV x y = v) := ⟨_, rfl⟩
        obtain ⟨ee, HEE⟩ : ∃ v, Hid (plE x y = v) := ⟨_, rfl⟩
        rw [HVV.out, HEE.out]
        by_cases he : ee = 0
        · have HX2 := Lib.hid (HZJ.out (HEE.out.trans he))
          subst he
          have HLj : Hid (j < (mixL (fun j => plV (a.lc.getD j 0) (a'.lc.getD j 0)) a.lc j).length) := by
            show _ < _
            rw [mixL_len]
            have := HL.out
            have := HLT.out
            omega
          have d0 := st1.out.G.cell j HLj.out
          have f0 := st1.out.G.frozen j HLj.out
          rw [Nat.zero_add] at d0 f0
          have o3 := st1.out.O.c3
          have st2 := Lib.hid (st1.out.setG HFAR.out j v HLj.out)
          rw [HVJ.out _ HVV.out] at st2
          clear HZ HZJ HRJ HVJ
          go_wp2_with fail
          go_roundw
          case rel => exact ⟨j + 1, HLT.out, (by first | exact congrArg (Value.int .i64) (next_num HLT.out HN1.out).1 | exact congrArg (Value.int .i64) (Int.natCast_succ j).symm), st2.out, HX2.out⟩
          case measure => first | exact (next_num HLT.out HN1.out).2 | (have := HLT.out; simp only [intOf]; omega)
        · obtain ⟨hE, hD⟩ := HRJ.out _ HEE.out he
          have gb1 : (ee != 0) = true := by simpa using he
          clear he
          have HE := Lib.hid hE
          have HD := Lib.hid hD
          obtain ⟨r0, r1, r2, r3, r4⟩ := st1.out.R.five
          obtain ⟨k0, k1, k2, k3, k4⟩ := st1.out.R.soft
          clear HZ HZJ HRJ HVJ hE hD
          go_wp2_with fail
          obtain ⟨d0, d1, d2, d3, d4⟩ := (st1.out.R.set 0 0 0 (.slice none 0 0) (.slice none 0 0)).five
          have HBW := set5_below (g := vR) (x0 := .int .i64 0) (x1 := .int .i64 0) (x2 := .int .i64 0) (x3 := (.slice none 0 0)) (x4 := (.slice none 0 0)) st1.out.W HFAR.out.r0
          change bodyPost _ _ _ _ _ (set5 _ vR (.int .i64 0) (.int .i64 0) (.int .i64 0) (.slice none 0 0) (.slice none 0 0))
          generalize set5 _ vR (.int .i64 0) (.int .i64 0) (.int .i64 0) (.slice none 0 0) (.slice none 0 0) = WX at *
          simp [bodyPost, results, Try.results28, go_sem, d0, d1, d2, d3, d4]
          rw [HE.out, HD.out]
          exact ⟨_, rfl, IsZ.zero _ _, HBW⟩
      · obtain rfl : nc' = j := by omega
        have HEC : Hid (Ways.ec plusW a a' = 0) := by
          show _ = _
          unfold Ways.ec; rw [HL.out.1.1]; exact firstE_zero.2 HZ.out
        have HLC : Hid (mixL (fun j => plV (a.lc.getD j 0) (a'.lc.getD j 0)) a.lc nc' = Ways.lc plusW a a') := by
          show _ = _
          unfold Ways.lc
          rw [mixL_all _ _ HL.out.1.1, HL.out.1.1]; rfl
        rw [HLC.out] at HST
        have HE3 := Lib.hid (HE2.out HEC.out)
        clear HZ HLC hlt hj
        go_upto_region 11 with fail
        clear a0 a1 a2 a3 a4
        go_wp2_with fail
        go_loopw [10] (fun iv wr => ∃ j : Nat, j ≤ nm2 ∧ iv = .int .i64 j ∧ Hid (St a a' ac cc am cm ac' cc' am' cm' nc' nm2 vA vB vR vO g m co mo (Ways.lc plusW a a') (mixL (mmV plV plV plV (fun j => a.lm.getD j 0) (fun j => a'.lm.getD j 0)) a.lm (j * 3)) w wr) ∧ Hid (∀ i, i < j → mmE plE plE plE (fun j => a.lm.getD j 0) (fun j => a'.lm.getD j 0) i = 0)) (fun iv _ => nm2 - (intOf iv).toNat)
        case atStart => exact ⟨0, by omega, rfl, HST.out, fun i h => by omega⟩
        case round =>
          obtain ⟨j, hj, rfl, HST, HZ⟩ := hrel
          obtain ⟨a0, a1, a2, a3, a4⟩ := HST.out.A.five
          by_cases hlt : j < nm2
          · have i1 : (j : Int) < (nm2 : Int) := by omega
            have HLT := Lib.hid hlt
            have HJ := Lib.hid hj
            obtain ⟨ga, oa, rfl, hga, cX⟩ := (HH.out.below HST.out.W).hm.cells (by have := HL.out; omega)
            obtain ⟨gb, ob, rfl, hgb, cY⟩ := (HH'.out.below HST.out.W).hm.cells (by have := HL.out; omega)
            have q0 : X8 vA vB _ _ ga (oa + j * 3) gb (ob + j * 3) _ _ _ _ _ _ wr := ⟨⟨⟨hga, cX (j * 3) (by have := HL.out; omega), by rw [Nat.add_assoc]; exact cX (j * 3 + 1) (by have := HL.out; omega), by rw [Nat.add_assoc]; exact cX (j * 3 + 2) (by have := HL.out; omega)⟩, ⟨hgb, cY (j * 3) (by have := HL.out; omega), by rw [Nat.add_assoc]; exact cY (j * 3 + 1) (by have := HL.out; omega), by rw [Nat.add_assoc]; exact cY (j * 3 + 2) (by have := HL.out; omega)⟩⟩, HST.out.A.lt, HST.out.B.lt, HST.out.A.c4, HST.out.B.c4⟩
            have hcall := fun w => rmplus_any (a.lm.getD (j * 3) 0) (a.lm.getD (j * 3 + 1) 0) (a.lm.getD (j * 3 + 2) 0) (a'.lm.getD (j * 3) 0) (a'.lm.getD (j * 3 + 1) 0) (a'.lm.getD (j * 3 + 2) 0) w (HH.out.wm _ (by have := HL.out; omega)) (HH.out.wm _ (by have := HL.out; omega)) (HH.out.wm _ (by have := HL.out; omega)) (HH'.out.wm _ (by have := HL.out; omega)) (HH'.out.wm _ (by have := HL.out; omega)) (HH'.out.wm _ (by have := HL.out; omega))
            have HEQ : Hid (or3 (plE (a.lm.getD (j * 3) 0) (a'.lm.getD (j * 3) 0)) (plE (a.lm.getD (j * 3 + 1) 0) (a'.lm.getD (j * 3 + 1) 0)) (plE (a.lm.getD (j * 3 + 2) 0) (a'.lm.getD (j * 3 + 2) 0)) = mmE plE plE plE (fun j => a.lm.getD j 0) (fun j => a'.lm.getD j 0) j) := rfl
            rw [HEQ.out] at hcall
            have HVJ : Hid ((((mixL (mmV plV plV plV (fun j => a.lm.getD j 0) (fun j => a'.lm.getD j 0)) a.lm (j * 3)).set (j * 3) (plV (a.lm.getD (j * 3) 0) (a'.lm.getD (j * 3) 0))).set (j * 3 + 1) (plV (a.lm.getD (j * 3 + 1) 0) (a'.lm.getD (j * 3 + 1) 0))).set (j * 3 + 2) (plV (a.lm.getD (j * 3 + 2) 0) (a'.lm.getD (j * 3 + 2) 0)) = mixL (mmV plV plV plV (fun j => a.lm.getD j 0) (fun j => a'.lm.getD j 0)) a.lm ((j + 1) * 3)) := by
              show _ = _
              rw [← mixL_3, mmV_0, mmV_1, mmV_2]
            have HZJ : Hid (mmE plE plE plE (fun j => a.lm.getD j 0) (fun j => a'.lm.getD j 0) j = 0 → ∀ i, i < j + 1 → mmE plE plE plE (fun j => a.lm.getD j 0) (fun j => a'.lm.getD j 0) i = 0) := by
              intro he i hi
              by_cases q : i < j
              · exact HZ.out i q
              · obtain rfl : i = j := by omega
                exact he
            have HRJ : Hid (mmE plE plE plE (fun j => a.lm.getD j 0) (fun j => a'.lm.getD j 0) j ≠ 0 → bothE plusW a a' = mmE plE plE plE (fun j => a.lm.getD j 0) (fun j => a'.lm.getD j 0) j ∧ bothD plusW a a' = zD) := by
              intro h0
              have hr : Ran (mmE plE plE plE (fun j => a.lm.getD j 0) (fun j => a'.lm.getD j 0)) nm2 j _ := ⟨hj, HZ.out, .inr ⟨hlt, rfl, h0⟩⟩
              have h1 : Ways.em plusW a a' = mmE plE plE plE (fun j => a.lm.getD j 0) (fun j => a'.lm.getD j 0) j := by unfold Ways.em; rw [HL.out.2.1, Nat.mul_div_cancel _ (by decide)]; exact hr.first.symm
              have h2 := HE3.out.trans h1
              exact ⟨h2, if_neg (by rw [h2]; exact h0)⟩
            clear cX cY hga hgb hj hlt HEQ
            generalize mmE plE plE plE (fun j => a.lm.getD j 0) (fun j => a'.lm.getD j 0) j = ee at *
            generalize plV (a.lm.getD (j * 3) 0) (a'.lm.getD (j * 3) 0) = t0 at *
            generalize plV (a.lm.getD (j * 3 + 1) 0) (a'.lm.getD (j * 3 + 1) 0) = t1 at *
            generalize plV (a.lm.getD (j * 3 + 2) 0) (a'.lm.getD (j * 3 + 2) 0) = t2 at *
            generalize a.lm.getD (j * 3) 0 = x0 at *
            generalize a.lm.getD (j * 3 + 1) 0 = x1 at *
            generalize a.lm.getD (j * 3 + 2) 0 = x2 at *
            generalize a'.lm.getD (j * 3) 0 = y0 at *
            generalize a'.lm.getD (j * 3 + 1) 0 = y1 at *
            generalize a'.lm.getD (j * 3 + 2) 0 = y2 at *
            go_upto_region 14 with fail
            clear a0 a1 a2 a3 a4
            go_cut [11, 12] (fun s10 s11 wx => ∃ gm : Nat, s10 = .pointer (some ⟨gm, 0, none⟩) ∧ s11 = .int .i64 ee ∧ AtM gm 0 (okV ee t0) (okV ee t1) (okV ee t2) wx ∧ wr.heap.size ≤ gm ∧ Below wr.heap.size wr wx)
            case first =>
              have na : ga ≠ wr.heap.size := by have := q0.x.a.lt; omega
              have nb : gb ≠ wr.heap.size := by have := q0.x.b.lt; omega
              have nA : vA ≠ wr.heap.size := by have := q0.l1; omega
              have nB : vB ≠ wr.heap.size := by have := q0.l2; omega
              go_region_held3 (fun w' => (w'.cell? ⟨vA, 4, none⟩ = some (.slice (some ⟨ga, oa, none⟩) nm2 cm) ∧ w'.cell? ⟨vB, 4, none⟩ = some (.slice (some ⟨gb, ob, none⟩) nm2 cm')) ∧ ((w'.cell? ⟨ga, oa + j * 3, none⟩ = some (.int .i64 x0) ∧ w'.cell? ⟨ga, oa + j * 3 + 1, none⟩ = some (.int .i64 x1) ∧ w'.cell? ⟨ga, oa + j * 3 + 2, none⟩ = some (.int .i64 x2)) ∧ (w'.cell? ⟨gb, ob + j * 3, none⟩ = some (.int .i64 y0) ∧ w'.cell? ⟨gb, ob + j * 3 + 1, none⟩ = some (.int .i64 y1) ∧ w'.cell? ⟨gb, ob + j * 3 + 2, none⟩ = some (.int .i64 y2))))
                ((refine X8.cells ?_; repeat (with_reducible (first | exact q0 | exact q9 | refine X8.alloc ?_ _ | refine X8.drew ?_ | refine X8.set ?_ na nb nA nB _ _))))
                ((go_at_call 43; refine (hcall _).mono ?_; rintro a9 w' ⟨rfl, c⟩; have q9 : X8 vA vB (.slice (some ⟨ga, oa, none⟩) nm2 cm) (.slice (some ⟨gb, ob, none⟩) nm2 cm') ga (oa + j * 3) gb (ob + j * 3) x0 x1 x2 y0 y1 y2 w' := X8.below (by (repeat (with_reducible (first | exact q0 | refine X8.alloc ?_ _ | refine X8.drew ?_)))) c; try (have mm : VarM wr.heap.size 0 0 0 w' := VarM.below (VarM.new wr 0 0 0 74).drew c; obtain ⟨⟨m9, m0, m1, m2⟩, mf0, mf1, mf2⟩ := mm)))
              · go_wp2_with fail
                go_meet
                exact ⟨_, rfl, rfl, AtM.new w' _ _ _ _, c.size, ((show Below wr.heap.size wr wr.drew from (Below.refl _ wr).drew).trans c).alloc c.size _⟩
              · go_wp2_with fail
                go_meet
                refine ⟨_, rfl, rfl, AtM.set (show AtM wr.heap.size 0 0 0 0 w' from ⟨m9, m0, m1, m2⟩), Nat.le_refl _, ?_⟩
                refine set3_below (b := wr.heap.size) (o := 0) (((Below.refl wr.heap.size wr).alloc (Nat.le_refl _) _).drew.trans (c.mono (by simp))) (Nat.le_refl _)
            case rest =>
              obtain ⟨gm, rfl, rfl, hM, hm, hW⟩ := hcut
              have HMLT : Hid (m < wr.heap.size ∧ vO < wr.heap.size) := ⟨HST.out.M.lt, HST.out.O.lt⟩
              replace HST := Lib.hid (HST.out.below hW)
              have HGM : Hid (gm ≠ m ∧ gm ≠ vO) := by
                have h1 := HMLT.out
                show _ ∧ _
                omega
              clear hcall q0 hW hm
              by_cases he : ee = 0
              · subst he
                have k0 : ∀ v, okV 0 v = v := fun v => if_pos rfl
                rw [k0, k0, k0] at hM
                have HX2 := Lib.hid (HZJ.out rfl)
                have HLj : Hid (j * 3 + 2 < (mixL (mmV plV plV plV (fun j => a.lm.getD j 0) (fun j => a'.lm.getD j 0)) a.lm (j * 3)).length) := by
                  show _ < _
                  rw [mixL_len]
                  have := HL.out
                  have := HLT.out
                  omega
                obtain ⟨_, e0, e1, e2⟩ := hM
                obtain ⟨_, d0, d1, d2⟩ := HST.out.M.atM j HLj.out
                have f0 := HST.out.M.frozen (j * 3) (by have := HLj.out; omega)
                have f1 := HST.out.M.frozen (j * 3 + 1) (by have := HLj.out; omega)
                have f2 := HST.out.M.frozen (j * 3 + 2) HLj.out
                rw [← Nat.add_assoc] at f1 f2
                rw [Nat.zero_add] at d0 d1 d2 f0 f1 f2
                have o4 := HST.out.O.c4
                have st2 := Lib.hid (HST.out.setM HFAR.out j t0 t1 t2 HLj.out)
                rw [HVJ.out] at st2
                have g1 := HGM.out.1
                have g2 := HGM.out.2
                clear HZ HZJ HRJ HVJ k0 HST
                go_wp2_with fail
                go_roundw
                case rel => exact ⟨j + 1, HLT.out, (by first | exact congrArg (Value.int .i64) (next_num HLT.out HN2.out).1 | exact congrArg (Value.int .i64) (Int.natCast_succ j).symm), st2.out, HX2.out⟩
                case measure => first | exact (next_num HLT.out HN2.out).2 | (have := HLT.out; simp only [intOf]; omega)
              · obtain ⟨hE, hD⟩ := HRJ.out he
                have HE := Lib.hid hE
                have HD := Lib.hid hD
                have gb1 : (ee != 0) = true := by simpa using he
                obtain ⟨r0, r1, r2, r3, r4⟩ := HST.out.R.five
                obtain ⟨k0, k1, k2, k3, k4⟩ := HST.out.R.soft
                clear HZ HZJ HRJ HVJ hM hE hD he
                go_wp2_with fail
                obtain ⟨d0, d1, d2, d3, d4⟩ := (HST.out.R.set 0 0 0 (.slice none 0 0) (.slice none 0 0)).five
                have HBW := set5_below (g := vR) (x0 := .int .i64 0) (x1 := .int .i64 0) (x2 := .int .i64 0) (x3 := (.slice none 0 0)) (x4 := (.slice none 0 0)) HST.out.W HFAR.out.r0
                have HBT := set5_but wc vR (.int .i64 0) (.int .i64 0) (.int .i64 0) (.slice none 0 0) (.slice none 0 0)
                change bodyPost _ _ _ _ _ (set5 wc vR (.int .i64 0) (.int .i64 0) (.int .i64 0) (.slice none 0 0) (.slice none 0 0))
                generalize set5 wc vR (.int .i64 0) (.int .i64 0) (.int .i64 0) (.slice none 0 0) (.slice none 0 0) = WX at *
                simp [bodyPost, results, Try.results28, go_sem, d0, d1, d2, d3, d4]
                rw [HE.out, HD.out]
                exact ⟨_, rfl, IsZ.zero _ _, HBW⟩
          · have HEM : Hid (Ways.em plusW a a' = 0) := by
              have hjn : j = nm2 := by omega
              show _ = _
              unfold Ways.em; rw [HL.out.2.1, Nat.mul_div_cancel _ (by decide)]; exact firstE_zero.2 (fun i hi => HZ.out i (by omega))
            have HLM : Hid (mixL (mmV plV plV plV (fun j => a.lm.getD j 0) (fun j => a'.lm.getD j 0)) a.lm (j * 3) = Ways.lm plusW a a') := by
              have hjn : j = nm2 := by omega
              show _ = _
              unfold Ways.lm
              rw [hjn, mixL_all _ _ HL.out.2.1, HL.out.2.1]; rfl
            have HE : Hid (bothE plusW a a' = 0) := HE3.out.trans HEM.out
            have HD : Hid (bothD plusW a a' = ⟨a.k, a.b, a.c, Ways.lc plusW a a', Ways.lm plusW a a'⟩) := if_pos HE.out
            rw [HLM.out] at HST
            obtain rfl : nm2 = j := by omega
            obtain ⟨o0, o1, o2, o3, o4⟩ := HST.out.O.five
            obtain ⟨r0, r1, r2, r3, r4⟩ := HST.out.R.five
            obtain ⟨k0, k1, k2, k3, k4⟩ := HST.out.R.soft
            have HRD : Hid (∀ W', But vR wr W' → Reads ⟨a.k, a.b, a.c, Ways.lc plusW a a', Ways.lm plusW a a'⟩ (some ⟨g, 0, none⟩) nc' (some ⟨m, 0, none⟩) nm2 W') := by
              intro W' hb
              have k3 := HST.out.G.but hb (Ne.symm HFAR.out.rg)
              have k4 := HST.out.M.but hb (Ne.symm HFAR.out.rm)
              exact ⟨by show (Ways.lc plusW a a').length = _; unfold Ways.lc; rw [mapN_len]; exact HL.out.1.1, by show (Ways.lm plusW a a').length = _; unfold Ways.lm; rw [mapN_len]; exact HL.out.2.1, k3.holds, k4.holds, Ways.lc_whole plusW_fine HEC.out, Ways.lm_whole plusW_fine HL.out.2.1 HEM.out⟩
            clear HZ HLM hlt hj
            go_wp2_with fail
            obtain ⟨d0, d1, d2, d3, d4⟩ := (HST.out.R.set a.k a.b a.c (.slice (some ⟨g, 0, none⟩) nc' co) (.slice (some ⟨m, 0, none⟩) nm2 mo)).five
            have HBW := set5_below (g := vR) (x0 := .int .i64 a.k) (x1 := .int .i64 a.b) (x2 := .int .i64 a.c) (x3 := (.slice (some ⟨g, 0, none⟩) nc' co)) (x4 := (.slice (some ⟨m, 0, none⟩) nm2 mo)) HST.out.W HFAR.out.r0
            have HBT := set5_but wr vR (.int .i64 a.k) (.int .i64 a.b) (.int .i64 a.c) (.slice (some ⟨g, 0, none⟩) nc' co) (.slice (some ⟨m, 0, none⟩) nm2 mo)
            change bodyPost _ _ _ _ _ (set5 wr vR (.int .i64 a.k) (.int .i64 a.b) (.int .i64 a.c) (.slice (some ⟨g, 0, none⟩) nc' co) (.slice (some ⟨m, 0, none⟩) nm2 mo))
            generalize set5 wr vR (.int .i64 a.k) (.int .i64 a.b) (.int .i64 a.c) (.slice (some ⟨g, 0, none⟩) nc' co) (.slice (some ⟨m, 0, none⟩) nm2 mo) = WX at *
            simp [bodyPost, results, Try.results28, go_sem, d0, d1, d2, d3, d4]
            rw [HE.out, HD.out]
            exact ⟨_, rfl, ⟨_, _, _, _, _, _, rfl, HRD.out _ HBT, ⟨fun ad h => (by cases h; exact HFAR.out.g0), fun ad h => (by cases h; exact HFAR.out.m0)⟩, fun h => (by cases h), fun h => (by cases h)⟩, HBW⟩

end Go.Proofs.Ytebdlmjpgohngaa

/- A SAMPLE's HISTOGRAM, by the document. Conditions: at most 2^20 cells; targets, weights, rows of 64 bits with a sign; at most 2^20 rows that are asked for. -/
namespace Go.Proofs.Ytebdlmjpgohngaa
open Go.RowKit

/-- What a row's region reads, but for the histogram. -/
structure RowQ (B : Nat) (A : Array Value) (gT kT gW kW : Nat) (t0 x0 : Int) (w : World) : Prop where
  X : BoxS w B A
  lT : gT < w.heap.size
  T : w.cell? ⟨gT, kT, none⟩ = some (.int .i64 t0)
  lW : gW < w.heap.size
  V : w.cell? ⟨gW, kW, none⟩ = some (.int .i64 x0)
theorem RowQ.below {B : Nat} {A : Array Value} {gT kT gW kW : Nat} {t0 x0 : Int} {w w' : World} (h : RowQ B A gT kT gW kW t0 x0 w) (b : Below w.heap.size w w') : RowQ B A gT kT gW kW t0 x0 w' :=
  ⟨h.X.on b, Nat.lt_of_lt_of_le h.lT b.size, (b.cell (by exact h.lT)).trans h.T, Nat.lt_of_lt_of_le h.lW b.size, (b.cell (by exact h.lW)).trans h.V⟩
theorem RowQ.drew {B : Nat} {A : Array Value} {gT kT gW kW : Nat} {t0 x0 : Int} {w : World} (h : RowQ B A gT kT gW kW t0 x0 w) : RowQ B A gT kT gW kW t0 x0 w.drew :=
  h.below ⟨rfl, rfl, rfl, Nat.le_refl _, fun _ _ => rfl⟩
theorem RowQ.but {B b : Nat} {A : Array Value} {gT kT gW kW : Nat} {t0 x0 : Int} {w w' : World} (h : RowQ B A gT kT gW kW t0 x0 w) (hb : But b w w') (n1 : B ≠ b) (n2 : gT ≠ b) (n3 : gW ≠ b) : RowQ B A gT kT gW kW t0 x0 w' :=
  ⟨h.X.kept (hb.block _ h.X.lt n1), Nat.lt_of_lt_of_le h.lT hb.size, (hb.cell (by exact h.lT) n2).trans h.T, Nat.lt_of_lt_of_le h.lW hb.size, (hb.cell (by exact h.lW) n3).trans h.V⟩
theorem RowQ.cells {B : Nat} {k c b t d' l p r q : Int} {vC vT vX : Value} {gT kT gW kW : Nat} {t0 x0 : Int} {w : World} (h : RowQ B (smpA k c b t d' l p r q vC vT vX) gT kT gW kW t0 x0 w) :
    (w.cell? ⟨B, 7, none⟩ = some (.int .i64 r) ∧ w.cell? ⟨B, 8, none⟩ = some (.int .i64 q) ∧ w.cell? ⟨B, 9, none⟩ = some vC) ∧ (w.cell? ⟨B, 10, none⟩ = some vT ∧ w.cell? ⟨B, 11, none⟩ = some vX) ∧
    w.cell? ⟨gT, kT, none⟩ = some (.int .i64 t0) ∧ w.cell? ⟨gW, kW, none⟩ = some (.int .i64 x0) := by
  obtain ⟨-, c7, cT, cW⟩ := h.X.cells
  exact ⟨c7, ⟨cT, cW⟩, h.T, h.V⟩
theorem Want.drew {v vW : Nat} {d : HD} {ac : Option Addr} {nc cc : Nat} {am : Option Addr} {nm cm : Nat} {w : World} (h : Want v vW d ac nc cc am nm cm w) : Want v vW d ac nc cc am nm cm w.drew :=
  h.below ⟨rfl, rfl, rfl, Nat.le_refl _, fun _ _ => rfl⟩

set_option maxRecDepth 20000 in
set_option maxHeartbeats 1000000 in
theorem rhist_no (s : SD) (aC aT aW aR : Option Addr) (cC cT cW nR cR : Nat) (col : Int) (w : World) (h : (col < 0 ∨ s.q ≤ col) ∨ rightS s = false) :
    Calls Try.prog 13 #[.agg (smpA s.k s.c s.b s.t s.d s.l s.p s.r s.q (.slice aC s.C.length cC) (.slice aT s.T.length cT) (.slice aW s.W.length cW)), .int .i64 col, .slice aR nR cR] w fun e w' => MadeZ zD 8 w e w' := by
  have hq := fun w1 => refRightS_any s.k s.c s.b s.t s.d s.l s.p s.r s.q aC aT aW s.C.length cC s.T.length cT s.W.length cW w1
  change ∀ w1, Calls _ _ _ _ (fun e w' => e = .returned (.bool (rightS s)) ∧ _) at hq
  obtain ⟨R, HR⟩ : ∃ R, rightS s = R := ⟨_, rfl⟩
  rw [HR] at hq h
  obtain ⟨k, c, b, t, d', l, p, r, q, C, T, W⟩ := s
  simp only at *
  generalize T.length = nT at *
  generalize W.length = nW at *
  generalize C.length = nC at *
  obtain ⟨w1, hw1⟩ : ∃ w1, w.alloc (.cells (smpA k c b t d' l p r q (.slice aC nC cC) (.slice aT nT cT) (.slice aW nW cW)) 38) = w1 := ⟨_, rfl⟩
  have HX : BoxS w1 w.heap.size (smpA k c b t d' l p r q (.slice aC nC cC) (.slice aT nT cT) (.slice aW nW cW)) ∧ Below w.heap.size w w1 ∧ w1.heap.size = w.heap.size + 1 := by subst hw1; exact ⟨BoxS.new _ _, alloc_below _ _, by simp⟩
  obtain ⟨w2, hw2⟩ : ∃ w2, w1.alloc (.cells #[.int .i64 0, .int .i64 0, .int .i64 0, .slice none 0 0, .slice none 0 0] 45) = w2 := ⟨_, rfl⟩
  have HV : VarH w1.heap.size 0 0 0 (.slice none 0 0) (.slice none 0 0) w2 ∧ Below w1.heap.size w1 w2 := by subst hw2; exact ⟨VarH.new _ _ _ _ _ _ _, alloc_below _ _⟩
  obtain ⟨hX, hb1, s1⟩ := HX
  obtain ⟨hV, hb2⟩ := HV
  replace hX := hX.on hb2
  rw [s1] at hV
  have HB := Lib.hid (hb1.trans (hb2.mono (by omega)))
  have HX := Lib.hid hX
  have HV := Lib.hid hV
  clear hX hV hb1 hb2
  unfold smpA at hw1
  unfold smpA at hq ⊢
  rcases Bool.eq_false_or_eq_true R with hRR | hRR
  · obtain rfl := hRR
    by_cases h0 : col < 0
    · have e0 : decide (col < 0) = true := decide_eq_true h0
      clear h h0 HR
      go_enter Try.func13, Try.ntmps13
      go_upto_region 1 with fail
      clear hw1 hw2 s1
      obtain ⟨⟨c0, c1, c2, c3, c4, c5, c6⟩, ⟨c7, c8, c9⟩, cT', cW'⟩ := HX.out.cells
      go_wp2_with fail
      refine (hq _).mono ?_
      rintro e w3 ⟨rfl, b3⟩
      replace HB := Lib.hid (HB.out.trans (b3.mono HB.out.size))
      replace HV := Lib.hid (HV.out.below b3 HV.out.lt)
      replace HX := Lib.hid (HX.out.on b3)
      clear c0 c1 c2 c3 c4 c5 c6 c7 c8 c9 cT' cW' b3
      obtain ⟨r0, r1, r2, r3, r4⟩ := HV.out.five
      obtain ⟨y0, y1, y2, y3, y4⟩ := HV.out.soft
      go_wp2_with fail
      obtain ⟨z0, z1, z2, z3, z4⟩ := (HV.out.set 0 0 0 (.slice none 0 0) (.slice none 0 0)).five
      have HBW := set5_below (g := w.heap.size + 1) (x0 := .int .i64 0) (x1 := .int .i64 0) (x2 := .int .i64 0) (x3 := .slice none 0 0) (x4 := .slice none 0 0) HB.out (by omega)
      change bodyPost _ _ _ _ _ (set5 w3 (w.heap.size + 1) (.int .i64 0) (.int .i64 0) (.int .i64 0) (.slice none 0 0) (.slice none 0 0))
      generalize set5 w3 (w.heap.size + 1) (.int .i64 0) (.int .i64 0) (.int .i64 0) (.slice none 0 0) (.slice none 0 0) = WX at *
      simp [bodyPost, results, Try.results13, go_sem, z0, z1, z2, z3, z4]
      exact ⟨_, rfl, IsZ.zero _ _, HBW⟩
    · have e0 : decide (col < 0) = false := decide_eq_false h0
      have e1 : decide (q ≤ col) = true := by
        rcases h with h | h
        · exact decide_eq_true (by omega)
        · cases h
      clear h h0 HR
      go_enter Try.func13, Try.ntmps13
      go_upto_region 1 with fail
      clear hw1 hw2 s1
      obtain ⟨⟨c0, c1, c2, c3, c4, c5, c6⟩, ⟨c7, c8, c9⟩, cT', cW'⟩ := HX.out.cells
      go_wp2_with fail
      refine (hq _).mono ?_
      rintro e w3 ⟨rfl, b3⟩
      replace HB := Lib.hid (HB.out.trans (b3.mono HB.out.size))
      replace HV := Lib.hid (HV.out.below b3 HV.out.lt)
      replace HX := Lib.hid (HX.out.on b3)
      clear c0 c1 c2 c3 c4 c5 c6 c7 c8 c9 cT' cW' b3
      obtain ⟨-, ⟨c7, c8, c9⟩, cT', cW'⟩ := HX.out.cells
      obtain ⟨r0, r1, r2, r3, r4⟩ := HV.out.five
      obtain ⟨y0, y1, y2, y3, y4⟩ := HV.out.soft
      go_wp2_with fail
      obtain ⟨z0, z1, z2, z3, z4⟩ := (HV.out.set 0 0 0 (.slice none 0 0) (.slice none 0 0)).five
      have HBW := set5_below (g := w.heap.size + 1) (x0 := .int .i64 0) (x1 := .int .i64 0) (x2 := .int .i64 0) (x3 := .slice none 0 0) (x4 := .slice none 0 0) HB.out (by omega)
      change bodyPost _ _ _ _ _ (set5 w3 (w.heap.size + 1) (.int .i64 0) (.int .i64 0) (.int .i64 0) (.slice none 0 0) (.slice none 0 0))
      generalize set5 w3 (w.heap.size + 1) (.int .i64 0) (.int .i64 0) (.int .i64 0) (.slice none 0 0) (.slice none 0 0) = WX at *
      simp [bodyPost, results, Try.results13, go_sem, z0, z1, z2, z3, z4]
      exact ⟨_, rfl, IsZ.zero _ _, HBW⟩
  · obtain rfl := hRR
    · clear h HR
      go_enter Try.func13, Try.ntmps13
      go_upto_region 1 with fail
      clear hw1 hw2 s1
      obtain ⟨⟨c0, c1, c2, c3, c4, c5, c6⟩, ⟨c7, c8, c9⟩, cT', cW'⟩ := HX.out.cells
      go_wp2_with fail
      refine (hq _).mono ?_
      rintro e w3 ⟨rfl, b3⟩
      replace HB := Lib.hid (HB.out.trans (b3.mono HB.out.size))
      replace HV := Lib.hid (HV.out.below b3 HV.out.lt)
      replace HX := Lib.hid (HX.out.on b3)
      clear c0 c1 c2 c3 c4 c5 c6 c7 c8 c9 cT' cW' b3
      obtain ⟨r0, r1, r2, r3, r4⟩ := HV.out.five
      obtain ⟨y0, y1, y2, y3, y4⟩ := HV.out.soft
      go_wp2_with fail
      obtain ⟨z0, z1, z2, z3, z4⟩ := (HV.out.set 0 0 0 (.slice none 0 0) (.slice none 0 0)).five
      have HBW := set5_below (g := w.heap.size + 1) (x0 := .int .i64 0) (x1 := .int .i64 0) (x2 := .int .i64 0) (x3 := .slice none 0 0) (x4 := .slice none 0 0) HB.out (by omega)
      change bodyPost _ _ _ _ _ (set5 w3 (w.heap.size + 1) (.int .i64 0) (.int .i64 0) (.int .i64 0) (.slice none 0 0) (.slice none 0 0))
      generalize set5 w3 (w.heap.size + 1) (.int .i64 0) (.int .i64 0) (.int .i64 0) (.slice none 0 0) (.slice none 0 0) = WX at *
      simp [bodyPost, results, Try.results13, go_sem, z0, z1, z2, z3, z4]
      exact ⟨_, rfl, IsZ.zero _ _, HBW⟩

set_option maxRecDepth 20000 in
set_option maxHeartbeats 4000000 in
theorem rhist_yes (s : SD) (aC aT aW aR : Option Addr) (cC cT cW nR cR col : Nat) (rows : List Int) (hnR : rows.length = nR) (hn2 : nR ≤ 1048576) (w : World) (hS : HoldsS s aC aT aW w) (hrow : HoldsE KN w aR rows) (hr : rightS s = true) (hcol : (col : Int) < s.q)
    (D : HD) (E : Int) (hDE : rowsF s col rows (zeroH s.k (s.b + 1) s.c) = (D, E)) :
    Calls Try.prog 13 #[.agg (smpA s.k s.c s.b s.t s.d s.l s.p s.r s.q (.slice aC s.C.length cC) (.slice aT s.T.length cT) (.slice aW s.W.length cW)), .int .i64 (col : Int), .slice aR nR cR] w fun e w' => MadeZ D E w e w' := by
  have hq := fun w1 => refRightS_any s.k s.c s.b s.t s.d s.l s.p s.r s.q aC aT aW s.C.length cC s.T.length cT s.W.length cW w1
  change ∀ w1, Calls _ _ _ _ (fun e w' => e = .returned (.bool (rightS s)) ∧ _) at hq
  rw [hr] at hq
  obtain ⟨-, -, -, -, hN⟩ := new_ok s.k (s.b + 1) s.c (chk_right (rightS_are hr).1)
  have wb : wrap64 (s.b + 1) = s.b + 1 := by
    have := chk_right (rightS_are hr).1
    exact wrap_in _ (by omega) (by omega)
  have hRow := fun t ht d => rowsF_at s col rows t ht d
  obtain ⟨-, hf, hT, hW⟩ := rightS_are hr
  obtain ⟨rn, hrn⟩ : ∃ rn : Nat, s.r = (rn : Int) := ⟨s.T.length, hT.symm⟩
  obtain ⟨qn, hqn⟩ : ∃ qn : Nat, s.q = (qn : Int) := ⟨s.q.toNat, by omega⟩
  have HSE : Hid (∀ (i : Nat) d, i < rn → stepE s col i d = addE d (s.C.getD (col * rn + i) 0) (s.T.getD i 0) (s.W.getD i 0) ∧ stepD s col i d = addD d (s.C.getD (col * rn + i) 0) (s.T.getD i 0) (s.W.getD i 0)) := by
    intro i d hi
    unfold stepE stepD
    rw [if_neg (by omega), if_neg (by omega), hrn]
    exact ⟨rfl, rfl⟩
  have HSO : Hid (∀ (row : Int) d, row < 0 ∨ (rn : Int) ≤ row → stepE s col row d = 5) := by
    intro row d h
    exact if_pos (by omega)
  have HWH : Hid (∀ i : Nat, i < rn → Whole (s.T.getD i 0) ∧ Whole (s.W.getD i 0)) := fun i hi => ⟨hS.wT i (by omega), hS.wW i (by omega)⟩
  have HL : Hid (s.T.length = rn ∧ s.W.length = rn) := by show _ ∧ _; omega
  have HCELL : Hid (∀ w1, Below w.heap.size w w1 → ∀ i : Nat, i < rn → Calls Try.prog 25 #[.agg #[.int .i64 rn, .int .i64 qn, .slice aC s.C.length cC], .int .i64 (i : Int), .int .i64 (col : Int)] w1 fun e w' => e = .returned (.int .i64 (s.C.getD (col * rn + i) 0)) ∧ Below w1.heap.size w1 w') := by
    intro w1 hb i hi
    rw [hrn, hqn] at hf
    have := refCell_ok rn qn i col s.C.length aC cC s.C rfl hS.lC hS.c16 hf hi (by omega) w1 (hS.hC.below hb)
    unfold mx at this
    exact this
  have HHT := Lib.hid hS.hT
  have HHW := Lib.hid hS.hW
  obtain ⟨Z, hZ⟩ : ∃ Z, zeroH s.k (s.b + 1) s.c = Z := ⟨_, rfl⟩
  rw [hZ] at hN hDE
  have HDE := Lib.hid hDE
  have HRow : Hid (∀ t (ht : t < rows.length) d, rowsF s col (rows.drop t) d = if stepE s col (rows.getD t 0) d = 0 then rowsF s col (rows.drop (t + 1)) (stepD s col (rows.getD t 0) d) else (zD, stepE s col (rows.getD t 0) d)) := hRow
  obtain ⟨sE, hsE⟩ : ∃ sE, stepE s col = sE := ⟨_, rfl⟩
  obtain ⟨sD, hsD⟩ : ∃ sD, stepD s col = sD := ⟨_, rfl⟩
  obtain ⟨rF, hrF⟩ : ∃ rF, rowsF s col = rF := ⟨_, rfl⟩
  have HNil : Hid (∀ d, rF [] d = (d, 0)) := fun d => by rw [← hrF]; rfl
  rw [hsE, hsD] at HSE
  rw [hsE] at HSO
  rw [hsE, hsD, hrF] at HRow
  rw [hrF] at HDE
  have e1 : decide (s.q ≤ (col : Int)) = false := decide_eq_false (by omega)
  rw [hqn] at e1
  have e2 : decide (qn ≤ col) = false := decide_eq_false (by omega)
  clear hS hr hcol hDE hRow hsE hsD hrF hZ hf hT hW
  obtain ⟨k, c, b, t, d', l, p, r, q, C, T, W⟩ := s
  simp only at *
  subst hrn hqn
  obtain ⟨cl, hcl⟩ : ∃ cl : Nat → Int, (fun i => C.getD (col * rn + i) 0) = cl := ⟨_, rfl⟩
  have HCL : Hid (∀ i, C.getD (col * rn + i) 0 = cl i) := fun i => by rw [← hcl]
  clear hcl
  obtain ⟨nT, hnT⟩ : ∃ n, T.length = n := ⟨_, rfl⟩
  obtain ⟨nW, hnW⟩ : ∃ n, W.length = n := ⟨_, rfl⟩
  have HTL := Lib.hid hnT
  have HWL := Lib.hid hnW
  rw [hnT] at hq HL ⊢
  rw [hnW] at hq HL ⊢
  clear hnT hnW
  generalize C.length = nC at *
  obtain ⟨w1, hw1⟩ : ∃ w1, w.alloc (.cells (smpA k c b t d' l p rn qn (.slice aC nC cC) (.slice aT nT cT) (.slice aW nW cW)) 38) = w1 := ⟨_, rfl⟩
  have HX : BoxS w1 w.heap.size (smpA k c b t d' l p rn qn (.slice aC nC cC) (.slice aT nT cT) (.slice aW nW cW)) ∧ Below w.heap.size w w1 ∧ w1.heap.size = w.heap.size + 1 := by subst hw1; exact ⟨BoxS.new _ _, alloc_below _ _, by simp⟩
  obtain ⟨w2, hw2⟩ : ∃ w2, w1.alloc (.cells #[.int .i64 0, .int .i64 0, .int .i64 0, .slice none 0 0, .slice none 0 0] 45) = w2 := ⟨_, rfl⟩
  have HV : VarH w1.heap.size 0 0 0 (.slice none 0 0) (.slice none 0 0) w2 ∧ Below w1.heap.size w1 w2 := by subst hw2; exact ⟨VarH.new _ _ _ _ _ _ _, alloc_below _ _⟩
  obtain ⟨hX, hb1, s1⟩ := HX
  obtain ⟨hV, hb2⟩ := HV
  replace hX := hX.on hb2
  rw [s1] at hV
  have HB := Lib.hid (hb1.trans (hb2.mono (by omega)))
  have HX := Lib.hid hX
  have HV := Lib.hid hV
  clear hX hV hb1 hb2
  unfold smpA at hw1
  unfold smpA at hq ⊢
  have e0 : decide ((col : Int) < 0) = false := decide_eq_false (by omega)
  have HROW := Lib.hid hrow
  have HNR := Lib.hid (And.intro hnR hn2)
  have HWB := Lib.hid wb
  clear hrow hnR hn2 wb
  go_enter Try.func13, Try.ntmps13
  go_upto_region 1 with fail
  clear hw1 hw2 s1
  obtain ⟨⟨c0, c1, c2, c3, c4, c5, c6⟩, ⟨c7, c8, c9⟩, cT', cW'⟩ := HX.out.cells
  go_wp2_with fail
  refine (hq _).mono ?_
  rintro e w3 ⟨rfl, b3⟩
  replace HB := Lib.hid (HB.out.trans (b3.mono HB.out.size))
  replace HV := Lib.hid (HV.out.below b3 HV.out.lt)
  replace HX := Lib.hid (HX.out.on b3)
  clear c0 c1 c2 c3 c4 c5 c6 c7 c8 c9 cT' cW' b3 hq
  obtain ⟨⟨c0, c1, c2, c3, c4, c5, c6⟩, ⟨c7, c8, c9⟩, cT', cW'⟩ := HX.out.cells
  go_wp2_with fail
  rw [HWB.out]
  refine (hN _).mono ?_
  rintro e w4 ⟨ac, nc, cc, am, nm, cm, rfl, b4, hR, hz, hO⟩
  replace HB := Lib.hid (HB.out.trans (b4.mono HB.out.size))
  have HVs := HV.out.lt
  replace HV := Lib.hid (HV.out.below b4 HV.out.lt)
  replace HX := Lib.hid (HX.out.on b4)
  have HR := Lib.hid hR
  have HZ := Lib.hid hz
  have HO : Hid (On (fun b => w.heap.size + 1 < b ∧ b ≠ w4.heap.size) ac am) := ⟨fun ad e => by have := hO.1 ad e; dsimp only at *; omega, fun ad e => by have := hO.2 ad e; dsimp only at *; omega⟩
  have HG := Lib.hid b4.size
  clear c0 c1 c2 c3 c4 c5 c6 c7 c8 c9 cT' cW' b4 hN hR hz hO e0 e1 e2
  go_upto_region 4 with fail
  obtain ⟨w5, hw5⟩ : ∃ w5, w4.alloc (.cells #[.int .i64 Z.k, .int .i64 Z.b, .int .i64 Z.c, .slice ac nc cc, .slice am nm cm] 45) = w5 := ⟨_, rfl⟩
  have b5 : Below w4.heap.size w4 w5 := by rw [← hw5]; exact alloc_below _ _
  have HWT : Hid (Want (w.heap.size + 1) w4.heap.size Z ac nc cc am nm cm w5) := ⟨by rw [← hw5]; exact VarH.new _ _ _ _ _ _ _, HR.out.below b5, HZ.out, HO.out⟩
  rw [hw5]
  clear hw5 HR HZ HO
  replace HB := Lib.hid (HB.out.trans (b5.mono HB.out.size))
  replace HV := Lib.hid (HV.out.below b5 HV.out.lt)
  replace HX := Lib.hid (HX.out.on b5)
  have HVW : Hid (w.heap.size + 1 < w4.heap.size) := by show _ < _; have := HG.out; omega
  clear b5 HVs HG
  go_wp2_with fail
  go_loopw [9, 10] (fun ie iv wr => ∃ (j : Nat) (er : Int) (d : HD) (ac : Option Addr) (nc cc : Nat) (am : Option Addr) (nm cm : Nat), j ≤ nR ∧ ie = .int .i64 er ∧ iv = .int .i64 (j : Int) ∧ Hid (Want (w.heap.size + 1) w4.heap.size d ac nc cc am nm cm wr) ∧ Hid (Below w.heap.size w wr) ∧ Hid (VarH (w.heap.size + 1) 0 0 0 (.slice none 0 0) (.slice none 0 0) wr) ∧
    Hid (BoxS wr w.heap.size (smpA k c b t d' l p rn qn (.slice aC nC cC) (.slice aT nT cT) (.slice aW nW cW))) ∧ Hid (er = 0 → rF (rows.drop j) d = (D, E)) ∧ Hid (er ≠ 0 → (D, E) = (zD, er))) (fun _ iv _ => nR - (intOf iv).toNat)
  case atStart => exact ⟨0, 0, Z, _, _, _, _, _, _, Nat.zero_le _, rfl, rfl, HWT, HB, HV, HX, fun _ => HDE.out, fun h => absurd rfl h⟩
  case round =>
    clear HWT HB HV HX HDE
    obtain ⟨j, er, d, ac, nc, cc, am, nm, cm, ht, rfl, rfl, HWT, HB, HV, HX, HDE, HDX⟩ := hrel
    by_cases her : er = 0
    · by_cases hlt : j < nR
      · obtain rfl := her
        have hlt2 : (j : Int) < (nR : Int) := by omega
        have e0 : ((0 : Int) == 0) = true := rfl
        obtain ⟨gR, oR, rfl, lgR, fR⟩ := HROW.out.at (n := j) (by have := HNR.out; omega)
        have f0 := (HB.out.cell (by exact lgR)).trans (fR j (by have := HNR.out; omega))
        change wr.cell? ⟨gR, oR + j, none⟩ = some (.int .i64 (rows.getD j 0)) at f0
        have HN := Lib.hid (next_num hlt HNR.out.2)
        have HT := Lib.hid hlt
        have hst := HRow.out j (by have := HNR.out; omega) d
        rw [HDE.out rfl] at hst
        generalize rows.getD j 0 = row at *
        have HST := Lib.hid hst
        clear hst hlt ht lgR fR HDE HDX
        by_cases hrow : row < 0 ∨ (rn : Int) ≤ row
        · have h5 := HST.out
          rw [HSO.out row d hrow, if_neg (by decide)] at h5
          obtain ⟨rfl, rfl⟩ : D = zD ∧ E = 5 := by cases h5; exact ⟨rfl, rfl⟩
          clear h5 HST HRow HSE HSO HWH HCELL
          by_cases hr0 : row < 0
          · have q0 : decide (row < 0) = true := decide_eq_true hr0
            clear hrow hr0
            obtain ⟨r0, r1, r2, r3, r4⟩ := HV.out.five
            obtain ⟨y0, y1, y2, y3, y4⟩ := HV.out.soft
            go_wp2_with fail
            obtain ⟨z0, z1, z2, z3, z4⟩ := (HV.out.set 0 0 0 (.slice none 0 0) (.slice none 0 0)).five
            have HBW := set5_below (g := w.heap.size + 1) (x0 := .int .i64 0) (x1 := .int .i64 0) (x2 := .int .i64 0) (x3 := .slice none 0 0) (x4 := .slice none 0 0) HB.out (by omega)
            change bodyPost _ _ _ _ _ (set5 wr (w.heap.size + 1) (.int .i64 0) (.int .i64 0) (.int .i64 0) (.slice none 0 0) (.slice none 0 0))
            generalize set5 wr (w.heap.size + 1) (.int .i64 0) (.int .i64 0) (.int .i64 0) (.slice none 0 0) (.slice none 0 0) = WX at *
            simp [bodyPost, results, Try.results13, go_sem, z0, z1, z2, z3, z4]
            exact ⟨_, rfl, IsZ.zero _ _, HBW⟩
          · have q0 : decide (row < 0) = false := decide_eq_false hr0
            have q1 : decide ((rn : Int) ≤ row) = true := decide_eq_true (by omega)
            clear hrow hr0
            obtain ⟨-, ⟨c7, c8, c9⟩, -, -⟩ := HX.out.cells
            obtain ⟨r0, r1, r2, r3, r4⟩ := HV.out.five
            obtain ⟨y0, y1, y2, y3, y4⟩ := HV.out.soft
            go_wp2_with fail
            obtain ⟨z0, z1, z2, z3, z4⟩ := (HV.out.set 0 0 0 (.slice none 0 0) (.slice none 0 0)).five
            have HBW := set5_below (g := w.heap.size + 1) (x0 := .int .i64 0) (x1 := .int .i64 0) (x2 := .int .i64 0) (x3 := .slice none 0 0) (x4 := .slice none 0 0) HB.out (by omega)
            change bodyPost _ _ _ _ _ (set5 wr (w.heap.size + 1) (.int .i64 0) (.int .i64 0) (.int .i64 0) (.slice none 0 0) (.slice none 0 0))
            generalize set5 wr (w.heap.size + 1) (.int .i64 0) (.int .i64 0) (.int .i64 0) (.slice none 0 0) (.slice none 0 0) = WX at *
            simp [bodyPost, results, Try.results13, go_sem, z0, z1, z2, z3, z4]
            exact ⟨_, rfl, IsZ.zero _ _, HBW⟩
        · obtain ⟨i, rfl⟩ : ∃ i : Nat, row = (i : Int) := ⟨row.toNat, by omega⟩
          have hi : i < rn := by omega
          have q0 : decide ((i : Int) < 0) = false := decide_eq_false (by omega)
          have q1 : decide ((rn : Int) ≤ (i : Int)) = false := decide_eq_false (by omega)
          have q4 : decide (rn ≤ i) = false := decide_eq_false (by omega)
          clear hrow
          obtain ⟨gT, oT, rfl, lgT, fT⟩ := HHT.out.at (n := i) (by have := HL.out; have := HTL.out; omega)
          obtain ⟨gW, oW, rfl, lgW, fW⟩ := HHW.out.at (n := i) (by have := HL.out; have := HWL.out; omega)
          have f1 := (HB.out.cell (by exact lgT)).trans (fT i (by have := HL.out; have := HTL.out; omega))
          have f2 := (HB.out.cell (by exact lgW)).trans (fW i (by have := HL.out; have := HWL.out; omega))
          change wr.cell? ⟨gT, oT + i, none⟩ = some (.int .i64 (T.getD i 0)) at f1
          change wr.cell? ⟨gW, oW + i, none⟩ = some (.int .i64 (W.getD i 0)) at f2
          have q2 : (i : Int) < (nT : Int) := by have := HL.out; omega
          have q3 : (i : Int) < (nW : Int) := by have := HL.out; omega
          have hw2 := HWH.out i hi
          have hse := HSE.out i d hi
          rw [HCL.out] at hse
          have hC := fun w1 (hb : Below w.heap.size w w1) => HCELL.out w1 hb i hi
          rw [HCL.out] at hC
          generalize T.getD i 0 = t0 at *
          generalize W.getD i 0 = x0 at *
          generalize cl i = n0 at *
          obtain ⟨E2, hE2⟩ : ∃ e, addE d n0 t0 x0 = e := ⟨_, rfl⟩
          obtain ⟨D2, hD2⟩ : ∃ e, addD d n0 t0 x0 = e := ⟨_, rfl⟩
          have hA := fun w1 (h : Reads d ac nc am nm w1) => radd_want d ac am nc cc nm cm n0 t0 x0 w1 h HWT.out.Z hw2.1 hw2.2 D2 E2 hD2 hE2
          rw [hE2, hD2] at hse
          have h5 := HST.out
          rw [hse.1, hse.2] at h5
          have HS5 := Lib.hid h5
          have qq0 : RowQ w.heap.size (smpA k c b t d' l p rn qn (.slice aC nC cC) (.slice (some ⟨gT, oT, none⟩) nT cT) (.slice (some ⟨gW, oW, none⟩) nW cW)) gT (oT + i) gW (oW + i) t0 x0 wr := ⟨HX.out, by have := HB.out.size; exact Nat.lt_of_lt_of_le lgT this, f1, by have := HB.out.size; exact Nat.lt_of_lt_of_le lgW this, f2⟩
          have HLG : Hid (gT < w.heap.size ∧ gW < w.heap.size) := ⟨lgT, lgW⟩
          obtain ⟨-, ⟨c7, c8, c9⟩, -, -⟩ := HX.out.cells
          clear h5 hse hw2 hE2 hD2 HST HRow HSE HSO HWH HCELL hi lgT fT lgW fW f1 f2 HHT HHW HCL HX
          go_upto_region 10 with fail
          clear c7 c8 c9 q0 q1 q4 f0
          have qq1 := qq0.drew
          have hw1 := Lib.hid HWT.out.drew
          have hb1 := Lib.hid HB.out.drew
          have hv1 := Lib.hid HV.out.drew
          clear qq0 HWT HB HV
          obtain ⟨v0, v1, v2, v3, v4⟩ := hw1.out.V.five
          refine wp_region_noPanic ?_
          refine wp_region_held_drew (S := (fun w' => (w'.cell? ⟨w.heap.size, 7, none⟩ = some (.int .i64 rn) ∧ w'.cell? ⟨w.heap.size, 8, none⟩ = some (.int .i64 qn) ∧ w'.cell? ⟨w.heap.size, 9, none⟩ = some (.slice aC nC cC)) ∧ (w'.cell? ⟨w.heap.size, 10, none⟩ = some (.slice (some ⟨gT, oT, none⟩) nT cT) ∧ w'.cell? ⟨w.heap.size, 11, none⟩ = some (.slice (some ⟨gW, oW, none⟩) nW cW)) ∧ w'.cell? ⟨gT, oT + i, none⟩ = some (.int .i64 t0) ∧ w'.cell? ⟨gW, oW + i, none⟩ = some (.int .i64 x0))) (by kernel_rfl) (qq1.cells) (fun hHeld => ?_)
          refine takeQ (i := 1) (v := ?_) rfl (by kernel_rfl) (by kernel_rfl) (by kernel_rfl) (fun _ _ _ h => h) (by rfl) hHeld ?_ ?_
          rotate_left
          · (intro w' hSw; (try dsimp only at hSw); go_simp <;> (with_reducible rfl))
          try simp only [Act.put, List.setIfInBounds_toArray, List.set_cons_zero, List.set_cons_succ]
          refine takeQ (i := 2) (v := ?_) rfl (by kernel_rfl) (by kernel_rfl) (by kernel_rfl) (fun _ _ _ h => h) (by rfl) hHeld ?_ ?_
          rotate_left
          · (intro w' hSw; (try dsimp only at hSw); go_simp <;> (with_reducible rfl))
          try simp only [Act.put, List.setIfInBounds_toArray, List.set_cons_zero, List.set_cons_succ]
          refine takeQ (i := 3) (v := ?_) rfl (by kernel_rfl) (by kernel_rfl) (by kernel_rfl) (fun _ _ _ h => h) (by rfl) hHeld ?_ ?_
          rotate_left
          · (intro w' hSw; (try dsimp only at hSw); go_simp <;> (with_reducible rfl))
          try simp only [Act.put, List.setIfInBounds_toArray, List.set_cons_zero, List.set_cons_succ]
          refine takeQ (i := 4) (v := ?_) rfl (by kernel_rfl) (by kernel_rfl) (by kernel_rfl) (fun _ _ _ h => h) (by rfl) hHeld ?_ ?_
          rotate_left
          · (intro w' hSw; (try dsimp only at hSw); go_simp <;> (with_reducible rfl))
          try simp only [Act.put, List.setIfInBounds_toArray, List.set_cons_zero, List.set_cons_succ]
          refine takeQ (i := 6) (v := ?_) rfl (by kernel_rfl) (by kernel_rfl) (by kernel_rfl) (fun _ _ _ h => h) (by rfl) hHeld ?_ ?_
          rotate_left
          · (intro w' hSw; (try dsimp only at hSw); go_simp <;> (with_reducible rfl))
          try simp only [Act.put, List.setIfInBounds_toArray, List.set_cons_zero, List.set_cons_succ]
          refine takeQ (i := 7) (v := ?_) rfl (by kernel_rfl) (by kernel_rfl) (by kernel_rfl) (fun _ _ _ h => h) (by rfl) hHeld ?_ ?_
          rotate_left
          · (intro w' hSw; (try dsimp only at hSw); go_simp <;> (with_reducible rfl))
          try simp only [Act.put, List.setIfInBounds_toArray, List.set_cons_zero, List.set_cons_succ]
          refine takeQ (i := 8) (v := ?_) rfl (by kernel_rfl) (by kernel_rfl) (by kernel_rfl) (fun _ _ _ h => h) (by rfl) hHeld ?_ ?_
          rotate_left
          · (intro w' hSw; (try dsimp only at hSw); go_simp <;> (with_reducible rfl))
          try simp only [Act.put, List.setIfInBounds_toArray, List.set_cons_zero, List.set_cons_succ]
          refine takeQ (i := 9) (v := ?_) rfl (by kernel_rfl) (by kernel_rfl) (by kernel_rfl) (fun _ _ _ h => h) (by rfl) hHeld ?_ ?_
          rotate_left
          · (intro w' hSw; (try dsimp only at hSw); go_simp <;> (with_reducible rfl))
          try simp only [Act.put, List.setIfInBounds_toArray, List.set_cons_zero, List.set_cons_succ]
          refine takeQ (i := 10) (v := ?_) rfl (by kernel_rfl) (by kernel_rfl) (by kernel_rfl) (fun _ _ _ h => h) (by rfl) hHeld ?_ ?_
          rotate_left
          · (intro w' hSw; (try dsimp only at hSw); go_simp <;> (with_reducible rfl))
          try simp only [Act.put, List.setIfInBounds_toArray, List.set_cons_zero, List.set_cons_succ]
          refine takeQ (i := 11) (v := ?_) rfl (by kernel_rfl) (by kernel_rfl) (by kernel_rfl) (fun _ _ _ h => h) (by rfl) hHeld ?_ ?_
          rotate_left
          · (intro w' hSw; (try dsimp only at hSw); go_simp <;> (with_reducible rfl))
          try simp only [Act.put, List.setIfInBounds_toArray, List.set_cons_zero, List.set_cons_succ]
          refine takeQ (i := 12) (v := ?_) rfl (by kernel_rfl) (by kernel_rfl) (by kernel_rfl) (fun _ _ _ h => h) (by rfl) hHeld ?_ ?_
          rotate_left
          · (intro w' hSw; (try dsimp only at hSw); go_simp <;> (with_reducible rfl))
          try simp only [Act.put, List.setIfInBounds_toArray, List.set_cons_zero, List.set_cons_succ]
          refine takeQ (i := 13) (v := ?_) rfl (by kernel_rfl) (by kernel_rfl) (by kernel_rfl) (fun _ _ _ h => h) (by rfl) hHeld ?_ ?_
          rotate_left
          · (intro w' hSw; (try dsimp only at hSw); go_simp <;> (with_reducible rfl))
          try simp only [Act.put, List.setIfInBounds_toArray, List.set_cons_zero, List.set_cons_succ]
          refine takeQ (i := 14) (v := ?_) rfl (by kernel_rfl) (by kernel_rfl) (by kernel_rfl) (fun _ _ _ h => h) (by rfl) hHeld ?_ ?_
          rotate_left
          · (intro w' hSw; (try dsimp only at hSw); go_simp <;> (with_reducible rfl))
          try simp only [Act.put, List.setIfInBounds_toArray, List.set_cons_zero, List.set_cons_succ]
          refine takeQ (i := 15) (v := ?_) rfl (by kernel_rfl) (by kernel_rfl) (by kernel_rfl) (fun _ _ _ h => h) (by rfl) hHeld ?_ ?_
          rotate_left
          · (intro w' hSw; (try dsimp only at hSw); go_simp <;> (with_reducible rfl))
          try simp only [Act.put, List.setIfInBounds_toArray, List.set_cons_zero, List.set_cons_succ]
          refine bothL (i := 0) (j := 5) (by kernel_rfl) rfl rfl (by rfl) (by rfl) (fun K hK => ?_) (fun K hK => ?_)
          · go_simp
            try dsimp only
            refine hK.out _ _ (qq1.cells) (fun hHeld => ?_)
            clear hK K
            try simp only [Act.put, List.setIfInBounds_toArray, List.set_cons_zero, List.set_cons_succ]
            refine callL (i := 5) (by kernel_rfl) rfl (by rfl) (fun K hK => ?_)
            go_simp
            refine (hC _ hb1.out).mono ?_
            rintro e w6 ⟨rfl, c9⟩
            replace qq1 := qq1.below c9
            replace hw1 := Lib.hid (hw1.out.below c9)
            replace hb1 := Lib.hid (hb1.out.trans (c9.mono hb1.out.size))
            replace hv1 := Lib.hid (hv1.out.below c9 hv1.out.lt)
            clear c9 v0 v1 v2 v3 v4 hHeld
            obtain ⟨v0, v1, v2, v3, v4⟩ := hw1.out.V.five
            try dsimp only
            refine hK.out _ _ (qq1.cells) (fun hHeld => ?_)
            clear hK K
            try simp only [Act.put, List.setIfInBounds_toArray, List.set_cons_zero, List.set_cons_succ]
            refine callL (i := 16) (by kernel_rfl) rfl (by rfl) (fun K hK => ?_)
            go_simp
            refine (hA _ hw1.out.R).mono ?_
            rintro e w7 ⟨ac2, nc2, cc2, am2, nm2, cm2, rfl, hR2, hZ2, hN2, c9⟩
            have HON : Hid (On (fun b => w.heap.size + 1 < b ∧ b ≠ w4.heap.size) ac2 am2) := hN2 _ (fun b hb => ⟨by have := HVW.out; have := hw1.out.V.lt; omega, by have := hw1.out.V.lt; omega⟩) hw1.out.O
            replace qq1 := qq1.below c9
            have HVV := Lib.hid (hw1.out.V.below c9 hw1.out.V.lt)
            replace hb1 := Lib.hid (hb1.out.trans (c9.mono hb1.out.size))
            replace hv1 := Lib.hid (hv1.out.below c9 hv1.out.lt)
            have HR2 := Lib.hid hR2
            have HZ2 := Lib.hid hZ2
            clear c9 hN2 hR2 hZ2 hw1 v0 v1 v2 v3 v4 hHeld
            try dsimp only
            refine hK.out _ _ (qq1.cells) (fun hHeld => ?_)
            clear hK K
            try simp only [Act.put, List.setIfInBounds_toArray, List.set_cons_zero, List.set_cons_succ]
            refine takeQ (i := 17) (v := ?_) rfl (by kernel_rfl) (by kernel_rfl) (by kernel_rfl) (fun _ _ _ h => h) (by rfl) hHeld ?_ ?_
            rotate_left
            · (intro w' hSw; (try dsimp only at hSw); go_simp <;> (with_reducible rfl))
            try simp only [Act.put, List.setIfInBounds_toArray, List.set_cons_zero, List.set_cons_succ]
            refine takeQ (i := 18) (v := ?_) rfl (by kernel_rfl) (by kernel_rfl) (by kernel_rfl) (fun _ _ _ h => h) (by rfl) hHeld ?_ ?_
            rotate_left
            · (intro w' hSw; (try dsimp only at hSw); go_simp <;> (with_reducible rfl))
            try simp only [Act.put, List.setIfInBounds_toArray, List.set_cons_zero, List.set_cons_succ]
            refine takeQ (i := 19) (v := ?_) rfl (by kernel_rfl) (by kernel_rfl) (by kernel_rfl) (fun _ _ _ h => h) (by rfl) hHeld ?_ ?_
            rotate_left
            · (intro w' hSw; (try dsimp only at hSw); go_simp <;> (with_reducible rfl))
            try simp only [Act.put, List.setIfInBounds_toArray, List.set_cons_zero, List.set_cons_succ]
            obtain ⟨z0, z1, z2, z3, z4⟩ := HVV.out.five
            obtain ⟨y0, y1, y2, y3, y4⟩ := HVV.out.soft
            have HBT := set5_but w7 w4.heap.size (.int .i64 D2.k) (.int .i64 D2.b) (.int .i64 D2.c) (.slice ac2 nc2 cc2) (.slice am2 nm2 cm2)
            have HWN : Hid (Want (w.heap.size + 1) w4.heap.size D2 ac2 nc2 cc2 am2 nm2 cm2 (set5 w7 w4.heap.size (.int .i64 D2.k) (.int .i64 D2.b) (.int .i64 D2.c) (.slice ac2 nc2 cc2) (.slice am2 nm2 cm2))) :=
              ⟨HVV.out.set D2.k D2.b D2.c (.slice ac2 nc2 cc2) (.slice am2 nm2 cm2), HR2.out.keepN HON.out HBT.size (fun b hb hN => HBT.block b hb hN.2), HZ2.out, HON.out⟩
            have HVN := Lib.hid (hv1.out.but HBT (by have := HVW.out; omega))
            have hq5 := qq1.but HBT (by have := HVW.out; omega) (by have := HVW.out; have := HLG.out; omega) (by have := HVW.out; have := HLG.out; omega)
            have HXN := Lib.hid hq5.X
            have HQ5 := Lib.hid hq5.cells
            have HBN := Lib.hid (hb1.out.trans (HBT.below (by have := HVW.out; omega) hb1.out.size))
            have HD0 : Hid (E2 = 0 → rF (rows.drop (j + 1)) D2 = (D, E)) := fun h => by have := HS5.out; rw [if_pos h] at this; exact this.symm
            have HD1 : Hid (E2 ≠ 0 → (D, E) = (zD, E2)) := fun h => by have := HS5.out; rw [if_neg h] at this; exact this
            clear HBT hq5 qq1 hb1 hv1 HON HR2 HZ2 HS5 hC hA HVV
            refine callL (i := 20) (by kernel_rfl) rfl (by rfl) (fun K hK => ?_)
            go_simp
            try dsimp only
            refine hK.out _ _ (by exact HQ5.out) (fun hHeld => ?_)
            clear hK K HQ5 z0 z1 z2 z3 z4 y0 y1 y2 y3 y4
            try simp only [Act.put, List.setIfInBounds_toArray, List.set_cons_zero, List.set_cons_succ]
            refine takeQ (i := 21) (v := ?_) rfl (by kernel_rfl) (by kernel_rfl) (by kernel_rfl) (fun _ _ _ h => h) (by rfl) hHeld ?_ ?_
            rotate_left
            · (intro w' hSw; (try dsimp only at hSw); go_simp <;> (with_reducible rfl))
            try simp only [Act.put, List.setIfInBounds_toArray, List.set_cons_zero, List.set_cons_succ]
            clear hHeld
            refine wpAnyH_done (by kernel_rfl) (NoPanic.normal ?_) _
            go_wp2_with fail
            go_roundw
            case rel => exact ⟨j + 1, E2, D2, _, _, _, _, _, _, HT.out, rfl, congrArg (Value.int .i64) HN.out.1, HWN, HBN, HVN, HXN, HD0, HD1⟩
            case measure => exact HN.out.2
          · go_simp
            refine (hC _ hb1.out).mono ?_
            rintro e w6 ⟨rfl, c9⟩
            replace qq1 := qq1.below c9
            replace hw1 := Lib.hid (hw1.out.below c9)
            replace hb1 := Lib.hid (hb1.out.trans (c9.mono hb1.out.size))
            replace hv1 := Lib.hid (hv1.out.below c9 hv1.out.lt)
            clear c9 v0 v1 v2 v3 v4 hHeld
            obtain ⟨v0, v1, v2, v3, v4⟩ := hw1.out.V.five
            try dsimp only
            refine hK.out _ _ (qq1.cells) (fun hHeld => ?_)
            clear hK K
            try simp only [Act.put, List.setIfInBounds_toArray, List.set_cons_zero, List.set_cons_succ]
            refine callL (i := 0) (by kernel_rfl) rfl (by rfl) (fun K hK => ?_)
            go_simp
            try dsimp only
            refine hK.out _ _ (qq1.cells) (fun hHeld => ?_)
            clear hK K
            try simp only [Act.put, List.setIfInBounds_toArray, List.set_cons_zero, List.set_cons_succ]
            refine callL (i := 16) (by kernel_rfl) rfl (by rfl) (fun K hK => ?_)
            go_simp
            refine (hA _ hw1.out.R).mono ?_
            rintro e w7 ⟨ac2, nc2, cc2, am2, nm2, cm2, rfl, hR2, hZ2, hN2, c9⟩
            have HON : Hid (On (fun b => w.heap.size + 1 < b ∧ b ≠ w4.heap.size) ac2 am2) := hN2 _ (fun b hb => ⟨by have := HVW.out; have := hw1.out.V.lt; omega, by have := hw1.out.V.lt; omega⟩) hw1.out.O
            replace qq1 := qq1.below c9
            have HVV := Lib.hid (hw1.out.V.below c9 hw1.out.V.lt)
            replace hb1 := Lib.hid (hb1.out.trans (c9.mono hb1.out.size))
            replace hv1 := Lib.hid (hv1.out.below c9 hv1.out.lt)
            have HR2 := Lib.hid hR2
            have HZ2 := Lib.hid hZ2
            clear c9 hN2 hR2 hZ2 hw1 v0 v1 v2 v3 v4 hHeld
            try dsimp only
            refine hK.out _ _ (qq1.cells) (fun hHeld => ?_)
            clear hK K
            try simp only [Act.put, List.setIfInBounds_toArray, List.set_cons_zero, List.set_cons_succ]
            refine takeQ (i := 17) (v := ?_) rfl (by kernel_rfl) (by kernel_rfl) (by kernel_rfl) (fun _ _ _ h => h) (by rfl) hHeld ?_ ?_
            rotate_left
            · (intro w' hSw; (try dsimp only at hSw); go_simp <;> (with_reducible rfl))
            try simp only [Act.put, List.setIfInBounds_toArray, List.set_cons_zero, List.set_cons_succ]
            refine takeQ (i := 18) (v := ?_) rfl (by kernel_rfl) (by kernel_rfl) (by kernel_rfl) (fun _ _ _ h => h) (by rfl) hHeld ?_ ?_
            rotate_left
            · (intro w' hSw; (try dsimp only at hSw); go_simp <;> (with_reducible rfl))
            try simp only [Act.put, List.setIfInBounds_toArray, List.set_cons_zero, List.set_cons_succ]
            refine takeQ (i := 19) (v := ?_) rfl (by kernel_rfl) (by kernel_rfl) (by kernel_rfl) (fun _ _ _ h => h) (by rfl) hHeld ?_ ?_
            rotate_left
            · (intro w' hSw; (try dsimp only at hSw); go_simp <;> (with_reducible rfl))
            try simp only [Act.put, List.setIfInBounds_toArray, List.set_cons_zero, List.set_cons_succ]
            obtain ⟨z0, z1, z2, z3, z4⟩ := HVV.out.five
            obtain ⟨y0, y1, y2, y3, y4⟩ := HVV.out.soft
            have HBT := set5_but w7 w4.heap.size (.int .i64 D2.k) (.int .i64 D2.b) (.int .i64 D2.c) (.slice ac2 nc2 cc2) (.slice am2 nm2 cm2)
            have HWN : Hid (Want (w.heap.size + 1) w4.heap.size D2 ac2 nc2 cc2 am2 nm2 cm2 (set5 w7 w4.heap.size (.int .i64 D2.k) (.int .i64 D2.b) (.int .i64 D2.c) (.slice ac2 nc2 cc2) (.slice am2 nm2 cm2))) :=
              ⟨HVV.out.set D2.k D2.b D2.c (.slice ac2 nc2 cc2) (.slice am2 nm2 cm2), HR2.out.keepN HON.out HBT.size (fun b hb hN => HBT.block b hb hN.2), HZ2.out, HON.out⟩
            have HVN := Lib.hid (hv1.out.but HBT (by have := HVW.out; omega))
            have hq5 := qq1.but HBT (by have := HVW.out; omega) (by have := HVW.out; have := HLG.out; omega) (by have := HVW.out; have := HLG.out; omega)
            have HXN := Lib.hid hq5.X
            have HQ5 := Lib.hid hq5.cells
            have HBN := Lib.hid (hb1.out.trans (HBT.below (by have := HVW.out; omega) hb1.out.size))
            have HD0 : Hid (E2 = 0 → rF (rows.drop (j + 1)) D2 = (D, E)) := fun h => by have := HS5.out; rw [if_pos h] at this; exact this.symm
            have HD1 : Hid (E2 ≠ 0 → (D, E) = (zD, E2)) := fun h => by have := HS5.out; rw [if_neg h] at this; exact this
            clear HBT hq5 qq1 hb1 hv1 HON HR2 HZ2 HS5 hC hA HVV
            refine callL (i := 20) (by kernel_rfl) rfl (by rfl) (fun K hK => ?_)
            go_simp
            try dsimp only
            refine hK.out _ _ (by exact HQ5.out) (fun hHeld => ?_)
            clear hK K HQ5 z0 z1 z2 z3 z4 y0 y1 y2 y3 y4
            try simp only [Act.put, List.setIfInBounds_toArray, List.set_cons_zero, List.set_cons_succ]
            refine takeQ (i := 21) (v := ?_) rfl (by kernel_rfl) (by kernel_rfl) (by kernel_rfl) (fun _ _ _ h => h) (by rfl) hHeld ?_ ?_
            rotate_left
            · (intro w' hSw; (try dsimp only at hSw); go_simp <;> (with_reducible rfl))
            try simp only [Act.put, List.setIfInBounds_toArray, List.set_cons_zero, List.set_cons_succ]
            clear hHeld
            refine wpAnyH_done (by kernel_rfl) (NoPanic.normal ?_) _
            go_wp2_with fail
            go_roundw
            case rel => exact ⟨j + 1, E2, D2, _, _, _, _, _, _, HT.out, rfl, congrArg (Value.int .i64) HN.out.1, HWN, HBN, HVN, HXN, HD0, HD1⟩
            case measure => exact HN.out.2
      · have hlt2 : ¬ (j : Int) < (nR : Int) := by omega
        obtain rfl : j = nR := by omega
        obtain rfl := her
        have hst := HDE.out rfl
        rw [List.drop_of_length_le (by have := HNR.out; omega), HNil.out] at hst
        obtain ⟨rfl, rfl⟩ : D = d ∧ E = 0 := by cases hst; exact ⟨rfl, rfl⟩
        have e0 : ((0 : Int) != 0) = false := rfl
        have HR6 := Lib.hid (fun W' (b : But (w.heap.size + 1) wr W') => HWT.out.R.keepN HWT.out.O b.size (fun x hx hN => b.block x hx (by omega)))
        have HP6 : Hid (Past w.heap.size ac am) := ⟨fun ad e => by have := HWT.out.O.1 ad e; dsimp only at this; omega, fun ad e => by have := HWT.out.O.2 ad e; dsimp only at this; omega⟩
        obtain ⟨v0, v1, v2, v3, v4⟩ := HWT.out.V.five
        obtain ⟨r0, r1, r2, r3, r4⟩ := HV.out.five
        clear hlt ht hst HRow HSE HSO HWH HCELL HDE HDX
        obtain ⟨y0, y1, y2, y3, y4⟩ := HV.out.soft
        go_wp2_with fail
        obtain ⟨z0, z1, z2, z3, z4⟩ := (HV.out.set D.k D.b D.c (.slice ac nc cc) (.slice am nm cm)).five
        have HBW := set5_below (g := w.heap.size + 1) (x0 := .int .i64 D.k) (x1 := .int .i64 D.b) (x2 := .int .i64 D.c) (x3 := (.slice ac nc cc)) (x4 := (.slice am nm cm)) HB.out (by omega)
        have HBT := set5_but wr (w.heap.size + 1) (.int .i64 D.k) (.int .i64 D.b) (.int .i64 D.c) (.slice ac nc cc) (.slice am nm cm)
        change bodyPost _ _ _ _ _ (set5 wr (w.heap.size + 1) (.int .i64 D.k) (.int .i64 D.b) (.int .i64 D.c) (.slice ac nc cc) (.slice am nm cm))
        generalize set5 wr (w.heap.size + 1) (.int .i64 D.k) (.int .i64 D.b) (.int .i64 D.c) (.slice ac nc cc) (.slice am nm cm) = WX at *
        simp [bodyPost, results, Try.results13, go_sem, z0, z1, z2, z3, z4]
        exact ⟨_, rfl, ⟨_, _, _, _, _, _, rfl, HR6.out _ HBT, HP6.out, HWT.out.Z.1, HWT.out.Z.2⟩, HBW⟩
    · have hst := HDX.out her
      obtain ⟨rfl, rfl⟩ : D = zD ∧ E = er := by cases hst; exact ⟨rfl, rfl⟩
      have e0 : (E == 0) = false := by simpa using her
      have e1 : (E != 0) = true := by simpa using her
      clear hst HDE HDX HRow HSE HSO HWH HCELL her
      obtain ⟨r0, r1, r2, r3, r4⟩ := HV.out.five
      obtain ⟨y0, y1, y2, y3, y4⟩ := HV.out.soft
      by_cases hlt : j < nR
      · have hlt2 : (j : Int) < (nR : Int) := by omega
        clear hlt ht
        go_wp2_with fail
        obtain ⟨z0, z1, z2, z3, z4⟩ := (HV.out.set 0 0 0 (.slice none 0 0) (.slice none 0 0)).five
        have HBW := set5_below (g := w.heap.size + 1) (x0 := .int .i64 0) (x1 := .int .i64 0) (x2 := .int .i64 0) (x3 := .slice none 0 0) (x4 := .slice none 0 0) HB.out (by omega)
        change bodyPost _ _ _ _ _ (set5 wr (w.heap.size + 1) (.int .i64 0) (.int .i64 0) (.int .i64 0) (.slice none 0 0) (.slice none 0 0))
        generalize set5 wr (w.heap.size + 1) (.int .i64 0) (.int .i64 0) (.int .i64 0) (.slice none 0 0) (.slice none 0 0) = WX at *
        simp [bodyPost, results, Try.results13, go_sem, z0, z1, z2, z3, z4]
        exact ⟨_, rfl, IsZ.zero _ _, HBW⟩
      · have hlt2 : ¬ (j : Int) < (nR : Int) := by omega
        clear hlt ht
        go_wp2_with fail
        obtain ⟨z0, z1, z2, z3, z4⟩ := (HV.out.set 0 0 0 (.slice none 0 0) (.slice none 0 0)).five
        have HBW := set5_below (g := w.heap.size + 1) (x0 := .int .i64 0) (x1 := .int .i64 0) (x2 := .int .i64 0) (x3 := .slice none 0 0) (x4 := .slice none 0 0) HB.out (by omega)
        change bodyPost _ _ _ _ _ (set5 wr (w.heap.size + 1) (.int .i64 0) (.int .i64 0) (.int .i64 0) (.slice none 0 0) (.slice none 0 0))
        generalize set5 wr (w.heap.size + 1) (.int .i64 0) (.int .i64 0) (.int .i64 0) (.slice none 0 0) (.slice none 0 0) = WX at *
        simp [bodyPost, results, Try.results13, go_sem, z0, z1, z2, z3, z4]
        exact ⟨_, rfl, IsZ.zero _ _, HBW⟩

/-- A SAMPLE's HISTOGRAM, by the document. -/
theorem rhist_any (s : SD) (aC aT aW aR : Option Addr) (cC cT cW nR cR : Nat) (col : Int) (rows : List Int) (hnR : rows.length = nR) (hn2 : nR ≤ 1048576) (w : World) (hS : HoldsS s aC aT aW w) (hrow : HoldsE KN w aR rows) :
    Calls Try.prog 13 #[.agg (smpA s.k s.c s.b s.t s.d s.l s.p s.r s.q (.slice aC s.C.length cC) (.slice aT s.T.length cT) (.slice aW s.W.length cW)), .int .i64 col, .slice aR nR cR] w fun e w' => MadeZ (histF s col rows).1 (histF s col rows).2 w e w' := by
  by_cases h : (col < 0 ∨ s.q ≤ col) ∨ rightS s = false
  · rw [show histF s col rows = (zD, 8) from if_pos h]
    exact rhist_no s aC aT aW aR cC cT cW nR cR col w h
  · rw [show histF s col rows = rowsF s col.toNat rows (zeroH s.k (s.b + 1) s.c) from if_neg h]
    have h1 : rightS s = true := by
      cases hh : rightS s
      · exact absurd (.inr hh) h
      · rfl
    obtain ⟨c, rfl⟩ : ∃ c : Nat, col = (c : Int) := ⟨col.toNat, by omega⟩
    exact rhist_yes s aC aT aW aR cC cT cW nR cR c rows hnR hn2 w hS hrow h1 (by omega) _ _ rfl
end Go.Proofs.Ytebdlmjpgohngaa
