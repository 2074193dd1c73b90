/-
  HISTOGRAMS: the document's Merge and Less. Conditions: each number is of 64 bits with a sign; no more than 2^20 of them.
-/
import Derived.Test.YtdpcplhmnpglgaaHisU
import Derived.Test.YtdpcplhmnpglgaaHisO
namespace Go.Proofs.Ytdpcplhmnpglgaa
open Go.RowKit

/-- Two are read, one of the call's own is written. -/
structure St (a b : HD) (ac : Option Addr) (cc : Nat) (am : Option Addr) (cm : Nat) (bc : Option Addr) (bcc : Nat) (bm : Option Addr) (bcm : Nat) (nc nm : Nat) (vA vB vR vO g m co mo : Nat) (C M : List Int) (w0 w : World) : Prop where
  A : VarH vA a.k a.b a.c (.slice ac nc cc) (.slice am nm cm) w
  B : VarH vB b.k b.b b.c (.slice bc nc bcc) (.slice bm nm bcm) w
  R : VarH vR 0 0 0 (.slice none 0 0) (.slice none 0 0) w
  O : VarH vO a.k a.b a.c (.slice (some ⟨g, 0, none⟩) nc co) (.slice (some ⟨m, 0, none⟩) nm mo) w
  G : Lst KL g 0 C w
  M : Lst KL m 0 M w
  W : Below w0.heap.size w0 w
section
variable {a b : HD} {ac : Option Addr} {cc : Nat} {am : Option Addr} {cm : Nat} {bc : Option Addr} {bcc : Nat} {bm : Option Addr} {bcm : Nat} {nc nm : Nat} {vA vB vR vO g m co mo : Nat} {C M : List Int} {w0 w w' : World}
theorem St.below (h : St a b ac cc am cm bc bcc bm bcm nc nm vA vB vR vO g m co mo C M w0 w) (k : Below w.heap.size w w') : St a b ac cc am cm bc bcc bm bcm nc nm vA vB vR vO g m co mo C M w0 w' :=
  ⟨h.A.below k h.A.lt, h.B.below k h.B.lt, h.R.below k h.R.lt, h.O.below k h.O.lt, h.G.below k h.G.lt, h.M.below k h.M.lt, h.W.trans (k.mono h.W.size)⟩
theorem St.drew (h : St a b ac cc am cm bc bcc bm bcm nc nm vA vB vR vO g m co mo C M w0 w) : St a b ac cc am cm bc bcc bm bcm nc nm vA vB vR vO g m co mo C M w0 w.drew :=
  ⟨h.A.drew, h.B.drew, h.R.drew, h.O.drew, h.G.drew, h.M.drew, h.W.drew⟩
theorem St.drewN (h : St a b ac cc am cm bc bcc bm bcm nc nm vA vB vR vO g m co mo C M w0 w) (n : Nat) : St a b ac cc am cm bc bcc bm bcm nc nm vA vB vR vO g m co mo C M w0 (w.drewN n) :=
  ⟨h.A.drewN n, h.B.drewN n, h.R.drewN n, h.O.drewN n, h.G.drewN n, h.M.drewN n, drawB h.W n⟩
/-- The blocks are apart. -/
structure Far (vA vB vR vO g m : Nat) (w0 : World) : Prop where
  g0 : w0.heap.size ≤ g
  m0 : w0.heap.size ≤ m
  r0 : w0.heap.size ≤ vR
  ag : vA ≠ g
  bg : vB ≠ g
  rg : vR ≠ g
  og : vO ≠ g
  am : vA ≠ m
  bm : vB ≠ m
  rm : vR ≠ m
  om : vO ≠ m
  gm : g ≠ m
theorem St.setG (h : St a b ac cc am cm bc bcc bm bcm nc nm vA vB vR vO g m co mo C M w0 w) (f : Far vA vB vR vO g m w0) (j : Nat) (x : Int) (hj : j < C.length) : St a b ac cc am cm bc bcc bm bcm nc nm vA vB vR vO g m co mo (C.set j x) M w0 (w.setCell ⟨g, j, none⟩ (.int .i64 x)) := by
  have hb := But.setCell g j w (.int .i64 x)
  have hs := h.G.set j x hj
  rw [Nat.zero_add] at hs
  exact ⟨h.A.but hb f.ag, h.B.but hb f.bg, h.R.but hb f.rg, h.O.but hb f.og, hs, h.M.but hb (Ne.symm f.gm), h.W.trans (hb.below f.g0 h.W.size)⟩
theorem St.setM (h : St a b ac cc am cm bc bcc bm bcm nc nm vA vB vR vO g m co mo C M w0 w) (f : Far vA vB vR vO g m w0) (j : Nat) (x y z : Int) (hj : j * 3 + 2 < M.length) : St a b ac cc am cm bc bcc bm bcm nc nm vA vB vR vO g m co mo C (((M.set (j * 3) x).set (j * 3 + 1) y).set (j * 3 + 2) z) w0 (set3 w m (j * 3) (.int .i64 x) (.int .i64 y) (.int .i64 z)) := by
  have hb := set3_but (b := m) (o := j * 3) (x := .int .i64 x) (y := .int .i64 y) (z := .int .i64 z) w
  have hs := h.M.set3 j hj x y z
  rw [Nat.zero_add] at hs
  exact ⟨h.A.but hb f.am, h.B.but hb f.bm, h.R.but hb f.rm, h.O.but hb f.om, h.G.but hb f.gm, hs, h.W.trans (hb.below f.m0 h.W.size)⟩
end

/-- Four cells that are read. -/
structure C4 (b1 o1 b2 o2 b3 o3 b4 o4 : Nat) (v1 v2 v3 v4 : Value) (w : World) : Prop where
  l1 : b1 < w.heap.size
  l2 : b2 < w.heap.size
  l3 : b3 < w.heap.size
  l4 : b4 < w.heap.size
  c1 : w.cell? ⟨b1, o1, none⟩ = some v1
  c2 : w.cell? ⟨b2, o2, none⟩ = some v2
  c3 : w.cell? ⟨b3, o3, none⟩ = some v3
  c4 : w.cell? ⟨b4, o4, none⟩ = some v4
theorem C4.below {b1 o1 b2 o2 b3 o3 b4 o4 : Nat} {v1 v2 v3 v4 : Value} {w w' : World} (h : C4 b1 o1 b2 o2 b3 o3 b4 o4 v1 v2 v3 v4 w) (k : Below w.heap.size w w') : C4 b1 o1 b2 o2 b3 o3 b4 o4 v1 v2 v3 v4 w' :=
  ⟨Nat.lt_of_lt_of_le h.l1 k.size, Nat.lt_of_lt_of_le h.l2 k.size, Nat.lt_of_lt_of_le h.l3 k.size, Nat.lt_of_lt_of_le h.l4 k.size, (k.cell (by exact h.l1)).trans h.c1, (k.cell (by exact h.l2)).trans h.c2, (k.cell (by exact h.l3)).trans h.c3, (k.cell (by exact h.l4)).trans h.c4⟩
theorem C4.drew {b1 o1 b2 o2 b3 o3 b4 o4 : Nat} {v1 v2 v3 v4 : Value} {w : World} (h : C4 b1 o1 b2 o2 b3 o3 b4 o4 v1 v2 v3 v4 w) : C4 b1 o1 b2 o2 b3 o3 b4 o4 v1 v2 v3 v4 w.drew := ⟨h.l1, h.l2, h.l3, h.l4, h.c1, h.c2, h.c3, h.c4⟩
theorem C4.cells {b1 o1 b2 o2 b3 o3 b4 o4 : Nat} {v1 v2 v3 v4 : Value} {w : World} (h : C4 b1 o1 b2 o2 b3 o3 b4 o4 v1 v2 v3 v4 w) : w.cell? ⟨b1, o1, none⟩ = some v1 ∧ w.cell? ⟨b2, o2, none⟩ = some v2 ∧ w.cell? ⟨b3, o3, none⟩ = some v3 ∧ w.cell? ⟨b4, o4, none⟩ = some v4 := ⟨h.c1, h.c2, h.c3, h.c4⟩
/-- Two variables and two moments that are read. -/
structure X8 (vA vB : Nat) (M N : Value) (ga oa gb ob : Nat) (x0 x1 x2 y0 y1 y2 : Int) (w : World) : Prop where
  x : X6 ga oa gb ob x0 x1 x2 y0 y1 y2 w
  l1 : vA < w.heap.size
  l2 : vB < w.heap.size
  c1 : w.cell? ⟨vA, 4, none⟩ = some M
  c2 : w.cell? ⟨vB, 4, none⟩ = some N
section
variable {vA vB : Nat} {M N : Value} {ga oa gb ob : Nat} {x0 x1 x2 y0 y1 y2 : Int} {w w' : World}
theorem X8.below (h : X8 vA vB M N ga oa gb ob x0 x1 x2 y0 y1 y2 w) (k : Below w.heap.size w w') : X8 vA vB M N ga oa gb ob x0 x1 x2 y0 y1 y2 w' :=
  ⟨h.x.below k, Nat.lt_of_lt_of_le h.l1 k.size, Nat.lt_of_lt_of_le h.l2 k.size, (k.cell (by exact h.l1)).trans h.c1, (k.cell (by exact h.l2)).trans h.c2⟩
theorem X8.alloc (h : X8 vA vB M N ga oa gb ob x0 x1 x2 y0 y1 y2 w) (o : Obj) : X8 vA vB M N ga oa gb ob x0 x1 x2 y0 y1 y2 (w.alloc o) := h.below (alloc_below w o)
theorem X8.drew (h : X8 vA vB M N ga oa gb ob x0 x1 x2 y0 y1 y2 w) : X8 vA vB M N ga oa gb ob x0 x1 x2 y0 y1 y2 w.drew := ⟨h.x.drew, h.l1, h.l2, h.c1, h.c2⟩
theorem X8.set {m : Nat} (h : X8 vA vB M N ga oa gb ob x0 x1 x2 y0 y1 y2 w) (ha : ga ≠ m) (hb : gb ≠ m) (h1 : vA ≠ m) (h2 : vB ≠ m) (o : Nat) (v : Value) : X8 vA vB M N ga oa gb ob x0 x1 x2 y0 y1 y2 (w.setCell ⟨m, o, none⟩ v) :=
  ⟨h.x.set ha hb o v, Nat.lt_of_lt_of_le h.l1 (But.setCell m o w v).size, Nat.lt_of_lt_of_le h.l2 (But.setCell m o w v).size, ((But.setCell m o w v).cell (by exact h.l1) (by exact h1)).trans h.c1, ((But.setCell m o w v).cell (by exact h.l2) (by exact h2)).trans h.c2⟩
theorem X8.cells (h : X8 vA vB M N ga oa gb ob x0 x1 x2 y0 y1 y2 w) : (w.cell? ⟨vA, 4, none⟩ = some M ∧ w.cell? ⟨vB, 4, none⟩ = some N) ∧ ((w.cell? ⟨ga, oa, none⟩ = some (.int .i64 x0) ∧ w.cell? ⟨ga, oa + 1, none⟩ = some (.int .i64 x1) ∧ w.cell? ⟨ga, oa + 2, none⟩ = some (.int .i64 x2)) ∧ (w.cell? ⟨gb, ob, none⟩ = some (.int .i64 y0) ∧ w.cell? ⟨gb, ob + 1, none⟩ = some (.int .i64 y1) ∧ w.cell? ⟨gb, ob + 2, none⟩ = some (.int .i64 y2))) := ⟨⟨h.c1, h.c2⟩, h.x.cells⟩
end


set_option maxRecDepth 20000 in
set_option maxHeartbeats 4000000 in
theorem rmerge_any (a a' : HD) (ac am ac' am' : Option Addr) (nc cc nm cm nc' cc' nm' cm' : Nat) (w : World) (h : Reads a ac nc am nm w) (h' : Reads a' ac' nc' am' nm' w) (z1 : ac = none → cc = 0) (z2 : am = none → cm = 0) :
    Calls Try.prog 19 #[.agg #[.int .i64 a.k, .int .i64 a.b, .int .i64 a.c, .slice ac nc cc, .slice am nm cm], .agg #[.int .i64 a'.k, .int .i64 a'.b, .int .i64 a'.c, .slice ac' nc' cc', .slice am' nm' cm']] w fun e w' =>
      Made (bothD plusW a a') (bothE plusW a a') w e w' := by
  have rL := fun w1 => like_any a a' ac am ac' am' nc cc nm cm nc' cc' nm' cm' w w1 h h'
  have bA := VarH.new w a.k a.b a.c (.slice ac nc cc) (.slice am nm cm) 29
  obtain ⟨W1, hW1⟩ : ∃ W1, w.alloc (.cells #[.int .i64 a.k, .int .i64 a.b, .int .i64 a.c, .slice ac nc cc, .slice am nm cm] 29) = W1 := ⟨_, rfl⟩
  rw [hW1] at bA
  have s1 : W1.heap.size = w.heap.size + 1 := by rw [← hW1]; simp
  have bB := VarH.new W1 a'.k a'.b a'.c (.slice ac' nc' cc') (.slice am' nm' cm') 29
  obtain ⟨W2, hW2⟩ : ∃ W2, W1.alloc (.cells #[.int .i64 a'.k, .int .i64 a'.b, .int .i64 a'.c, .slice ac' nc' cc', .slice am' nm' cm'] 29) = W2 := ⟨_, rfl⟩
  rw [hW2, s1] at bB
  have s2 : W2.heap.size = w.heap.size + 1 + 1 := by rw [← hW2]; simp [s1]
  have bR := VarH.new W2 0 0 0 (.slice none 0 0) (.slice none 0 0) 29
  obtain ⟨W3, hW3⟩ : ∃ W3, W2.alloc (.cells #[.int .i64 0, .int .i64 0, .int .i64 0, .slice none 0 0, .slice none 0 0] 29) = W3 := ⟨_, rfl⟩
  rw [hW3, s2] at bR
  have s3 : W3.heap.size = w.heap.size + 1 + 1 + 1 := by rw [← hW3]; simp [s2]
  replace bB := bB.below (hW3 ▸ alloc_below W2 _) (by omega)
  replace bA := (bA.below (hW2 ▸ alloc_below W1 _) (by omega)).below (hW3 ▸ alloc_below W2 _) (by omega)
  have hB0 : Below w.heap.size w W3 := by
    have := alloc3_below w (.cells #[.int .i64 a.k, .int .i64 a.b, .int .i64 a.c, .slice ac nc cc, .slice am nm cm] 29) (.cells #[.int .i64 a'.k, .int .i64 a'.b, .int .i64 a'.c, .slice ac' nc' cc', .slice am' nm' cm'] 29) (.cells #[.int .i64 0, .int .i64 0, .int .i64 0, .slice none 0 0, .slice none 0 0] 29)
    rw [hW1, hW2, hW3] at this
    exact this
  go_enter Try.func19, Try.ntmps19
  go_upto_region 1 with fail
  clear hW1 hW2 hW3 s1 s2
  obtain ⟨a0, a1, a2, a3, a4⟩ := bA.five
  obtain ⟨b0, b1, b2, b3, b4⟩ := bB.five
  have HS3 := Lib.hid s3
  clear s3
  go_wp2_with fail
  refine (rL _).mono ?_
  rintro e W4 ⟨rfl, c4⟩
  replace bA := bA.below c4 bA.lt
  replace bB := bB.below c4 bB.lt
  replace bR := bR.below c4 bR.lt
  replace hB0 := hB0.trans (c4.mono hB0.size)
  have s4 : w.heap.size + 1 + 1 + 1 ≤ W4.heap.size := by have := c4.size; have := HS3.out; omega
  clear a0 a1 a2 a3 a4 b0 b1 b2 b3 b4 c4 HS3 rL W1 W2 W3
  cases hl : likeD a a'
  · have HE : Hid (bothE plusW a a' = 8) := if_pos hl
    have HD : Hid (bothD plusW a a' = zD) := if_neg (by rw [HE.out]; decide)
    obtain ⟨r0, r1, r2, r3, r4⟩ := bR.five
    obtain ⟨k0, k1, k2, k3, k4⟩ := bR.soft
    clear hl bA bB
    go_wp2_with fail
    obtain ⟨d0, d1, d2, d3, d4⟩ := (bR.set 0 0 0 (.slice none 0 0) (.slice none 0 0)).five
    have HBW := set5_below (g := w.heap.size + 1 + 1) (x0 := .int .i64 0) (x1 := .int .i64 0) (x2 := .int .i64 0) (x3 := .slice none 0 0) (x4 := .slice none 0 0) hB0 (by omega)
    change bodyPost _ _ _ _ _ (set5 W4 (w.heap.size + 1 + 1) (.int .i64 0) (.int .i64 0) (.int .i64 0) (.slice none 0 0) (.slice none 0 0))
    generalize set5 W4 (w.heap.size + 1 + 1) (.int .i64 0) (.int .i64 0) (.int .i64 0) (.slice none 0 0) (.slice none 0 0) = WX at *
    simp [bodyPost, results, Try.results19, go_sem, d0, d1, d2, d3, d4]
    rw [HE.out, HD.out]
    exact ⟨_, rfl, Is.zero _ _, HBW⟩
  · obtain ⟨hr, hr', hk, hb, hc⟩ := likeD_true hl
    obtain ⟨p0, p1, p2⟩ := rightD_true hr
    obtain ⟨p0', p1', p2'⟩ := rightD_true hr'
    rw [← hk, ← hb, ← hc] at p0' p1' p2'
    have in1 := lenC_in a.k a.b a.c
    have in2 := lenM_in a.k a.b a.c
    have n1 := h.nc
    have n2 := h.nm
    have n3 := h'.nc
    have n4 := h'.nm
    obtain rfl : nc' = nc := by omega
    obtain rfl : nm' = nm := by omega
    have HN1 : Hid (nc' ≤ 1048576) := by show _ ≤ _; omega
    have HN2 : Hid (nm' ≤ 1048576) := by show _ ≤ _; omega
    have HL : Hid ((a.lc.length = nc' ∧ a'.lc.length = nc') ∧ a.lm.length = nm' * 3 ∧ a'.lm.length = nm' * 3) := by show _ ∧ _; omega
    have HE1 : Hid (Ways.ec plusW a a' ≠ 0 → bothE plusW a a' = Ways.ec plusW a a') := by
      intro h0
      unfold bothE; rw [if_neg (by rw [hl]; decide), if_neg h0]
    have HE2 : Hid (Ways.ec plusW a a' = 0 → bothE plusW a a' = Ways.em plusW a a') := by
      intro h0
      unfold bothE; rw [if_neg (by rw [hl]; decide), if_pos h0]
    have hcp := fun w1 (b : Below w.heap.size w w1) => copy_any a ac am nc' cc nm' cm w1 (h.below b) z1 z2 HN1.out HN2.out
    have HH := Lib.hid h
    have HH' := Lib.hid h'
    clear p0 p1 p2 p0' p1' p2' in1 in2 n1 n2 n3 n4 hl hr hr' hk hb hc z1 z2 h h'
    have HS4 := Lib.hid s4
    clear s4
    obtain ⟨a0, a1, a2, a3, a4⟩ := bA.five
    have hcp := hcp W4 hB0
    go_wp2_with fail
    refine hcp.mono ?_
    rintro e W5 ⟨g, m, nm2, co, mo, rfl, hnm2, hco, hmo, L1, L2, hg, hgm, c5⟩
    obtain rfl : nm2 = nm' := by have := HL.out; omega
    rw [HL.out.1.1]
    have hA5 := bA.below c5 bA.lt
    have hB5 := bB.below c5 bB.lt
    have hR5 := bR.below c5 bR.lt
    have hW5 := hB0.trans (c5.mono hB0.size)
    have bO := VarH.new W5 a.k a.b a.c (.slice (some ⟨g, 0, none⟩) nc' co) (.slice (some ⟨m, 0, none⟩) nm2 mo) 29
    have hOlt := L2.lt
    clear a0 a1 a2 a3 a4 hcp
    replace hA5 := Lib.hid hA5
    replace hB5 := Lib.hid hB5
    replace hR5 := Lib.hid hR5
    replace hW5 := Lib.hid hW5
    replace L1 := Lib.hid L1
    replace L2 := Lib.hid L2
    have HFAR : Hid (Far w.heap.size (w.heap.size + 1) (w.heap.size + 1 + 1) W5.heap.size g m w) := by
      have := HS4.out
      exact ⟨by omega, by omega, by omega, by omega, by omega, by omega, by omega, by omega, by omega, by omega, by omega, by omega⟩
    have HSM : Hid (nc' ≤ co ∧ nm2 ≤ mo) := by show _ ∧ _; rw [HL.out.1.1] at hco; omega
    clear hg hgm hOlt hnm2 hco hmo bA bB bR hB0 c5 HS4
    go_upto_region 4 with fail
    have c6 := alloc_below W5 (.cells #[.int .i64 a.k, .int .i64 a.b, .int .i64 a.c, .slice (some ⟨g, 0, none⟩) nc' co, .slice (some ⟨m, 0, none⟩) nm2 mo] 29)
    obtain ⟨W6, hW6⟩ : ∃ W6, W5.alloc (.cells #[.int .i64 a.k, .int .i64 a.b, .int .i64 a.c, .slice (some ⟨g, 0, none⟩) nc' co, .slice (some ⟨m, 0, none⟩) nm2 mo] 29) = W6 := ⟨_, rfl⟩
    rw [hW6] at bO c6 ⊢
    obtain ⟨vO, hvO⟩ : ∃ v, W5.heap.size = v := ⟨_, rfl⟩
    have st0 : Hid (St a a' ac cc am cm ac' cc' am' cm' nc' nm2 w.heap.size (w.heap.size + 1) (w.heap.size + 1 + 1) W5.heap.size g m co mo a.lc a.lm w W6) :=
      ⟨hA5.out.below c6 hA5.out.lt, hB5.out.below c6 hB5.out.lt, hR5.out.below c6 hR5.out.lt, bO, L1.out.below c6 L1.out.lt, L2.out.below c6 L2.out.lt, hW5.out.trans (c6.mono hW5.out.size)⟩
    rw [hvO] at st0 HFAR ⊢
    clear hvO hW6 bO c6 hA5 hB5 hR5 hW5 L1 L2 W4 W5
    obtain ⟨vA, hvA⟩ : ∃ v, w.heap.size = v := ⟨_, rfl⟩
    have HVA := Lib.hid hvA
    rw [hvA] at st0 HFAR ⊢
    clear hvA
    obtain ⟨vB, hvB⟩ : ∃ v, vA + 1 = v := ⟨_, rfl⟩
    obtain ⟨vR, hvR⟩ : ∃ v, vA + 1 + 1 = v := ⟨_, rfl⟩
    rw [hvR, hvB] at st0 HFAR
    rw [hvR, hvB]
    clear hvB hvR
    go_wp2_with fail
    go_loopw [7] (fun iv wr => ∃ j : Nat, j ≤ nc' ∧ iv = .int .i64 j ∧ Hid (St a a' ac cc am cm ac' cc' am' cm' nc' nm2 vA vB vR vO g m co mo (mixL (fun j => plV (a.lc.getD j 0) (a'.lc.getD j 0)) a.lc j) a.lm w wr) ∧ Hid (∀ i, i < j → plE (a.lc.getD i 0) (a'.lc.getD i 0) = 0)) (fun iv _ => nc' - (intOf iv).toNat)
    case atStart => exact ⟨0, by omega, rfl, st0.out, fun i h => by omega⟩
    case round =>
      obtain ⟨j, hj, rfl, HST, HZ⟩ := hrel
      obtain ⟨a0, a1, a2, a3, a4⟩ := HST.out.A.five
      by_cases hlt : j < nc'
      · have i1 : (j : Int) < (nc' : Int) := by omega
        have HLT := Lib.hid hlt
        have HJ := Lib.hid hj
        obtain ⟨ga, oa, rfl, hga, cX⟩ := (HH.out.below HST.out.W).hc.cells (by have := HL.out; omega)
        obtain ⟨gb, ob, rfl, hgb, cY⟩ := (HH'.out.below HST.out.W).hc.cells (by have := HL.out; omega)
        have q0 : C4 vA 3 vB 3 ga (oa + j) gb (ob + j) _ _ _ _ wr := ⟨HST.out.A.lt, HST.out.B.lt, hga, hgb, HST.out.A.c3, HST.out.B.c3, cX j (by have := HL.out; omega), cY j (by have := HL.out; omega)⟩
        have hwx := HH.out.wc j (by have := HL.out; omega)
        have hwy := HH'.out.wc j (by have := HL.out; omega)
        have hcall := fun w => refP (a.lc.getD j 0) (a'.lc.getD j 0) hwx hwy w
        have HVJ : Hid (∀ v, plV (a.lc.getD j 0) (a'.lc.getD j 0) = v → (mixL (fun j => plV (a.lc.getD j 0) (a'.lc.getD j 0)) a.lc j).set j v = mixL (fun j => plV (a.lc.getD j 0) (a'.lc.getD j 0)) a.lc (j + 1)) := by rintro v rfl; rfl
        have HZJ : Hid (plE (a.lc.getD j 0) (a'.lc.getD j 0) = 0 → ∀ i, i < j + 1 → plE (a.lc.getD i 0) (a'.lc.getD i 0) = 0) := by
          intro he i hi
          by_cases q : i < j
          · exact HZ.out i q
          · obtain rfl : i = j := by omega
            exact he
        have HRJ : Hid (∀ e, plE (a.lc.getD j 0) (a'.lc.getD j 0) = e → e ≠ 0 → bothE plusW a a' = e ∧ bothD plusW a a' = zD) := by
          intro e he h0
          have hr : Ran (fun j => Ways.E plusW (a.lc.getD j 0) (a'.lc.getD j 0)) nc' j e := ⟨hj, HZ.out, .inr ⟨hlt, he, h0⟩⟩
          have h1 : Ways.ec plusW a a' = e := by unfold Ways.ec; rw [HL.out.1.1]; exact hr.first.symm
          have h2 : bothE plusW a a' = e := (HE1.out (by rw [h1]; exact h0)).trans h1
          exact ⟨h2, if_neg (by rw [h2]; exact h0)⟩
        clear cX cY hga hgb hwx hwy hj hlt
        generalize a.lc.getD j 0 = x at *
        generalize a'.lc.getD j 0 = y at *
        have i2 : (j : Int) < (nc' : Int) := i1
        go_upto_region 7 with fail
        clear a0 a1 a2 a3 a4
        have q1 := q0.drew
        have st1 := Lib.hid HST.out.drew
        go_region_held3 (fun w' => w'.cell? ⟨vA, 3, none⟩ = some (.slice (some ⟨ga, oa, none⟩) nc' cc) ∧ w'.cell? ⟨vB, 3, none⟩ = some (.slice (some ⟨gb, ob, none⟩) nc' cc') ∧ w'.cell? ⟨ga, oa + j, none⟩ = some (.int .i64 x) ∧ w'.cell? ⟨gb, ob + j, none⟩ = some (.int .i64 y)) (first | exact q1.cells | exact q0.cells)
          ((go_at_call 31; refine (hcall _).mono ?_; rintro e w' ⟨rfl, cc9⟩; replace q1 := q1.below cc9; replace st1 := Lib.hid (st1.out.below cc9); clear cc9))
        clear q0 q1 hcall HST
        obtain ⟨v, HVV⟩ : ∃ v, Hid (plV x y = v) := ⟨_, rfl⟩
        obtain ⟨ee, HEE⟩ : ∃ v, Hid (plE x y = v) := ⟨_, rfl⟩
        rw [HVV.out, HEE.out]
        by_cases he : ee = 0
        · have HX2 := Lib.hid (HZJ.out (HEE.out.trans he))
          subst he
          have HLj : Hid (j < (mixL (fun j => plV (a.lc.getD j 0) (a'.lc.getD j 0)) a.lc j).length) := by
            show _ < _
            rw [mixL_len]
            have := HL.out
            have := HLT.out
            omega
          have d0 := st1.out.G.cell j HLj.out
          have f0 := st1.out.G.frozen j HLj.out
          rw [Nat.zero_add] at d0 f0
          have o3 := st1.out.O.c3
          have st2 := Lib.hid (st1.out.setG HFAR.out j v HLj.out)
          rw [HVJ.out _ HVV.out] at st2
          clear HZ HZJ HRJ HVJ
          go_wp2_with fail
          go_roundw
          case rel => exact ⟨j + 1, HLT.out, (by first | exact congrArg (Value.int .i64) (next_num HLT.out HN1.out).1 | exact congrArg (Value.int .i64) (Int.natCast_succ j).symm), st2.out, HX2.out⟩
          case measure => first | exact (next_num HLT.out HN1.out).2 | (have := HLT.out; simp only [intOf]; omega)
        · obtain ⟨hE, hD⟩ := HRJ.out _ HEE.out he
          have gb1 : (ee != 0) = true := by simpa using he
          clear he
          have HE := Lib.hid hE
          have HD := Lib.hid hD
          obtain ⟨r0, r1, r2, r3, r4⟩ := st1.out.R.five
          obtain ⟨k0, k1, k2, k3, k4⟩ := st1.out.R.soft
          clear HZ HZJ HRJ HVJ hE hD
          go_wp2_with fail
          obtain ⟨d0, d1, d2, d3, d4⟩ := (st1.out.R.set 0 0 0 (.slice none 0 0) (.slice none 0 0)).five
          have HBW := set5_below (g := vR) (x0 := .int .i64 0) (x1 := .int .i64 0) (x2 := .int .i64 0) (x3 := (.slice none 0 0)) (x4 := (.slice none 0 0)) st1.out.W HFAR.out.r0
          change bodyPost _ _ _ _ _ (set5 _ vR (.int .i64 0) (.int .i64 0) (.int .i64 0) (.slice none 0 0) (.slice none 0 0))
          generalize set5 _ vR (.int .i64 0) (.int .i64 0) (.int .i64 0) (.slice none 0 0) (.slice none 0 0) = WX at *
          simp [bodyPost, results, Try.results19, go_sem, d0, d1, d2, d3, d4]
          rw [HE.out, HD.out]
          exact ⟨_, rfl, Is.zero _ _, HBW⟩
      · obtain rfl : nc' = j := by omega
        have HEC : Hid (Ways.ec plusW a a' = 0) := by
          show _ = _
          unfold Ways.ec; rw [HL.out.1.1]; exact firstE_zero.2 HZ.out
        have HLC : Hid (mixL (fun j => plV (a.lc.getD j 0) (a'.lc.getD j 0)) a.lc nc' = Ways.lc plusW a a') := by
          show _ = _
          unfold Ways.lc
          rw [mixL_all _ _ HL.out.1.1, HL.out.1.1]; rfl
        rw [HLC.out] at HST
        have HE3 := Lib.hid (HE2.out HEC.out)
        clear HZ HLC hlt hj
        go_upto_region 11 with fail
        clear a0 a1 a2 a3 a4
        go_wp2_with fail
        go_loopw [10] (fun iv wr => ∃ j : Nat, j ≤ nm2 ∧ iv = .int .i64 j ∧ Hid (St a a' ac cc am cm ac' cc' am' cm' nc' nm2 vA vB vR vO g m co mo (Ways.lc plusW a a') (mixL (mmV plV plV plV (fun j => a.lm.getD j 0) (fun j => a'.lm.getD j 0)) a.lm (j * 3)) w wr) ∧ Hid (∀ i, i < j → mmE plE plE plE (fun j => a.lm.getD j 0) (fun j => a'.lm.getD j 0) i = 0)) (fun iv _ => nm2 - (intOf iv).toNat)
        case atStart => exact ⟨0, by omega, rfl, HST.out, fun i h => by omega⟩
        case round =>
          obtain ⟨j, hj, rfl, HST, HZ⟩ := hrel
          obtain ⟨a0, a1, a2, a3, a4⟩ := HST.out.A.five
          by_cases hlt : j < nm2
          · have i1 : (j : Int) < (nm2 : Int) := by omega
            have HLT := Lib.hid hlt
            have HJ := Lib.hid hj
            obtain ⟨ga, oa, rfl, hga, cX⟩ := (HH.out.below HST.out.W).hm.cells (by have := HL.out; omega)
            obtain ⟨gb, ob, rfl, hgb, cY⟩ := (HH'.out.below HST.out.W).hm.cells (by have := HL.out; omega)
            have q0 : X8 vA vB _ _ ga (oa + j * 3) gb (ob + j * 3) _ _ _ _ _ _ wr := ⟨⟨⟨hga, cX (j * 3) (by have := HL.out; omega), by rw [Nat.add_assoc]; exact cX (j * 3 + 1) (by have := HL.out; omega), by rw [Nat.add_assoc]; exact cX (j * 3 + 2) (by have := HL.out; omega)⟩, ⟨hgb, cY (j * 3) (by have := HL.out; omega), by rw [Nat.add_assoc]; exact cY (j * 3 + 1) (by have := HL.out; omega), by rw [Nat.add_assoc]; exact cY (j * 3 + 2) (by have := HL.out; omega)⟩⟩, HST.out.A.lt, HST.out.B.lt, HST.out.A.c4, HST.out.B.c4⟩
            have hcall := fun w => rmplus_any (a.lm.getD (j * 3) 0) (a.lm.getD (j * 3 + 1) 0) (a.lm.getD (j * 3 + 2) 0) (a'.lm.getD (j * 3) 0) (a'.lm.getD (j * 3 + 1) 0) (a'.lm.getD (j * 3 + 2) 0) w (HH.out.wm _ (by have := HL.out; omega)) (HH.out.wm _ (by have := HL.out; omega)) (HH.out.wm _ (by have := HL.out; omega)) (HH'.out.wm _ (by have := HL.out; omega)) (HH'.out.wm _ (by have := HL.out; omega)) (HH'.out.wm _ (by have := HL.out; omega))
            have HEQ : Hid (or3 (plE (a.lm.getD (j * 3) 0) (a'.lm.getD (j * 3) 0)) (plE (a.lm.getD (j * 3 + 1) 0) (a'.lm.getD (j * 3 + 1) 0)) (plE (a.lm.getD (j * 3 + 2) 0) (a'.lm.getD (j * 3 + 2) 0)) = mmE plE plE plE (fun j => a.lm.getD j 0) (fun j => a'.lm.getD j 0) j) := rfl
            rw [HEQ.out] at hcall
            have HVJ : Hid ((((mixL (mmV plV plV plV (fun j => a.lm.getD j 0) (fun j => a'.lm.getD j 0)) a.lm (j * 3)).set (j * 3) (plV (a.lm.getD (j * 3) 0) (a'.lm.getD (j * 3) 0))).set (j * 3 + 1) (plV (a.lm.getD (j * 3 + 1) 0) (a'.lm.getD (j * 3 + 1) 0))).set (j * 3 + 2) (plV (a.lm.getD (j * 3 + 2) 0) (a'.lm.getD (j * 3 + 2) 0)) = mixL (mmV plV plV plV (fun j => a.lm.getD j 0) (fun j => a'.lm.getD j 0)) a.lm ((j + 1) * 3)) := by
              show _ = _
              rw [← mixL_3, mmV_0, mmV_1, mmV_2]
            have HZJ : Hid (mmE plE plE plE (fun j => a.lm.getD j 0) (fun j => a'.lm.getD j 0) j = 0 → ∀ i, i < j + 1 → mmE plE plE plE (fun j => a.lm.getD j 0) (fun j => a'.lm.getD j 0) i = 0) := by
              intro he i hi
              by_cases q : i < j
              · exact HZ.out i q
              · obtain rfl : i = j := by omega
                exact he
            have HRJ : Hid (mmE plE plE plE (fun j => a.lm.getD j 0) (fun j => a'.lm.getD j 0) j ≠ 0 → bothE plusW a a' = mmE plE plE plE (fun j => a.lm.getD j 0) (fun j => a'.lm.getD j 0) j ∧ bothD plusW a a' = zD) := by
              intro h0
              have hr : Ran (mmE plE plE plE (fun j => a.lm.getD j 0) (fun j => a'.lm.getD j 0)) nm2 j _ := ⟨hj, HZ.out, .inr ⟨hlt, rfl, h0⟩⟩
              have h1 : Ways.em plusW a a' = mmE plE plE plE (fun j => a.lm.getD j 0) (fun j => a'.lm.getD j 0) j := by unfold Ways.em; rw [HL.out.2.1, Nat.mul_div_cancel _ (by decide)]; exact hr.first.symm
              have h2 := HE3.out.trans h1
              exact ⟨h2, if_neg (by rw [h2]; exact h0)⟩
            clear cX cY hga hgb hj hlt HEQ
            generalize mmE plE plE plE (fun j => a.lm.getD j 0) (fun j => a'.lm.getD j 0) j = ee at *
            generalize plV (a.lm.getD (j * 3) 0) (a'.lm.getD (j * 3) 0) = t0 at *
            generalize plV (a.lm.getD (j * 3 + 1) 0) (a'.lm.getD (j * 3 + 1) 0) = t1 at *
            generalize plV (a.lm.getD (j * 3 + 2) 0) (a'.lm.getD (j * 3 + 2) 0) = t2 at *
            generalize a.lm.getD (j * 3) 0 = x0 at *
            generalize a.lm.getD (j * 3 + 1) 0 = x1 at *
            generalize a.lm.getD (j * 3 + 2) 0 = x2 at *
            generalize a'.lm.getD (j * 3) 0 = y0 at *
            generalize a'.lm.getD (j * 3 + 1) 0 = y1 at *
            generalize a'.lm.getD (j * 3 + 2) 0 = y2 at *
            go_upto_region 14 with fail
            clear a0 a1 a2 a3 a4
            go_cut [11, 12] (fun s10 s11 wx => ∃ gm : Nat, s10 = .pointer (some ⟨gm, 0, none⟩) ∧ s11 = .int .i64 ee ∧ AtM gm 0 (okV ee t0) (okV ee t1) (okV ee t2) wx ∧ wr.heap.size ≤ gm ∧ Below wr.heap.size wr wx)
            case first =>
              have na : ga ≠ wr.heap.size := by have := q0.x.a.lt; omega
              have nb : gb ≠ wr.heap.size := by have := q0.x.b.lt; omega
              have nA : vA ≠ wr.heap.size := by have := q0.l1; omega
              have nB : vB ≠ wr.heap.size := by have := q0.l2; omega
              go_region_held3 (fun w' => (w'.cell? ⟨vA, 4, none⟩ = some (.slice (some ⟨ga, oa, none⟩) nm2 cm) ∧ w'.cell? ⟨vB, 4, none⟩ = some (.slice (some ⟨gb, ob, none⟩) nm2 cm')) ∧ ((w'.cell? ⟨ga, oa + j * 3, none⟩ = some (.int .i64 x0) ∧ w'.cell? ⟨ga, oa + j * 3 + 1, none⟩ = some (.int .i64 x1) ∧ w'.cell? ⟨ga, oa + j * 3 + 2, none⟩ = some (.int .i64 x2)) ∧ (w'.cell? ⟨gb, ob + j * 3, none⟩ = some (.int .i64 y0) ∧ w'.cell? ⟨gb, ob + j * 3 + 1, none⟩ = some (.int .i64 y1) ∧ w'.cell? ⟨gb, ob + j * 3 + 2, none⟩ = some (.int .i64 y2))))
                ((refine X8.cells ?_; repeat (with_reducible (first | exact q0 | exact q9 | refine X8.alloc ?_ _ | refine X8.drew ?_ | refine X8.set ?_ na nb nA nB _ _))))
                ((go_at_call 33; refine (hcall _).mono ?_; rintro a9 w' ⟨rfl, c⟩; have q9 : X8 vA vB (.slice (some ⟨ga, oa, none⟩) nm2 cm) (.slice (some ⟨gb, ob, none⟩) nm2 cm') ga (oa + j * 3) gb (ob + j * 3) x0 x1 x2 y0 y1 y2 w' := X8.below (by (repeat (with_reducible (first | exact q0 | refine X8.alloc ?_ _ | refine X8.drew ?_)))) c; try (have mm : VarM wr.heap.size 0 0 0 w' := VarM.below (VarM.new wr 0 0 0 47).drew c; obtain ⟨⟨m9, m0, m1, m2⟩, mf0, mf1, mf2⟩ := mm)))
              · go_wp2_with fail
                go_meet
                exact ⟨_, rfl, rfl, AtM.new w' _ _ _ _, c.size, ((show Below wr.heap.size wr wr.drew from (Below.refl _ wr).drew).trans c).alloc c.size _⟩
              · go_wp2_with fail
                go_meet
                refine ⟨_, rfl, rfl, AtM.set (show AtM wr.heap.size 0 0 0 0 w' from ⟨m9, m0, m1, m2⟩), Nat.le_refl _, ?_⟩
                refine set3_below (b := wr.heap.size) (o := 0) (((Below.refl wr.heap.size wr).alloc (Nat.le_refl _) _).drew.trans (c.mono (by simp))) (Nat.le_refl _)
            case rest =>
              obtain ⟨gm, rfl, rfl, hM, hm, hW⟩ := hcut
              have HMLT : Hid (m < wr.heap.size ∧ vO < wr.heap.size) := ⟨HST.out.M.lt, HST.out.O.lt⟩
              replace HST := Lib.hid (HST.out.below hW)
              have HGM : Hid (gm ≠ m ∧ gm ≠ vO) := by
                have h1 := HMLT.out
                show _ ∧ _
                omega
              clear hcall q0 hW hm
              by_cases he : ee = 0
              · subst he
                have k0 : ∀ v, okV 0 v = v := fun v => if_pos rfl
                rw [k0, k0, k0] at hM
                have HX2 := Lib.hid (HZJ.out rfl)
                have HLj : Hid (j * 3 + 2 < (mixL (mmV plV plV plV (fun j => a.lm.getD j 0) (fun j => a'.lm.getD j 0)) a.lm (j * 3)).length) := by
                  show _ < _
                  rw [mixL_len]
                  have := HL.out
                  have := HLT.out
                  omega
                obtain ⟨_, e0, e1, e2⟩ := hM
                obtain ⟨_, d0, d1, d2⟩ := HST.out.M.atM j HLj.out
                have f0 := HST.out.M.frozen (j * 3) (by have := HLj.out; omega)
                have f1 := HST.out.M.frozen (j * 3 + 1) (by have := HLj.out; omega)
                have f2 := HST.out.M.frozen (j * 3 + 2) HLj.out
                rw [← Nat.add_assoc] at f1 f2
                rw [Nat.zero_add] at d0 d1 d2 f0 f1 f2
                have o4 := HST.out.O.c4
                have st2 := Lib.hid (HST.out.setM HFAR.out j t0 t1 t2 HLj.out)
                rw [HVJ.out] at st2
                have g1 := HGM.out.1
                have g2 := HGM.out.2
                clear HZ HZJ HRJ HVJ k0 HST
                go_wp2_with fail
                go_roundw
                case rel => exact ⟨j + 1, HLT.out, (by first | exact congrArg (Value.int .i64) (next_num HLT.out HN2.out).1 | exact congrArg (Value.int .i64) (Int.natCast_succ j).symm), st2.out, HX2.out⟩
                case measure => first | exact (next_num HLT.out HN2.out).2 | (have := HLT.out; simp only [intOf]; omega)
              · obtain ⟨hE, hD⟩ := HRJ.out he
                have HE := Lib.hid hE
                have HD := Lib.hid hD
                have gb1 : (ee != 0) = true := by simpa using he
                obtain ⟨r0, r1, r2, r3, r4⟩ := HST.out.R.five
                obtain ⟨k0, k1, k2, k3, k4⟩ := HST.out.R.soft
                clear HZ HZJ HRJ HVJ hM hE hD he
                go_wp2_with fail
                obtain ⟨d0, d1, d2, d3, d4⟩ := (HST.out.R.set 0 0 0 (.slice none 0 0) (.slice none 0 0)).five
                have HBW := set5_below (g := vR) (x0 := .int .i64 0) (x1 := .int .i64 0) (x2 := .int .i64 0) (x3 := (.slice none 0 0)) (x4 := (.slice none 0 0)) HST.out.W HFAR.out.r0
                have HBT := set5_but wc vR (.int .i64 0) (.int .i64 0) (.int .i64 0) (.slice none 0 0) (.slice none 0 0)
                change bodyPost _ _ _ _ _ (set5 wc vR (.int .i64 0) (.int .i64 0) (.int .i64 0) (.slice none 0 0) (.slice none 0 0))
                generalize set5 wc vR (.int .i64 0) (.int .i64 0) (.int .i64 0) (.slice none 0 0) (.slice none 0 0) = WX at *
                simp [bodyPost, results, Try.results19, go_sem, d0, d1, d2, d3, d4]
                rw [HE.out, HD.out]
                exact ⟨_, rfl, Is.zero _ _, HBW⟩
          · have HEM : Hid (Ways.em plusW a a' = 0) := by
              have hjn : j = nm2 := by omega
              show _ = _
              unfold Ways.em; rw [HL.out.2.1, Nat.mul_div_cancel _ (by decide)]; exact firstE_zero.2 (fun i hi => HZ.out i (by omega))
            have HLM : Hid (mixL (mmV plV plV plV (fun j => a.lm.getD j 0) (fun j => a'.lm.getD j 0)) a.lm (j * 3) = Ways.lm plusW a a') := by
              have hjn : j = nm2 := by omega
              show _ = _
              unfold Ways.lm
              rw [hjn, mixL_all _ _ HL.out.2.1, HL.out.2.1]; rfl
            have HE : Hid (bothE plusW a a' = 0) := HE3.out.trans HEM.out
            have HD : Hid (bothD plusW a a' = ⟨a.k, a.b, a.c, Ways.lc plusW a a', Ways.lm plusW a a'⟩) := if_pos HE.out
            rw [HLM.out] at HST
            obtain rfl : nm2 = j := by omega
            obtain ⟨o0, o1, o2, o3, o4⟩ := HST.out.O.five
            obtain ⟨r0, r1, r2, r3, r4⟩ := HST.out.R.five
            obtain ⟨k0, k1, k2, k3, k4⟩ := HST.out.R.soft
            have HRD : Hid (∀ W', But vR wr W' → Reads ⟨a.k, a.b, a.c, Ways.lc plusW a a', Ways.lm plusW a a'⟩ (some ⟨g, 0, none⟩) nc' (some ⟨m, 0, none⟩) nm2 W') := by
              intro W' hb
              have k3 := HST.out.G.but hb (Ne.symm HFAR.out.rg)
              have k4 := HST.out.M.but hb (Ne.symm HFAR.out.rm)
              exact ⟨by show (Ways.lc plusW a a').length = _; unfold Ways.lc; rw [mapN_len]; exact HL.out.1.1, by show (Ways.lm plusW a a').length = _; unfold Ways.lm; rw [mapN_len]; exact HL.out.2.1, k3.holds, k4.holds, Ways.lc_whole plusW_fine HEC.out, Ways.lm_whole plusW_fine HL.out.2.1 HEM.out⟩
            clear HZ HLM hlt hj
            go_wp2_with fail
            obtain ⟨d0, d1, d2, d3, d4⟩ := (HST.out.R.set a.k a.b a.c (.slice (some ⟨g, 0, none⟩) nc' co) (.slice (some ⟨m, 0, none⟩) nm2 mo)).five
            have HBW := set5_below (g := vR) (x0 := .int .i64 a.k) (x1 := .int .i64 a.b) (x2 := .int .i64 a.c) (x3 := (.slice (some ⟨g, 0, none⟩) nc' co)) (x4 := (.slice (some ⟨m, 0, none⟩) nm2 mo)) HST.out.W HFAR.out.r0
            have HBT := set5_but wr vR (.int .i64 a.k) (.int .i64 a.b) (.int .i64 a.c) (.slice (some ⟨g, 0, none⟩) nc' co) (.slice (some ⟨m, 0, none⟩) nm2 mo)
            change bodyPost _ _ _ _ _ (set5 wr vR (.int .i64 a.k) (.int .i64 a.b) (.int .i64 a.c) (.slice (some ⟨g, 0, none⟩) nc' co) (.slice (some ⟨m, 0, none⟩) nm2 mo))
            generalize set5 wr vR (.int .i64 a.k) (.int .i64 a.b) (.int .i64 a.c) (.slice (some ⟨g, 0, none⟩) nc' co) (.slice (some ⟨m, 0, none⟩) nm2 mo) = WX at *
            simp [bodyPost, results, Try.results19, go_sem, d0, d1, d2, d3, d4]
            rw [HE.out, HD.out]
            exact ⟨_, rfl, ⟨_, _, _, _, _, _, rfl, HRD.out _ HBT, ⟨fun ad h => (by cases h; exact HFAR.out.g0), fun ad h => (by cases h; exact HFAR.out.m0)⟩⟩, HBW⟩

set_option maxRecDepth 20000 in
set_option maxHeartbeats 4000000 in
theorem rless_any (a a' : HD) (ac am ac' am' : Option Addr) (nc cc nm cm nc' cc' nm' cm' : Nat) (w : World) (h : Reads a ac nc am nm w) (h' : Reads a' ac' nc' am' nm' w) (z1 : ac = none → cc = 0) (z2 : am = none → cm = 0) :
    Calls Try.prog 21 #[.agg #[.int .i64 a.k, .int .i64 a.b, .int .i64 a.c, .slice ac nc cc, .slice am nm cm], .agg #[.int .i64 a'.k, .int .i64 a'.b, .int .i64 a'.c, .slice ac' nc' cc', .slice am' nm' cm']] w fun e w' =>
      Made (bothD lessW a a') (bothE lessW a a') w e w' := by
  have rL := fun w1 => like_any a a' ac am ac' am' nc cc nm cm nc' cc' nm' cm' w w1 h h'
  have bA := VarH.new w a.k a.b a.c (.slice ac nc cc) (.slice am nm cm) 29
  obtain ⟨W1, hW1⟩ : ∃ W1, w.alloc (.cells #[.int .i64 a.k, .int .i64 a.b, .int .i64 a.c, .slice ac nc cc, .slice am nm cm] 29) = W1 := ⟨_, rfl⟩
  rw [hW1] at bA
  have s1 : W1.heap.size = w.heap.size + 1 := by rw [← hW1]; simp
  have bB := VarH.new W1 a'.k a'.b a'.c (.slice ac' nc' cc') (.slice am' nm' cm') 29
  obtain ⟨W2, hW2⟩ : ∃ W2, W1.alloc (.cells #[.int .i64 a'.k, .int .i64 a'.b, .int .i64 a'.c, .slice ac' nc' cc', .slice am' nm' cm'] 29) = W2 := ⟨_, rfl⟩
  rw [hW2, s1] at bB
  have s2 : W2.heap.size = w.heap.size + 1 + 1 := by rw [← hW2]; simp [s1]
  have bR := VarH.new W2 0 0 0 (.slice none 0 0) (.slice none 0 0) 29
  obtain ⟨W3, hW3⟩ : ∃ W3, W2.alloc (.cells #[.int .i64 0, .int .i64 0, .int .i64 0, .slice none 0 0, .slice none 0 0] 29) = W3 := ⟨_, rfl⟩
  rw [hW3, s2] at bR
  have s3 : W3.heap.size = w.heap.size + 1 + 1 + 1 := by rw [← hW3]; simp [s2]
  replace bB := bB.below (hW3 ▸ alloc_below W2 _) (by omega)
  replace bA := (bA.below (hW2 ▸ alloc_below W1 _) (by omega)).below (hW3 ▸ alloc_below W2 _) (by omega)
  have hB0 : Below w.heap.size w W3 := by
    have := alloc3_below w (.cells #[.int .i64 a.k, .int .i64 a.b, .int .i64 a.c, .slice ac nc cc, .slice am nm cm] 29) (.cells #[.int .i64 a'.k, .int .i64 a'.b, .int .i64 a'.c, .slice ac' nc' cc', .slice am' nm' cm'] 29) (.cells #[.int .i64 0, .int .i64 0, .int .i64 0, .slice none 0 0, .slice none 0 0] 29)
    rw [hW1, hW2, hW3] at this
    exact this
  go_enter Try.func21, Try.ntmps21
  go_upto_region 1 with fail
  clear hW1 hW2 hW3 s1 s2
  obtain ⟨a0, a1, a2, a3, a4⟩ := bA.five
  obtain ⟨b0, b1, b2, b3, b4⟩ := bB.five
  have HS3 := Lib.hid s3
  clear s3
  go_wp2_with fail
  refine (rL _).mono ?_
  rintro e W4 ⟨rfl, c4⟩
  replace bA := bA.below c4 bA.lt
  replace bB := bB.below c4 bB.lt
  replace bR := bR.below c4 bR.lt
  replace hB0 := hB0.trans (c4.mono hB0.size)
  have s4 : w.heap.size + 1 + 1 + 1 ≤ W4.heap.size := by have := c4.size; have := HS3.out; omega
  clear a0 a1 a2 a3 a4 b0 b1 b2 b3 b4 c4 HS3 rL W1 W2 W3
  cases hl : likeD a a'
  · have HE : Hid (bothE lessW a a' = 8) := if_pos hl
    have HD : Hid (bothD lessW a a' = zD) := if_neg (by rw [HE.out]; decide)
    obtain ⟨r0, r1, r2, r3, r4⟩ := bR.five
    obtain ⟨k0, k1, k2, k3, k4⟩ := bR.soft
    clear hl bA bB
    go_wp2_with fail
    obtain ⟨d0, d1, d2, d3, d4⟩ := (bR.set 0 0 0 (.slice none 0 0) (.slice none 0 0)).five
    have HBW := set5_below (g := w.heap.size + 1 + 1) (x0 := .int .i64 0) (x1 := .int .i64 0) (x2 := .int .i64 0) (x3 := .slice none 0 0) (x4 := .slice none 0 0) hB0 (by omega)
    change bodyPost _ _ _ _ _ (set5 W4 (w.heap.size + 1 + 1) (.int .i64 0) (.int .i64 0) (.int .i64 0) (.slice none 0 0) (.slice none 0 0))
    generalize set5 W4 (w.heap.size + 1 + 1) (.int .i64 0) (.int .i64 0) (.int .i64 0) (.slice none 0 0) (.slice none 0 0) = WX at *
    simp [bodyPost, results, Try.results21, go_sem, d0, d1, d2, d3, d4]
    rw [HE.out, HD.out]
    exact ⟨_, rfl, Is.zero _ _, HBW⟩
  · obtain ⟨hr, hr', hk, hb, hc⟩ := likeD_true hl
    obtain ⟨p0, p1, p2⟩ := rightD_true hr
    obtain ⟨p0', p1', p2'⟩ := rightD_true hr'
    rw [← hk, ← hb, ← hc] at p0' p1' p2'
    have in1 := lenC_in a.k a.b a.c
    have in2 := lenM_in a.k a.b a.c
    have n1 := h.nc
    have n2 := h.nm
    have n3 := h'.nc
    have n4 := h'.nm
    obtain rfl : nc' = nc := by omega
    obtain rfl : nm' = nm := by omega
    have HN1 : Hid (nc' ≤ 1048576) := by show _ ≤ _; omega
    have HN2 : Hid (nm' ≤ 1048576) := by show _ ≤ _; omega
    have HL : Hid ((a.lc.length = nc' ∧ a'.lc.length = nc') ∧ a.lm.length = nm' * 3 ∧ a'.lm.length = nm' * 3) := by show _ ∧ _; omega
    have HE1 : Hid (Ways.ec lessW a a' ≠ 0 → bothE lessW a a' = Ways.ec lessW a a') := by
      intro h0
      unfold bothE; rw [if_neg (by rw [hl]; decide), if_neg h0]
    have HE2 : Hid (Ways.ec lessW a a' = 0 → bothE lessW a a' = Ways.em lessW a a') := by
      intro h0
      unfold bothE; rw [if_neg (by rw [hl]; decide), if_pos h0]
    have hcp := fun w1 (b : Below w.heap.size w w1) => copy_any a ac am nc' cc nm' cm w1 (h.below b) z1 z2 HN1.out HN2.out
    have HH := Lib.hid h
    have HH' := Lib.hid h'
    clear p0 p1 p2 p0' p1' p2' in1 in2 n1 n2 n3 n4 hl hr hr' hk hb hc z1 z2 h h'
    have HS4 := Lib.hid s4
    clear s4
    obtain ⟨a0, a1, a2, a3, a4⟩ := bA.five
    have hcp := hcp W4 hB0
    go_wp2_with fail
    refine hcp.mono ?_
    rintro e W5 ⟨g, m, nm2, co, mo, rfl, hnm2, hco, hmo, L1, L2, hg, hgm, c5⟩
    obtain rfl : nm2 = nm' := by have := HL.out; omega
    rw [HL.out.1.1]
    have hA5 := bA.below c5 bA.lt
    have hB5 := bB.below c5 bB.lt
    have hR5 := bR.below c5 bR.lt
    have hW5 := hB0.trans (c5.mono hB0.size)
    have bO := VarH.new W5 a.k a.b a.c (.slice (some ⟨g, 0, none⟩) nc' co) (.slice (some ⟨m, 0, none⟩) nm2 mo) 29
    have hOlt := L2.lt
    clear a0 a1 a2 a3 a4 hcp
    replace hA5 := Lib.hid hA5
    replace hB5 := Lib.hid hB5
    replace hR5 := Lib.hid hR5
    replace hW5 := Lib.hid hW5
    replace L1 := Lib.hid L1
    replace L2 := Lib.hid L2
    have HFAR : Hid (Far w.heap.size (w.heap.size + 1) (w.heap.size + 1 + 1) W5.heap.size g m w) := by
      have := HS4.out
      exact ⟨by omega, by omega, by omega, by omega, by omega, by omega, by omega, by omega, by omega, by omega, by omega, by omega⟩
    have HSM : Hid (nc' ≤ co ∧ nm2 ≤ mo) := by show _ ∧ _; rw [HL.out.1.1] at hco; omega
    clear hg hgm hOlt hnm2 hco hmo bA bB bR hB0 c5 HS4
    go_upto_region 4 with fail
    have c6 := alloc_below W5 (.cells #[.int .i64 a.k, .int .i64 a.b, .int .i64 a.c, .slice (some ⟨g, 0, none⟩) nc' co, .slice (some ⟨m, 0, none⟩) nm2 mo] 29)
    obtain ⟨W6, hW6⟩ : ∃ W6, W5.alloc (.cells #[.int .i64 a.k, .int .i64 a.b, .int .i64 a.c, .slice (some ⟨g, 0, none⟩) nc' co, .slice (some ⟨m, 0, none⟩) nm2 mo] 29) = W6 := ⟨_, rfl⟩
    rw [hW6] at bO c6 ⊢
    obtain ⟨vO, hvO⟩ : ∃ v, W5.heap.size = v := ⟨_, rfl⟩
    have st0 : Hid (St a a' ac cc am cm ac' cc' am' cm' nc' nm2 w.heap.size (w.heap.size + 1) (w.heap.size + 1 + 1) W5.heap.size g m co mo a.lc a.lm w W6) :=
      ⟨hA5.out.below c6 hA5.out.lt, hB5.out.below c6 hB5.out.lt, hR5.out.below c6 hR5.out.lt, bO, L1.out.below c6 L1.out.lt, L2.out.below c6 L2.out.lt, hW5.out.trans (c6.mono hW5.out.size)⟩
    rw [hvO] at st0 HFAR ⊢
    clear hvO hW6 bO c6 hA5 hB5 hR5 hW5 L1 L2 W4 W5
    obtain ⟨vA, hvA⟩ : ∃ v, w.heap.size = v := ⟨_, rfl⟩
    have HVA := Lib.hid hvA
    rw [hvA] at st0 HFAR ⊢
    clear hvA
    obtain ⟨vB, hvB⟩ : ∃ v, vA + 1 = v := ⟨_, rfl⟩
    obtain ⟨vR, hvR⟩ : ∃ v, vA + 1 + 1 = v := ⟨_, rfl⟩
    rw [hvR, hvB] at st0 HFAR
    rw [hvR, hvB]
    clear hvB hvR
    go_wp2_with fail
    go_loopw [7] (fun iv wr => ∃ j : Nat, j ≤ nc' ∧ iv = .int .i64 j ∧ Hid (St a a' ac cc am cm ac' cc' am' cm' nc' nm2 vA vB vR vO g m co mo (mixL (fun j => lfV (a.lc.getD j 0) (a'.lc.getD j 0)) a.lc j) a.lm w wr) ∧ Hid (∀ i, i < j → lfE (a.lc.getD i 0) (a'.lc.getD i 0) = 0)) (fun iv _ => nc' - (intOf iv).toNat)
    case atStart => exact ⟨0, by omega, rfl, st0.out, fun i h => by omega⟩
    case round =>
      obtain ⟨j, hj, rfl, HST, HZ⟩ := hrel
      obtain ⟨a0, a1, a2, a3, a4⟩ := HST.out.A.five
      by_cases hlt : j < nc'
      · have i1 : (j : Int) < (nc' : Int) := by omega
        have HLT := Lib.hid hlt
        have HJ := Lib.hid hj
        obtain ⟨ga, oa, rfl, hga, cX⟩ := (HH.out.below HST.out.W).hc.cells (by have := HL.out; omega)
        obtain ⟨gb, ob, rfl, hgb, cY⟩ := (HH'.out.below HST.out.W).hc.cells (by have := HL.out; omega)
        have q0 : C4 vA 3 vB 3 ga (oa + j) gb (ob + j) _ _ _ _ wr := ⟨HST.out.A.lt, HST.out.B.lt, hga, hgb, HST.out.A.c3, HST.out.B.c3, cX j (by have := HL.out; omega), cY j (by have := HL.out; omega)⟩
        have hwx := HH.out.wc j (by have := HL.out; omega)
        have hwy := HH'.out.wc j (by have := HL.out; omega)
        have hcall := fun w => refM (a.lc.getD j 0) (a'.lc.getD j 0) hwx hwy w
        have HVJ : Hid (∀ v, lfV (a.lc.getD j 0) (a'.lc.getD j 0) = v → (mixL (fun j => lfV (a.lc.getD j 0) (a'.lc.getD j 0)) a.lc j).set j v = mixL (fun j => lfV (a.lc.getD j 0) (a'.lc.getD j 0)) a.lc (j + 1)) := by rintro v rfl; rfl
        have HZJ : Hid (lfE (a.lc.getD j 0) (a'.lc.getD j 0) = 0 → ∀ i, i < j + 1 → lfE (a.lc.getD i 0) (a'.lc.getD i 0) = 0) := by
          intro he i hi
          by_cases q : i < j
          · exact HZ.out i q
          · obtain rfl : i = j := by omega
            exact he
        have HRJ : Hid (∀ e, lfE (a.lc.getD j 0) (a'.lc.getD j 0) = e → e ≠ 0 → bothE lessW a a' = e ∧ bothD lessW a a' = zD) := by
          intro e he h0
          have hr : Ran (fun j => Ways.E lessW (a.lc.getD j 0) (a'.lc.getD j 0)) nc' j e := ⟨hj, HZ.out, .inr ⟨hlt, he, h0⟩⟩
          have h1 : Ways.ec lessW a a' = e := by unfold Ways.ec; rw [HL.out.1.1]; exact hr.first.symm
          have h2 : bothE lessW a a' = e := (HE1.out (by rw [h1]; exact h0)).trans h1
          exact ⟨h2, if_neg (by rw [h2]; exact h0)⟩
        clear cX cY hga hgb hwx hwy hj hlt
        generalize a.lc.getD j 0 = x at *
        generalize a'.lc.getD j 0 = y at *
        have i2 : (j : Int) < (nc' : Int) := i1
        go_upto_region 7 with fail
        clear a0 a1 a2 a3 a4
        have q1 := q0.drew
        have st1 := Lib.hid HST.out.drew
        go_region_held3 (fun w' => w'.cell? ⟨vA, 3, none⟩ = some (.slice (some ⟨ga, oa, none⟩) nc' cc) ∧ w'.cell? ⟨vB, 3, none⟩ = some (.slice (some ⟨gb, ob, none⟩) nc' cc') ∧ w'.cell? ⟨ga, oa + j, none⟩ = some (.int .i64 x) ∧ w'.cell? ⟨gb, ob + j, none⟩ = some (.int .i64 y)) (first | exact q1.cells | exact q0.cells)
          ((go_at_call 39; refine (hcall _).mono ?_; rintro e w' ⟨rfl, cc9⟩; replace q1 := q1.below cc9; replace st1 := Lib.hid (st1.out.below cc9); clear cc9))
        clear q0 q1 hcall HST
        obtain ⟨v, HVM⟩ : ∃ v, Hid (miV x y = v) := ⟨_, rfl⟩
        obtain ⟨ee, HEE⟩ : ∃ v, Hid (miE x y = v) := ⟨_, rfl⟩
        rw [HVM.out, HEE.out]
        by_cases he : ee = 0
        · by_cases hv : v < 0
          · obtain ⟨hE, hD⟩ := HRJ.out 5 (lf_5 (HEE.out.trans he) (by rw [HVM.out]; exact hv)) (by decide)
            subst he
            have HE := Lib.hid hE
            have HD := Lib.hid hD
            obtain ⟨r0, r1, r2, r3, r4⟩ := st1.out.R.five
            obtain ⟨k0, k1, k2, k3, k4⟩ := st1.out.R.soft
            clear HZ HZJ HRJ HVJ hE hD
            go_wp2_with fail
            obtain ⟨d0, d1, d2, d3, d4⟩ := (st1.out.R.set 0 0 0 (.slice none 0 0) (.slice none 0 0)).five
            have HBW := set5_below (g := vR) (x0 := .int .i64 0) (x1 := .int .i64 0) (x2 := .int .i64 0) (x3 := (.slice none 0 0)) (x4 := (.slice none 0 0)) st1.out.W HFAR.out.r0
            change bodyPost _ _ _ _ _ (set5 _ vR (.int .i64 0) (.int .i64 0) (.int .i64 0) (.slice none 0 0) (.slice none 0 0))
            generalize set5 _ vR (.int .i64 0) (.int .i64 0) (.int .i64 0) (.slice none 0 0) (.slice none 0 0) = WX at *
            simp [bodyPost, results, Try.results21, go_sem, d0, d1, d2, d3, d4]
            rw [HE.out, HD.out]
            exact ⟨_, rfl, Is.zero _ _, HBW⟩
          · obtain ⟨z0, z1⟩ := lf_0 (HEE.out.trans he) (show ¬ miV x y < 0 by rw [HVM.out]; exact hv)
            have HX2 := Lib.hid (HZJ.out z0)
            have HVV : Hid (lfV x y = v) := z1.trans HVM.out
            clear z0 z1
            subst he
            have HLj : Hid (j < (mixL (fun j => lfV (a.lc.getD j 0) (a'.lc.getD j 0)) a.lc j).length) := by
              show _ < _
              rw [mixL_len]
              have := HL.out
              have := HLT.out
              omega
            have d0 := st1.out.G.cell j HLj.out
            have f0 := st1.out.G.frozen j HLj.out
            rw [Nat.zero_add] at d0 f0
            have o3 := st1.out.O.c3
            have st2 := Lib.hid (st1.out.setG HFAR.out j v HLj.out)
            rw [HVJ.out _ HVV.out] at st2
            clear HZ HZJ HRJ HVJ
            go_wp2_with fail
            go_roundw
            case rel => exact ⟨j + 1, HLT.out, (by first | exact congrArg (Value.int .i64) (next_num HLT.out HN1.out).1 | exact congrArg (Value.int .i64) (Int.natCast_succ j).symm), st2.out, HX2.out⟩
            case measure => first | exact (next_num HLT.out HN1.out).2 | (have := HLT.out; simp only [intOf]; omega)
        · obtain ⟨hE, hD⟩ := HRJ.out ee ((lf_6 (by rw [HEE.out]; exact he)).trans HEE.out) he
          have gb1 : (ee != 0) = true := by simpa using he
          clear he
          have HE := Lib.hid hE
          have HD := Lib.hid hD
          obtain ⟨r0, r1, r2, r3, r4⟩ := st1.out.R.five
          obtain ⟨k0, k1, k2, k3, k4⟩ := st1.out.R.soft
          clear HZ HZJ HRJ HVJ hE hD
          go_wp2_with fail
          obtain ⟨d0, d1, d2, d3, d4⟩ := (st1.out.R.set 0 0 0 (.slice none 0 0) (.slice none 0 0)).five
          have HBW := set5_below (g := vR) (x0 := .int .i64 0) (x1 := .int .i64 0) (x2 := .int .i64 0) (x3 := (.slice none 0 0)) (x4 := (.slice none 0 0)) st1.out.W HFAR.out.r0
          change bodyPost _ _ _ _ _ (set5 _ vR (.int .i64 0) (.int .i64 0) (.int .i64 0) (.slice none 0 0) (.slice none 0 0))
          generalize set5 _ vR (.int .i64 0) (.int .i64 0) (.int .i64 0) (.slice none 0 0) (.slice none 0 0) = WX at *
          simp [bodyPost, results, Try.results21, go_sem, d0, d1, d2, d3, d4]
          rw [HE.out, HD.out]
          exact ⟨_, rfl, Is.zero _ _, HBW⟩
      · obtain rfl : nc' = j := by omega
        have HEC : Hid (Ways.ec lessW a a' = 0) := by
          show _ = _
          unfold Ways.ec; rw [HL.out.1.1]; exact firstE_zero.2 HZ.out
        have HLC : Hid (mixL (fun j => lfV (a.lc.getD j 0) (a'.lc.getD j 0)) a.lc nc' = Ways.lc lessW a a') := by
          show _ = _
          unfold Ways.lc
          rw [mixL_all _ _ HL.out.1.1, HL.out.1.1]; rfl
        rw [HLC.out] at HST
        have HE3 := Lib.hid (HE2.out HEC.out)
        clear HZ HLC hlt hj
        go_upto_region 13 with fail
        clear a0 a1 a2 a3 a4
        go_wp2_with fail
        go_loopw [10] (fun iv wr => ∃ j : Nat, j ≤ nm2 ∧ iv = .int .i64 j ∧ Hid (St a a' ac cc am cm ac' cc' am' cm' nc' nm2 vA vB vR vO g m co mo (Ways.lc lessW a a') (mixL (mmV lfV miV lfV (fun j => a.lm.getD j 0) (fun j => a'.lm.getD j 0)) a.lm (j * 3)) w wr) ∧ Hid (∀ i, i < j → mmE lfE miE lfE (fun j => a.lm.getD j 0) (fun j => a'.lm.getD j 0) i = 0)) (fun iv _ => nm2 - (intOf iv).toNat)
        case atStart => exact ⟨0, by omega, rfl, HST.out, fun i h => by omega⟩
        case round =>
          obtain ⟨j, hj, rfl, HST, HZ⟩ := hrel
          obtain ⟨a0, a1, a2, a3, a4⟩ := HST.out.A.five
          by_cases hlt : j < nm2
          · have i1 : (j : Int) < (nm2 : Int) := by omega
            have HLT := Lib.hid hlt
            have HJ := Lib.hid hj
            obtain ⟨ga, oa, rfl, hga, cX⟩ := (HH.out.below HST.out.W).hm.cells (by have := HL.out; omega)
            obtain ⟨gb, ob, rfl, hgb, cY⟩ := (HH'.out.below HST.out.W).hm.cells (by have := HL.out; omega)
            have q0 : X8 vA vB _ _ ga (oa + j * 3) gb (ob + j * 3) _ _ _ _ _ _ wr := ⟨⟨⟨hga, cX (j * 3) (by have := HL.out; omega), by rw [Nat.add_assoc]; exact cX (j * 3 + 1) (by have := HL.out; omega), by rw [Nat.add_assoc]; exact cX (j * 3 + 2) (by have := HL.out; omega)⟩, ⟨hgb, cY (j * 3) (by have := HL.out; omega), by rw [Nat.add_assoc]; exact cY (j * 3 + 1) (by have := HL.out; omega), by rw [Nat.add_assoc]; exact cY (j * 3 + 2) (by have := HL.out; omega)⟩⟩, HST.out.A.lt, HST.out.B.lt, HST.out.A.c4, HST.out.B.c4⟩
            have hcall := fun w => rmminus_any (a.lm.getD (j * 3) 0) (a.lm.getD (j * 3 + 1) 0) (a.lm.getD (j * 3 + 2) 0) (a'.lm.getD (j * 3) 0) (a'.lm.getD (j * 3 + 1) 0) (a'.lm.getD (j * 3 + 2) 0) w (HH.out.wm _ (by have := HL.out; omega)) (HH.out.wm _ (by have := HL.out; omega)) (HH.out.wm _ (by have := HL.out; omega)) (HH'.out.wm _ (by have := HL.out; omega)) (HH'.out.wm _ (by have := HL.out; omega)) (HH'.out.wm _ (by have := HL.out; omega))
            have HEQ : Hid (or3 (lfE (a.lm.getD (j * 3) 0) (a'.lm.getD (j * 3) 0)) (miE (a.lm.getD (j * 3 + 1) 0) (a'.lm.getD (j * 3 + 1) 0)) (lfE (a.lm.getD (j * 3 + 2) 0) (a'.lm.getD (j * 3 + 2) 0)) = mmE lfE miE lfE (fun j => a.lm.getD j 0) (fun j => a'.lm.getD j 0) j) := rfl
            rw [HEQ.out] at hcall
            have HVJ : Hid ((((mixL (mmV lfV miV lfV (fun j => a.lm.getD j 0) (fun j => a'.lm.getD j 0)) a.lm (j * 3)).set (j * 3) (lfV (a.lm.getD (j * 3) 0) (a'.lm.getD (j * 3) 0))).set (j * 3 + 1) (miV (a.lm.getD (j * 3 + 1) 0) (a'.lm.getD (j * 3 + 1) 0))).set (j * 3 + 2) (lfV (a.lm.getD (j * 3 + 2) 0) (a'.lm.getD (j * 3 + 2) 0)) = mixL (mmV lfV miV lfV (fun j => a.lm.getD j 0) (fun j => a'.lm.getD j 0)) a.lm ((j + 1) * 3)) := by
              show _ = _
              rw [← mixL_3, mmV_0, mmV_1, mmV_2]
            have HZJ : Hid (mmE lfE miE lfE (fun j => a.lm.getD j 0) (fun j => a'.lm.getD j 0) j = 0 → ∀ i, i < j + 1 → mmE lfE miE lfE (fun j => a.lm.getD j 0) (fun j => a'.lm.getD j 0) i = 0) := by
              intro he i hi
              by_cases q : i < j
              · exact HZ.out i q
              · obtain rfl : i = j := by omega
                exact he
            have HRJ : Hid (mmE lfE miE lfE (fun j => a.lm.getD j 0) (fun j => a'.lm.getD j 0) j ≠ 0 → bothE lessW a a' = mmE lfE miE lfE (fun j => a.lm.getD j 0) (fun j => a'.lm.getD j 0) j ∧ bothD lessW a a' = zD) := by
              intro h0
              have hr : Ran (mmE lfE miE lfE (fun j => a.lm.getD j 0) (fun j => a'.lm.getD j 0)) nm2 j _ := ⟨hj, HZ.out, .inr ⟨hlt, rfl, h0⟩⟩
              have h1 : Ways.em lessW a a' = mmE lfE miE lfE (fun j => a.lm.getD j 0) (fun j => a'.lm.getD j 0) j := by unfold Ways.em; rw [HL.out.2.1, Nat.mul_div_cancel _ (by decide)]; exact hr.first.symm
              have h2 := HE3.out.trans h1
              exact ⟨h2, if_neg (by rw [h2]; exact h0)⟩
            clear cX cY hga hgb hj hlt HEQ
            generalize mmE lfE miE lfE (fun j => a.lm.getD j 0) (fun j => a'.lm.getD j 0) j = ee at *
            generalize lfV (a.lm.getD (j * 3) 0) (a'.lm.getD (j * 3) 0) = t0 at *
            generalize miV (a.lm.getD (j * 3 + 1) 0) (a'.lm.getD (j * 3 + 1) 0) = t1 at *
            generalize lfV (a.lm.getD (j * 3 + 2) 0) (a'.lm.getD (j * 3 + 2) 0) = t2 at *
            generalize a.lm.getD (j * 3) 0 = x0 at *
            generalize a.lm.getD (j * 3 + 1) 0 = x1 at *
            generalize a.lm.getD (j * 3 + 2) 0 = x2 at *
            generalize a'.lm.getD (j * 3) 0 = y0 at *
            generalize a'.lm.getD (j * 3 + 1) 0 = y1 at *
            generalize a'.lm.getD (j * 3 + 2) 0 = y2 at *
            go_upto_region 16 with fail
            clear a0 a1 a2 a3 a4
            go_cut [11, 12] (fun s10 s11 wx => ∃ gm : Nat, s10 = .pointer (some ⟨gm, 0, none⟩) ∧ s11 = .int .i64 ee ∧ AtM gm 0 (okV ee t0) (okV ee t1) (okV ee t2) wx ∧ wr.heap.size ≤ gm ∧ Below wr.heap.size wr wx)
            case first =>
              have na : ga ≠ wr.heap.size := by have := q0.x.a.lt; omega
              have nb : gb ≠ wr.heap.size := by have := q0.x.b.lt; omega
              have nA : vA ≠ wr.heap.size := by have := q0.l1; omega
              have nB : vB ≠ wr.heap.size := by have := q0.l2; omega
              go_region_held3 (fun w' => (w'.cell? ⟨vA, 4, none⟩ = some (.slice (some ⟨ga, oa, none⟩) nm2 cm) ∧ w'.cell? ⟨vB, 4, none⟩ = some (.slice (some ⟨gb, ob, none⟩) nm2 cm')) ∧ ((w'.cell? ⟨ga, oa + j * 3, none⟩ = some (.int .i64 x0) ∧ w'.cell? ⟨ga, oa + j * 3 + 1, none⟩ = some (.int .i64 x1) ∧ w'.cell? ⟨ga, oa + j * 3 + 2, none⟩ = some (.int .i64 x2)) ∧ (w'.cell? ⟨gb, ob + j * 3, none⟩ = some (.int .i64 y0) ∧ w'.cell? ⟨gb, ob + j * 3 + 1, none⟩ = some (.int .i64 y1) ∧ w'.cell? ⟨gb, ob + j * 3 + 2, none⟩ = some (.int .i64 y2))))
                ((refine X8.cells ?_; repeat (with_reducible (first | exact q0 | exact q9 | refine X8.alloc ?_ _ | refine X8.drew ?_ | refine X8.set ?_ na nb nA nB _ _))))
                ((go_at_call 40; refine (hcall _).mono ?_; rintro a9 w' ⟨rfl, c⟩; have q9 : X8 vA vB (.slice (some ⟨ga, oa, none⟩) nm2 cm) (.slice (some ⟨gb, ob, none⟩) nm2 cm') ga (oa + j * 3) gb (ob + j * 3) x0 x1 x2 y0 y1 y2 w' := X8.below (by (repeat (with_reducible (first | exact q0 | refine X8.alloc ?_ _ | refine X8.drew ?_)))) c; try (have mm : VarM wr.heap.size 0 0 0 w' := VarM.below (VarM.new wr 0 0 0 47).drew c; obtain ⟨⟨m9, m0, m1, m2⟩, mf0, mf1, mf2⟩ := mm)))
              · go_wp2_with fail
                go_meet
                exact ⟨_, rfl, rfl, AtM.new w' _ _ _ _, c.size, ((show Below wr.heap.size wr wr.drew from (Below.refl _ wr).drew).trans c).alloc c.size _⟩
              · go_wp2_with fail
                go_meet
                refine ⟨_, rfl, rfl, AtM.set (show AtM wr.heap.size 0 0 0 0 w' from ⟨m9, m0, m1, m2⟩), Nat.le_refl _, ?_⟩
                refine set3_below (b := wr.heap.size) (o := 0) (((Below.refl wr.heap.size wr).alloc (Nat.le_refl _) _).drew.trans (c.mono (by simp))) (Nat.le_refl _)
            case rest =>
              obtain ⟨gm, rfl, rfl, hM, hm, hW⟩ := hcut
              have HMLT : Hid (m < wr.heap.size ∧ vO < wr.heap.size) := ⟨HST.out.M.lt, HST.out.O.lt⟩
              replace HST := Lib.hid (HST.out.below hW)
              have HGM : Hid (gm ≠ m ∧ gm ≠ vO) := by
                have h1 := HMLT.out
                show _ ∧ _
                omega
              clear hcall q0 hW hm
              by_cases he : ee = 0
              · subst he
                have k0 : ∀ v, okV 0 v = v := fun v => if_pos rfl
                rw [k0, k0, k0] at hM
                have HX2 := Lib.hid (HZJ.out rfl)
                have HLj : Hid (j * 3 + 2 < (mixL (mmV lfV miV lfV (fun j => a.lm.getD j 0) (fun j => a'.lm.getD j 0)) a.lm (j * 3)).length) := by
                  show _ < _
                  rw [mixL_len]
                  have := HL.out
                  have := HLT.out
                  omega
                obtain ⟨_, e0, e1, e2⟩ := hM
                obtain ⟨_, d0, d1, d2⟩ := HST.out.M.atM j HLj.out
                have f0 := HST.out.M.frozen (j * 3) (by have := HLj.out; omega)
                have f1 := HST.out.M.frozen (j * 3 + 1) (by have := HLj.out; omega)
                have f2 := HST.out.M.frozen (j * 3 + 2) HLj.out
                rw [← Nat.add_assoc] at f1 f2
                rw [Nat.zero_add] at d0 d1 d2 f0 f1 f2
                have o4 := HST.out.O.c4
                have st2 := Lib.hid (HST.out.setM HFAR.out j t0 t1 t2 HLj.out)
                rw [HVJ.out] at st2
                have g1 := HGM.out.1
                have g2 := HGM.out.2
                clear HZ HZJ HRJ HVJ k0 HST
                go_wp2_with fail
                go_roundw
                case rel => exact ⟨j + 1, HLT.out, (by first | exact congrArg (Value.int .i64) (next_num HLT.out HN2.out).1 | exact congrArg (Value.int .i64) (Int.natCast_succ j).symm), st2.out, HX2.out⟩
                case measure => first | exact (next_num HLT.out HN2.out).2 | (have := HLT.out; simp only [intOf]; omega)
              · obtain ⟨hE, hD⟩ := HRJ.out he
                have HE := Lib.hid hE
                have HD := Lib.hid hD
                have gb1 : (ee != 0) = true := by simpa using he
                obtain ⟨r0, r1, r2, r3, r4⟩ := HST.out.R.five
                obtain ⟨k0, k1, k2, k3, k4⟩ := HST.out.R.soft
                clear HZ HZJ HRJ HVJ hM hE hD he
                go_wp2_with fail
                obtain ⟨d0, d1, d2, d3, d4⟩ := (HST.out.R.set 0 0 0 (.slice none 0 0) (.slice none 0 0)).five
                have HBW := set5_below (g := vR) (x0 := .int .i64 0) (x1 := .int .i64 0) (x2 := .int .i64 0) (x3 := (.slice none 0 0)) (x4 := (.slice none 0 0)) HST.out.W HFAR.out.r0
                have HBT := set5_but wc vR (.int .i64 0) (.int .i64 0) (.int .i64 0) (.slice none 0 0) (.slice none 0 0)
                change bodyPost _ _ _ _ _ (set5 wc vR (.int .i64 0) (.int .i64 0) (.int .i64 0) (.slice none 0 0) (.slice none 0 0))
                generalize set5 wc vR (.int .i64 0) (.int .i64 0) (.int .i64 0) (.slice none 0 0) (.slice none 0 0) = WX at *
                simp [bodyPost, results, Try.results21, go_sem, d0, d1, d2, d3, d4]
                rw [HE.out, HD.out]
                exact ⟨_, rfl, Is.zero _ _, HBW⟩
          · have HEM : Hid (Ways.em lessW a a' = 0) := by
              have hjn : j = nm2 := by omega
              show _ = _
              unfold Ways.em; rw [HL.out.2.1, Nat.mul_div_cancel _ (by decide)]; exact firstE_zero.2 (fun i hi => HZ.out i (by omega))
            have HLM : Hid (mixL (mmV lfV miV lfV (fun j => a.lm.getD j 0) (fun j => a'.lm.getD j 0)) a.lm (j * 3) = Ways.lm lessW a a') := by
              have hjn : j = nm2 := by omega
              show _ = _
              unfold Ways.lm
              rw [hjn, mixL_all _ _ HL.out.2.1, HL.out.2.1]; rfl
            have HE : Hid (bothE lessW a a' = 0) := HE3.out.trans HEM.out
            have HD : Hid (bothD lessW a a' = ⟨a.k, a.b, a.c, Ways.lc lessW a a', Ways.lm lessW a a'⟩) := if_pos HE.out
            rw [HLM.out] at HST
            obtain rfl : nm2 = j := by omega
            obtain ⟨o0, o1, o2, o3, o4⟩ := HST.out.O.five
            obtain ⟨r0, r1, r2, r3, r4⟩ := HST.out.R.five
            obtain ⟨k0, k1, k2, k3, k4⟩ := HST.out.R.soft
            have HRD : Hid (∀ W', But vR wr W' → Reads ⟨a.k, a.b, a.c, Ways.lc lessW a a', Ways.lm lessW a a'⟩ (some ⟨g, 0, none⟩) nc' (some ⟨m, 0, none⟩) nm2 W') := by
              intro W' hb
              have k3 := HST.out.G.but hb (Ne.symm HFAR.out.rg)
              have k4 := HST.out.M.but hb (Ne.symm HFAR.out.rm)
              exact ⟨by show (Ways.lc lessW a a').length = _; unfold Ways.lc; rw [mapN_len]; exact HL.out.1.1, by show (Ways.lm lessW a a').length = _; unfold Ways.lm; rw [mapN_len]; exact HL.out.2.1, k3.holds, k4.holds, Ways.lc_whole lessW_fine HEC.out, Ways.lm_whole lessW_fine HL.out.2.1 HEM.out⟩
            clear HZ HLM hlt hj
            go_wp2_with fail
            obtain ⟨d0, d1, d2, d3, d4⟩ := (HST.out.R.set a.k a.b a.c (.slice (some ⟨g, 0, none⟩) nc' co) (.slice (some ⟨m, 0, none⟩) nm2 mo)).five
            have HBW := set5_below (g := vR) (x0 := .int .i64 a.k) (x1 := .int .i64 a.b) (x2 := .int .i64 a.c) (x3 := (.slice (some ⟨g, 0, none⟩) nc' co)) (x4 := (.slice (some ⟨m, 0, none⟩) nm2 mo)) HST.out.W HFAR.out.r0
            have HBT := set5_but wr vR (.int .i64 a.k) (.int .i64 a.b) (.int .i64 a.c) (.slice (some ⟨g, 0, none⟩) nc' co) (.slice (some ⟨m, 0, none⟩) nm2 mo)
            change bodyPost _ _ _ _ _ (set5 wr vR (.int .i64 a.k) (.int .i64 a.b) (.int .i64 a.c) (.slice (some ⟨g, 0, none⟩) nc' co) (.slice (some ⟨m, 0, none⟩) nm2 mo))
            generalize set5 wr vR (.int .i64 a.k) (.int .i64 a.b) (.int .i64 a.c) (.slice (some ⟨g, 0, none⟩) nc' co) (.slice (some ⟨m, 0, none⟩) nm2 mo) = WX at *
            simp [bodyPost, results, Try.results21, go_sem, d0, d1, d2, d3, d4]
            rw [HE.out, HD.out]
            exact ⟨_, rfl, ⟨_, _, _, _, _, _, rfl, HRD.out _ HBT, ⟨fun ad h => (by cases h; exact HFAR.out.g0), fun ad h => (by cases h; exact HFAR.out.m0)⟩⟩, HBW⟩
end Go.Proofs.Ytdpcplhmnpglgaa
