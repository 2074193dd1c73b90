/-
  HISTOGRAMS: the document's Copy: rows of the call's own, of numbers and of moments. No more than 2^20 numbers.
-/
import Derived.Test.YtebdlmjpgohngaaHisT
namespace Go.Proofs.Ytebdlmjpgohngaa
open Go.RowKit

/-- A row of moments of the call's own, number by number. -/
def Own3 (w : World) (B : Nat) (v : Value) (n : Nat) (l : List Int) : Prop := w.ownsRow B 74 3 v n (l.map KL.enc)
theorem Own3.start (w : World) (B : Nat) (hB : B ≤ w.heap.size) : Own3 (w.alloc (.cells #[] 74)) B (.slice (some ⟨w.heap.size, 0, none⟩) 0 0) 0 [] :=
  World.ownsRow_made w #[] 0 hB (Nat.zero_le _) rfl
theorem Own3.lst {w : World} {B n : Nat} {v : Value} {l : List Int} (h : Own3 w B v n l) : l.length = n * 3 ∧ ((v = .slice none 0 0 ∧ n = 0) ∨ ∃ g cap, v = .slice (some ⟨g, 0, none⟩) n cap ∧ B ≤ g ∧ n ≤ cap ∧ cap ≤ maxLen ∧ Lst KL g 0 l w) := by
  obtain ⟨h1, ⟨rfl, h0⟩ | ⟨g, cap, cur, rfl, hB, hg, hc, hm, hs, ht⟩⟩ := h
  · exact ⟨by simpa using h1, .inl ⟨rfl, h0⟩⟩
  · have hl : l.length = n * 3 := by simpa using h1
    refine ⟨hl, .inr ⟨g, cap, rfl, hB, hc, hm, (Array.getElem?_eq_some_iff.1 hg).1, fun j hj => ?_, fun j hj => ?_⟩⟩
    · have e : (cur.toList.take (n * 3))[j]? = (l.map KL.enc)[j]? := by rw [ht]
      rw [List.getElem?_take] at e
      have hj3 : j < n * 3 := by omega
      simp only [hj3, if_true, List.getElem?_map, Array.getElem?_toList] at e
      simp only [World.cell?, hg]
      simp [e, hj]
    · simp [World.frozen?, hg]
theorem Own3.keep {w w' : World} {B n : Nat} {v : Value} {l : List Int} (h : Own3 w B v n l) (hb : ∀ k, B ≤ k → k < w.heap.size → w'.heap[k]? = w.heap[k]?) : Own3 w' B v n l := by
  obtain ⟨h1, ⟨rfl, h0⟩ | ⟨g, cap, cur, rfl, hB, hg, hc, hm, hs, ht⟩⟩ := h
  · exact ⟨h1, .inl ⟨rfl, h0⟩⟩
  · exact ⟨h1, .inr ⟨g, cap, cur, rfl, hB, (hb g hB (Array.getElem?_eq_some_iff.1 hg).1).trans hg, hc, hm, hs, ht⟩⟩

/-- An append of moments that a slice leads to, nil or not, outside a drawn region. -/
theorem app3_any {w : World} {ops : Array Oper} {rest : List Oper} {o : Oper} {a : Act} {Q : Exit → Act → World → Prop} (hw : Region.wanted o (yielded ops a.tmps) = true) (s x : Operand)
    (ho : o.op = .call { callee := .builtin .append, args := #[s, x], argTypes := #[43, 43] }) (B : Nat) (hB : B ≤ w.heap.size) (v : Value) (n : Nat) (l : List Int) (hs : a.eval s = v) (hown : Own3 w B v n l)
    (A : Option Addr) (m c : Nat) (k : List Int) (hx : a.eval x = .slice A m c) (hl : k.length = m * 3) (hA : A = none → c = 0) (hk : HoldsE KL w A k) (hm : n + m ≤ 1048576) (hv : v ≠ .slice none 0 0)
    (h : ∀ v' w', Own3 w' B v' (n + m) (l ++ k) → Go.RowKit.Below B w w' → v' ≠ .slice none 0 0 → wpList Try.prog ops Q rest (a.put o.dst v') w') : wpList Try.prog ops Q (o :: rest) a w := by
  obtain ⟨i0, hi, hz0, hz1, hz2⟩ := info_parts infoM
  refine wpList_step fun KK hK => ?_
  rw [if_pos hw]
  cases A with
  | none =>
    obtain rfl := hA rfl
    have hk0 : k = [] := by
      rcases hk with h | ⟨_, _, h, _⟩
      · exact h
      · cases h
    subst hk0
    obtain rfl : m = 0 := by simp at hl; omega
    have hrun := run_append_owned_none (P := Try.prog) (w := w) B 43 o.type 74 i0 3 Try.underlying43 hi v _ _ hown
    unfold Oper.wp execOp
    simp only [ho, resolve, invoke, builtin, Sem.run_bind, Sem.run_pure, Result.andThen_ok, List.map_toArray, List.map_cons, List.map_nil, hs, hx, hrun]
    exact hK _ _ (h v w (by rw [List.append_nil]; exact hown) (Go.RowKit.Below.refl B w) hv)
  | some ad =>
    refine wp_append_own w s x 43 ho B 74 i0 _ 3 24 Try.underlying43 hi hz0 hz1 hz2 rfl (by decide) v _ _ hs hown ad m c (k.map KL.enc) hx (by simp [hl]) ?_ ?_ (by unfold maxLen; omega) (by omega) hB ?_
    · intro j u hu
      have hj : j < k.length := by
        rcases Nat.lt_or_ge j k.length with h' | h'
        · exact h'
        · rw [List.getElem?_eq_none (by simpa using h')] at hu; cases hu
      rcases hk with rfl | ⟨b, off, e, hb, hr⟩
      · simp at hj
      · obtain rfl := Option.some.inj e
        rw [Go.WideShapes.add_plain, hr j hj]
        simp [hj] at hu ⊢
        exact hu
    · intro u hu
      obtain ⟨z, _, rfl⟩ := List.mem_map.1 hu
      rfl
    · intro v' w' h2 h3 h4
      refine hK _ _ (h v' w' ?_ ((Go.RowKit.Below.refl B w).grown h3 hB (fun g hg => (World.ownsRow.lt hown g hg).1)) (fun h5 => hv (h4.1 h5).1))
      unfold Own3
      rw [List.map_append]; exact h2

theorem VarH.setC {v : Nat} {k b c : Int} {C M : Value} {w : World} (h : VarH v k b c C M w) (C' : Value) : VarH v k b c C' M (w.setCell ⟨v, 3, none⟩ C') := by
  have sz : (w.setCell ⟨v, 3, none⟩ C').heap.size = w.heap.size := by simp [World.setCell]
  exact ⟨by rw [sz]; exact h.lt, by rw [World.cell?_setCell_other _ _ _ _ (by simp)]; exact h.c0, by rw [World.cell?_setCell_other _ _ _ _ (by simp)]; exact h.c1, by rw [World.cell?_setCell_other _ _ _ _ (by simp)]; exact h.c2, World.cell?_setCell_same _ _ _ h.c3, by rw [World.cell?_setCell_other _ _ _ _ (by simp)]; exact h.c4,
    by rw [World.frozen?_setCell]; exact h.f0, by rw [World.frozen?_setCell]; exact h.f1, by rw [World.frozen?_setCell]; exact h.f2, by rw [World.frozen?_setCell]; exact h.f3, by rw [World.frozen?_setCell]; exact h.f4⟩
theorem VarH.setM {v : Nat} {k b c : Int} {C M : Value} {w : World} (h : VarH v k b c C M w) (M' : Value) : VarH v k b c C M' (w.setCell ⟨v, 4, none⟩ M') := by
  have sz : (w.setCell ⟨v, 4, none⟩ M').heap.size = w.heap.size := by simp [World.setCell]
  exact ⟨by rw [sz]; exact h.lt, by rw [World.cell?_setCell_other _ _ _ _ (by simp)]; exact h.c0, by rw [World.cell?_setCell_other _ _ _ _ (by simp)]; exact h.c1, by rw [World.cell?_setCell_other _ _ _ _ (by simp)]; exact h.c2, by rw [World.cell?_setCell_other _ _ _ _ (by simp)]; exact h.c3, World.cell?_setCell_same _ _ _ h.c4,
    by rw [World.frozen?_setCell]; exact h.f0, by rw [World.frozen?_setCell]; exact h.f1, by rw [World.frozen?_setCell]; exact h.f2, by rw [World.frozen?_setCell]; exact h.f3, by rw [World.frozen?_setCell]; exact h.f4⟩
theorem But.size' (b o : Nat) (w : World) (v : Value) : (w.setCell ⟨b, o, none⟩ v).heap.size = w.heap.size := by simp [World.setCell]

/-- A histogram of the call's own, its rows apart. -/
def CopyP (d : HD) (w : World) (e : Ending) (w' : World) : Prop :=
  ∃ g m nm cc cm, e = .returned (.agg #[.int .i64 d.k, .int .i64 d.b, .int .i64 d.c, .slice (some ⟨g, 0, none⟩) d.lc.length cc, .slice (some ⟨m, 0, none⟩) nm cm]) ∧ d.lm.length = nm * 3 ∧ d.lc.length ≤ cc ∧ nm ≤ cm ∧
    Lst KL g 0 d.lc w' ∧ Lst KL m 0 d.lm w' ∧ w.heap.size ≤ g ∧ g < m ∧ Below w.heap.size w w'

set_option maxHeartbeats 1000000 in
theorem copy_any (d : HD) (ac am : Option Addr) (nc cc nm cm : Nat) (w : World) (h : Reads d ac nc am nm w) (z1 : ac = none → cc = 0) (z2 : am = none → cm = 0) (hn1 : nc ≤ 1048576) (hn2 : nm ≤ 1048576) :
    Calls Try.prog 40 #[.agg #[.int .i64 d.k, .int .i64 d.b, .int .i64 d.c, .slice ac nc cc, .slice am nm cm]] w fun e w' => CopyP d w e w' := by
  obtain ⟨k, b, c, lc, lm⟩ := d
  obtain ⟨W1, hW1⟩ : ∃ W1, w.alloc (.cells #[.int .i64 k, .int .i64 b, .int .i64 c, .slice ac nc cc, .slice am nm cm] 45) = W1 := ⟨_, rfl⟩
  have vA : VarH w.heap.size k b c (.slice ac nc cc) (.slice am nm cm) W1 ∧ Below w.heap.size w W1 ∧ W1.heap.size = w.heap.size + 1 := by subst hW1; exact ⟨VarH.new _ _ _ _ _ _ _, alloc_below _ _, by simp⟩
  obtain ⟨vA, b1, s1⟩ := vA
  obtain ⟨W2, hW2⟩ : ∃ W2, W1.alloc (.cells #[.int .i64 0, .int .i64 0, .int .i64 0, .slice none 0 0, .slice none 0 0] 45) = W2 := ⟨_, rfl⟩
  have vR : VarH W1.heap.size 0 0 0 (.slice none 0 0) (.slice none 0 0) W2 ∧ Below W1.heap.size W1 W2 ∧ W2.heap.size = W1.heap.size + 1 := by subst hW2; exact ⟨VarH.new _ _ _ _ _ _ _, alloc_below _ _, by simp⟩
  obtain ⟨vR, b2, s2⟩ := vR
  replace vA := Lib.hid (vA.below b2 vA.lt)
  rw [s1] at vR s2
  replace vR := Lib.hid vR
  have HB := Lib.hid (b1.trans (b2.mono b1.size))
  have HR := Lib.hid (h.below HB.out)
  have HN := Lib.hid (And.intro hn1 hn2)
  have HZ := Lib.hid (And.intro z1 z2)
  have HNB : Hid (∀ ad, am = some ad → lm = [] ∨ ad.block < w.heap.size) := by
    rintro ad rfl
    rcases h.hm with q | ⟨g, off, e, q, _⟩
    · exact .inl q
    · cases e; exact .inr q
  clear b1 b2 h hn1 hn2 z1 z2
  go_enter Try.func40, Try.ntmps40
  go_upto_region 1 with fail
  clear hW1 hW2 s1
  obtain ⟨a0, a1, a2, a3, a4⟩ := vA.out.five
  obtain ⟨f0, f1, f2, f3, f4⟩ := vA.out.soft
  have HS := Lib.hid s2
  clear s2
  have own0 := Own.start (K := KL) W2 W2.heap.size (Nat.le_refl _)
  have bl0 := alloc_below W2 (.cells #[] 2)
  obtain ⟨W3, hW3⟩ : ∃ W3, W2.alloc (.cells #[] 2) = W3 := ⟨_, rfl⟩
  have hW3' : W2.alloc (Obj.cells #[] KL.e) = W3 := hW3
  rw [hW3'] at own0
  rw [hW3] at bl0
  have k3 := HR.out.hc.below bl0
  replace vA := Lib.hid (vA.out.below bl0 vA.out.lt)
  obtain ⟨c0, c1, c2, c3, c4⟩ := vA.out.five
  obtain ⟨e0, e1, e2, e3, e4⟩ := vA.out.soft
  have HK := Lib.hid k3
  have HO := Lib.hid own0
  have HBL := Lib.hid bl0
  clear k3 own0 bl0 a0 a1 a2 a3 a4 f0 f1 f2 f3 f4 hW3'
  have hw2 : W2.heap.size ≤ W3.heap.size := HBL.out.size
  go_wp2_with (at_builtin; refine app_any okL rfl _ _ rfl W2.heap.size hw2 _ _ rfl HO.out ac nc cc lc rfl HR.out.nc HZ.out.1 HK.out (by have h1 := HR.out.nc; have h2 := HN.out; simp only at h1; simp; omega) (fun h => by cases h) ?_)
  intro v4 W4 own4 b4 nv4
  rcases own4.lst with ⟨q, _⟩ | ⟨g, cg, rfl, hg, hgc, _, L4⟩
  · exact absurd q nv4
  have hs1 := HS.out
  replace vA := Lib.hid ((vA.out.below b4 (by omega)).setC (.slice (some ⟨g, 0, none⟩) lc.length cg))
  have b34 := HBL.out.trans b4
  replace vR := Lib.hid ((vR.out.below b34 (by omega)).but (But.setCell w.heap.size 3 W4 (.slice (some ⟨g, 0, none⟩) lc.length cg)) (by omega))
  replace HB := Lib.hid ((HB.out.trans (b34.mono HB.out.size)).setCell (p := ⟨w.heap.size, 3, none⟩) (Nat.le_refl _) (.slice (some ⟨g, 0, none⟩) lc.length cg))
  have HKM : Hid (HoldsE KL (W4.setCell ⟨w.heap.size, 3, none⟩ (.slice (some ⟨g, 0, none⟩) lc.length cg)) am lm) := by
    by_cases q : lm = []
    · exact .inl q
    · refine (HR.out.hm.below b34).but (But.setCell w.heap.size 3 W4 (.slice (some ⟨g, 0, none⟩) lc.length cg)) ?_
      intro ad hd
      rcases HNB.out ad hd with q2 | q2
      · exact absurd q2 q
      · omega
  have LG := Lib.hid (L4.but (But.setCell w.heap.size 3 W4 (.slice (some ⟨g, 0, none⟩) lc.length cg)) (by omega))
  have HG := Lib.hid (And.intro hg hgc)
  obtain ⟨a0, a1, a2, a3, a4⟩ := (VarH.below (C := .slice ac nc cc) (M := .slice am nm cm) (w' := W4) (B := W2.heap.size) ⟨by omega, c0, c1, c2, c3, c4, e0, e1, e2, e3, e4⟩ b4 (by omega)).five
  obtain ⟨f0, f1, f2, f3, f4⟩ := (VarH.below (C := .slice ac nc cc) (M := .slice am nm cm) (w' := W4) (B := W2.heap.size) ⟨by omega, c0, c1, c2, c3, c4, e0, e1, e2, e3, e4⟩ b4 (by omega)).soft
  clear c0 c1 c2 c3 c4 e0 e1 e2 e3 e4 own4 b34 b4 L4 hg hgc nv4 hw2 HO HK
  go_upto_region 2 with fail
  clear a0 a1 a2 a3 a4 f0 f1 f2 f3 f4 hW3 hs1
  generalize W4.setCell ⟨w.heap.size, 3, none⟩ (.slice (some ⟨g, 0, none⟩) lc.length cg) = W5 at *
  have hw5 := vR.out.lt
  have hg5 : g < W5.heap.size := LG.out.lt
  have HG5 := Lib.hid hg5
  have HW5 := Lib.hid hw5
  clear hg5 hw5
  have own0 := Own3.start W5 W5.heap.size (Nat.le_refl _)
  have bl0 := alloc_below W5 (.cells #[] 74)
  obtain ⟨W6, hW6⟩ : ∃ W6, W5.alloc (.cells #[] 74) = W6 := ⟨_, rfl⟩
  rw [hW6] at own0 bl0
  have k6 := HKM.out.below bl0
  replace vA := Lib.hid (vA.out.below bl0 vA.out.lt)
  replace vR := Lib.hid (vR.out.below bl0 vR.out.lt)
  replace LG := Lib.hid (LG.out.below bl0 LG.out.lt)
  obtain ⟨c0, c1, c2, c3, c4⟩ := vA.out.five
  obtain ⟨e0, e1, e2, e3, e4⟩ := vA.out.soft
  have HK := Lib.hid k6
  have HO := Lib.hid own0
  have HBL := Lib.hid bl0
  clear k6 own0 bl0
  have hw6 : W5.heap.size ≤ W6.heap.size := HBL.out.size
  go_wp2_with (at_builtin; refine app3_any rfl _ _ rfl W5.heap.size hw6 _ _ _ rfl HO.out am nm cm lm rfl HR.out.nm HZ.out.2 HK.out (by have h2 := HN.out; omega) (fun h => by cases h) ?_)
  intro v7 W7 own7 b7 nv7
  obtain ⟨hl7, ⟨q, _⟩ | ⟨m, cm7, rfl, hm7, hmc, _, L7⟩⟩ := own7.lst
  · exact absurd q nv7
  have HM7 := Lib.hid (And.intro hm7 hmc)
  replace vA := Lib.hid ((vA.out.below b7 (by have := HW5.out; omega)).setM (.slice (some ⟨m, 0, none⟩) nm cm7))
  have b67 := HBL.out.trans b7
  replace vR := Lib.hid ((vR.out.below b7 HW5.out).but (But.setCell w.heap.size 4 W7 (.slice (some ⟨m, 0, none⟩) nm cm7)) (by omega))
  replace HB := Lib.hid ((HB.out.trans (b67.mono HB.out.size)).setCell (p := ⟨w.heap.size, 4, none⟩) (Nat.le_refl _) (.slice (some ⟨m, 0, none⟩) nm cm7))
  replace LG := Lib.hid ((LG.out.below b7 HG5.out).but (But.setCell w.heap.size 4 W7 (.slice (some ⟨m, 0, none⟩) nm cm7)) (by have := HG.out; have := HS.out; omega))
  have LM := Lib.hid (L7.but (But.setCell w.heap.size 4 W7 (.slice (some ⟨m, 0, none⟩) nm cm7)) (by have := HW5.out; omega))
  obtain ⟨a0, a1, a2, a3, a4⟩ := (VarH.below (C := .slice (some ⟨g, 0, none⟩) lc.length cg) (M := .slice am nm cm) (w' := W7) (B := W5.heap.size) ⟨by have := HW5.out; omega, c0, c1, c2, c3, c4, e0, e1, e2, e3, e4⟩ b7 (by have := HW5.out; omega)).five
  obtain ⟨f0, f1, f2, f3, f4⟩ := (VarH.below (C := .slice (some ⟨g, 0, none⟩) lc.length cg) (M := .slice am nm cm) (w' := W7) (B := W5.heap.size) ⟨by have := HW5.out; omega, c0, c1, c2, c3, c4, e0, e1, e2, e3, e4⟩ b7 (by have := HW5.out; omega)).soft
  clear c0 c1 c2 c3 c4 e0 e1 e2 e3 e4 own7 b67 b7 L7 hm7 hmc nv7 hw6 HO HK
  go_upto_region 3 with fail
  clear a0 a1 a2 a3 a4 f0 f1 f2 f3 f4 hW6
  generalize W7.setCell ⟨w.heap.size, 4, none⟩ (.slice (some ⟨m, 0, none⟩) nm cm7) = W8 at *
  obtain ⟨a0, a1, a2, a3, a4⟩ := vA.out.five
  obtain ⟨x0, x1, x2, x3, x4⟩ := vR.out.five
  obtain ⟨y0, y1, y2, y3, y4⟩ := vR.out.soft
  have HL7 := Lib.hid hl7
  clear hl7
  go_wp2_with fail
  obtain ⟨d0, d1, d2, d3, d4⟩ := (vR.out.set k b c (.slice (some ⟨g, 0, none⟩) lc.length cg) (.slice (some ⟨m, 0, none⟩) nm cm7)).five
  have HBW := set5_below (g := w.heap.size + 1) (x0 := .int .i64 k) (x1 := .int .i64 b) (x2 := .int .i64 c) (x3 := .slice (some ⟨g, 0, none⟩) lc.length cg) (x4 := .slice (some ⟨m, 0, none⟩) nm cm7) HB.out (by omega)
  have HBT := set5_but W8 (w.heap.size + 1) (.int .i64 k) (.int .i64 b) (.int .i64 c) (.slice (some ⟨g, 0, none⟩) lc.length cg) (.slice (some ⟨m, 0, none⟩) nm cm7)
  change bodyPost _ _ _ _ _ (set5 W8 (w.heap.size + 1) (.int .i64 k) (.int .i64 b) (.int .i64 c) (.slice (some ⟨g, 0, none⟩) lc.length cg) (.slice (some ⟨m, 0, none⟩) nm cm7))
  generalize set5 W8 (w.heap.size + 1) (.int .i64 k) (.int .i64 b) (.int .i64 c) (.slice (some ⟨g, 0, none⟩) lc.length cg) (.slice (some ⟨m, 0, none⟩) nm cm7) = WX at *
  have HF : CopyP ⟨k, b, c, lc, lm⟩ w (.returned (.agg #[.int .i64 k, .int .i64 b, .int .i64 c, .slice (some ⟨g, 0, none⟩) lc.length cg, .slice (some ⟨m, 0, none⟩) nm cm7])) WX :=
    ⟨g, m, nm, cg, cm7, rfl, HL7.out, HG.out.2, HM7.out.2, LG.out.but HBT (by have := HG.out; have := HS.out; omega), LM.out.but HBT (by have := HM7.out; have := HW5.out; omega), by have := HG.out; have := HS.out; omega, by have := HG5.out; have := HM7.out; omega, HBW⟩
  simp [bodyPost, results, Try.results40, go_sem, d0, d1, d2, d3, d4]
  exact HF
end Go.Proofs.Ytebdlmjpgohngaa
