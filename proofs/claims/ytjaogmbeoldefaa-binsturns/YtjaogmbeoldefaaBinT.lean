/-
  TURN: a column turned by a permutation, in a row of the call's own; or why not. Condition: at most 2^20 cells and numbers.
-/
import Derived.Test.YtjaogmbeoldefaaBinS
namespace Go.Proofs.Ytjaogmbeoldefaa
open Go.RowKit

theorem cloneW_any (a : Option Addr) (n cap : Nat) (l : List Int) (hl : l.length = n) (hm : n ≤ 1048570) (ha : a = none → cap = 0) (w : World) (h : HoldsE KW w a l) :
    Calls Try.prog 40 #[.slice a n cap] w fun e w' => (∃ v, e = .returned v ∧ Own KW w' w.heap.size v l) ∧ Below w.heap.size w w' := by
  have q : ∀ (w : World) (a : Option Addr) (n c n' c' : Nat), (binOp .eql 40 (.slice a n c) (.slice none n' c')).run Try.prog w = .ok (.bool a.isNone) w := fun w a n c n' c' => Lib.run_eql_slice_nil w _ _ a n c n' c' Try.underlying40
  cases a with
  | none =>
    obtain rfl := ha rfl
    obtain rfl : l = [] := by
      rcases h with h | ⟨_, _, h, _⟩
      · exact h
      · cases h
    obtain rfl : n = 0 := hl.symm
    go_enter Try.func40, Try.ntmps40
    go_wp2
    go_ret
    exact ⟨⟨_, rfl, Own.nil _ _⟩, Below.refl _ _⟩
  | some ad =>
    subst hl
    have o0 := Own.start (K := KW) w w.heap.size (Nat.le_refl _)
    have b0 := (Below.refl w.heap.size w).alloc (Nat.le_refl _) (.cells #[] 59)
    have h0 := h.below b0
    have sz := b0.size
    go_enter Try.func40, Try.ntmps40
    go_wp2_with (at_builtin; refine app_any okW rfl _ _ rfl w.heap.size sz (.slice (some ⟨w.heap.size, 0, none⟩) 0 0) [] rfl o0 (some ad) _ _ l rfl rfl (fun h => by cases h) h0 (by simp; omega) (by simp) (fun v' w' hv hb hn => ?_))
    go_ret
    exact ⟨⟨_, rfl, by simpa using hv⟩, b0.trans hb⟩

/-- A matrix stored as a whole. -/
def put3 (w : World) (N : Nat) (r q : Int) (v : Value) : World := ((w.setCell ⟨N, 0, none⟩ (.int .i64 r)).setCell ⟨N, 1, none⟩ (.int .i64 q)).setCell ⟨N, 2, none⟩ v
theorem put3_facts {w : World} {N : Nat} {s t : Int} {u : Value} (h : M3 N s t u w) (r q : Int) (v : Value) : M3 N r q v (put3 w N r q v) ∧ But N w (put3 w N r q v) := by
  refine ⟨⟨by simpa [put3, World.setCell] using h.lt, ?_, ?_, ?_, ?_, ?_, ?_⟩, ((But.setCell N 0 w _).trans (But.setCell N 1 _ _)).trans (But.setCell N 2 _ _)⟩
  · unfold put3
    rw [World.cell?_setCell_other _ _ _ _ (by simp), World.cell?_setCell_other _ _ _ _ (by simp)]
    exact World.cell?_setCell_same _ _ _ h.c0
  · unfold put3
    rw [World.cell?_setCell_other _ _ _ _ (by simp)]
    exact World.cell?_setCell_same _ _ _ ((World.cell?_setCell_other _ _ _ _ (by simp)).trans h.c1)
  · exact World.cell?_setCell_same _ _ _ ((World.cell?_setCell_other _ _ _ _ (by simp)).trans ((World.cell?_setCell_other _ _ _ _ (by simp)).trans h.c2))
  · unfold put3; rw [World.frozen?_setCell, World.frozen?_setCell, World.frozen?_setCell]; exact h.f0
  · unfold put3; rw [World.frozen?_setCell, World.frozen?_setCell, World.frozen?_setCell]; exact h.f1
  · unfold put3; rw [World.frozen?_setCell, World.frozen?_setCell, World.frozen?_setCell]; exact h.f2

/-- Nothing is turned: the zero matrix and the error. -/
def NoTurn (e : Ending) : Prop := e = .returned (.tuple #[mx 0 0 (.slice none 0 0), .int .i64 8])
/-- May this column be turned by these numbers? -/
def MayTurn (r q x : Int) (n : Nat) (p : List Int) : Prop := (0 ≤ x ∧ x < q) ∧ fitB r q n = true ∧ permB p r = true

set_option maxRecDepth 20000 in
set_option maxHeartbeats 2000000 in
theorem turnM_no (r q x : Int) (a aP : Option Addr) (n c nP cP : Nat) (p : List Int) (hP : p.length = nP) (hPb : nP ≤ 1048576) (h64 : In64s p) (h : ¬ MayTurn r q x n p) (w : World) (hp : HoldsE KN w aP p) :
    Calls Try.prog 24 #[mx r q (.slice a n c), .int .i64 x, .slice aP nP cP] w fun e w' => NoTurn e ∧ Below w.heap.size w w' := by
  have HB1 := lay3_below w r q (.slice a n c)
  have HM1 := lay3_m w r q (.slice a n c)
  have HB2 := lay3_below (lay3 w r q (.slice a n c)) 0 0 (.slice none 0 0)
  have HM2 := lay3_m (lay3 w r q (.slice a n c)) 0 0 (.slice none 0 0)
  have hs1 := lay3_size w r q (.slice a n c)
  have HM := HM1.on HB2
  have HB := HB1.trans (HB2.mono HB1.size)
  rw [hs1] at HM2
  clear HB1 HM1 HB2 hs1
  unfold mx at *
  go_enter Try.func24, Try.ntmps24
  go_wp2_with fail
  change Calls _ _ _ (lay3 (lay3 w r q (.slice a n c)) 0 0 (.slice none 0 0)) _
  generalize lay3 (lay3 w r q (.slice a n c)) 0 0 (.slice none 0 0) = w0 at *
  obtain ⟨N, hN⟩ : ∃ N, w.heap.size = N := ⟨_, rfl⟩
  have HNN := Lib.hid hN
  rw [hN] at HM HM2 ⊢
  have hNw : w.heap.size ≤ N := Nat.le_of_eq hN
  clear hN
  have c1 := within_any x q w0
  have c2 := rightM_any r q a n c w0
  unfold mx at c2
  have hp0 := hp.below HB
  by_cases h1 : 0 ≤ x ∧ x < q
  · rw [decide_eq_true h1] at c1
    have hr : fitB r q n = false ∨ fitB r q n = true ∧ permB p r = false := by
      cases hf : fitB r q n with
      | false => exact .inl rfl
      | true =>
        cases hg : permB p r with
        | false => exact .inr ⟨rfl, rfl⟩
        | true => exact absurd ⟨h1, hf, hg⟩ h
    rcases hr with h2 | ⟨h2, h3⟩
    · rw [h2] at c2
      have m0 := HM.c0
      have m1 := HM.c1
      have m2 := HM.c2
      clear h h1 h2
      refine c1.mono ?_
      rintro e w' ⟨rfl, rfl⟩
      go_wp2_with fail
      refine c2.mono ?_
      rintro e w1 ⟨rfl, b1⟩
      have n0 := HM2.on b1
      have n0' := n0
      have HB1 := Lib.hid (HB.trans (b1.mono HB.size))
      clear b1 c1 c2 m0 m1 m2 hp hp0 HM HB
      obtain ⟨hlt, d0, d1, d2, f0, f1, f2⟩ := n0
      go_wp2_with fail
      change bodyPost _ _ _ _ _ (put3 w1 (N + 1) 0 0 (.slice none 0 0))
      obtain ⟨k1, k2⟩ := put3_facts n0' 0 0 (.slice none 0 0)
      have HB2 := HB1.out.trans (k2.below (by omega) HB1.out.size)
      obtain ⟨_, j0, j1, j2, _, _, _⟩ := k1
      generalize put3 w1 (N + 1) 0 0 (.slice none 0 0) = w9 at *
      refine bodyPost_ret (v := .tuple #[mx 0 0 (.slice none 0 0), .int .i64 8]) (by simp [mx, results, Try.results24, go_sem, j0, j1, j2]) rfl ?_
      exact ⟨rfl, HB2⟩
    · rw [h2] at c2
      have m0 := HM.c0
      have m1 := HM.c1
      have m2 := HM.c2
      clear h h1 h2
      refine c1.mono ?_
      rintro e w' ⟨rfl, rfl⟩
      go_wp2_with fail
      refine c2.mono ?_
      rintro e w1 ⟨rfl, b1⟩
      have n1 := HM2.on b1
      have HB1 := HB.trans (b1.mono HB.size)
      have m0 := HM.on b1
      have m3 := m0.c0
      have c3 := permutes_any aP nP cP p hP hPb h64 r w1 (hp.below HB1)
      rw [h3] at c3
      clear b1 c1 c2 m0 m1 m2 hp hp0 HM HB hP hPb h64 h3
      go_wp2_with fail
      refine c3.mono ?_
      rintro e w2 ⟨rfl, b2⟩
      have n0 := n1.on b2
      have n0' := n0
      have HB1 := Lib.hid (HB1.trans (b2.mono HB1.size))
      clear m3 n1 c3 b2
      obtain ⟨hlt, d0, d1, d2, f0, f1, f2⟩ := n0
      go_wp2_with fail
      change bodyPost _ _ _ _ _ (put3 w2 (N + 1) 0 0 (.slice none 0 0))
      obtain ⟨k1, k2⟩ := put3_facts n0' 0 0 (.slice none 0 0)
      have HB2 := HB1.out.trans (k2.below (by omega) HB1.out.size)
      obtain ⟨_, j0, j1, j2, _, _, _⟩ := k1
      generalize put3 w2 (N + 1) 0 0 (.slice none 0 0) = w9 at *
      refine bodyPost_ret (v := .tuple #[mx 0 0 (.slice none 0 0), .int .i64 8]) (by simp [mx, results, Try.results24, go_sem, j0, j1, j2]) rfl ?_
      exact ⟨rfl, HB2⟩
  · rw [decide_eq_false h1] at c1
    have m0 := HM.c0
    have m1 := HM.c1
    have n0 := HM2
    have n0' := n0
    have HB1 := Lib.hid HB
    refine c1.mono ?_
    rintro e w' ⟨rfl, rfl⟩
    clear h h1 c1 c2 m0 m1 hp hp0 HM HB HM2 hP hPb h64
    obtain ⟨hlt, d0, d1, d2, f0, f1, f2⟩ := n0
    go_wp2_with fail
    change bodyPost _ _ _ _ _ (put3 w0 (N + 1) 0 0 (.slice none 0 0))
    obtain ⟨k1, k2⟩ := put3_facts n0' 0 0 (.slice none 0 0)
    have HB2 := HB1.out.trans (k2.below (by omega) HB1.out.size)
    obtain ⟨_, j0, j1, j2, _, _, _⟩ := k1
    generalize put3 w0 (N + 1) 0 0 (.slice none 0 0) = w9 at *
    refine bodyPost_ret (v := .tuple #[mx 0 0 (.slice none 0 0), .int .i64 8]) (by simp [mx, results, Try.results24, go_sem, j0, j1, j2]) rfl ?_
    exact ⟨rfl, HB2⟩
end Go.Proofs.Ytjaogmbeoldefaa
