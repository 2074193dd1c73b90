/-
  HISTOGRAMS: combine, of numbers: into a list what a way makes of the numbers of two, one by one, up to the first for which it tells an error. Conditions: each number is of 64 bits with a sign; what is read first may be what is written; no more than 2^20 numbers.
-/
import Derived.Test.YtebdlmjpgohngaaHisB
namespace Go.Proofs.Ytebdlmjpgohngaa
open Go.RowKit

/-- How far it came: to the end, or up to the first error. -/
structure Ran (E : Nat → Int) (n k : Nat) (err : Int) : Prop where
  le : k ≤ n
  pre : ∀ i, i < k → E i = 0
  fin : (k = n ∧ err = 0) ∨ (k < n ∧ E k = err ∧ err ≠ 0)
theorem Ran.none (E : Nat → Int) : Ran E 0 0 0 := ⟨Nat.le_refl _, fun i h => by omega, .inl ⟨rfl, rfl⟩⟩
theorem Ran.all {E : Nat → Int} {n k : Nat} {err : Int} (h : Ran E n k err) (hz : ∀ i, i < n → E i = 0) : k = n ∧ err = 0 := by
  rcases h.fin with h1 | ⟨h1, h2, h3⟩
  · exact h1
  · exact absurd (h2.symm.trans (hz k h1)) h3
theorem Ran.same {E : Nat → Int} {n k k' : Nat} {err err' : Int} (h : Ran E n k err) (h' : Ran E n k' err') : k = k' ∧ err = err' := by
  have hk : k = k' := by
    rcases Nat.lt_trichotomy k k' with g | g | g
    · rcases h.fin with ⟨a, _⟩ | ⟨a, b, c⟩
      · have := h'.le; omega
      · exact absurd (b.symm.trans (h'.pre k g)) c
    · exact g
    · rcases h'.fin with ⟨a, _⟩ | ⟨a, b, c⟩
      · have := h.le; omega
      · exact absurd (b.symm.trans (h.pre k' g)) c
  subst hk
  refine ⟨rfl, ?_⟩
  rcases h.fin with ⟨a, b⟩ | ⟨a, b, c⟩ <;> rcases h'.fin with ⟨a', b'⟩ | ⟨a', b', c'⟩
  · rw [b, b']
  · omega
  · omega
  · rw [← b, ← b']

/-- The first so many numbers written. -/
def mixL (f : Nat → Int) (l : List Int) : Nat → List Int
  | 0 => l
  | k + 1 => (mixL f l k).set k (f k)
theorem mixL_len (f : Nat → Int) (l : List Int) (k : Nat) : (mixL f l k).length = l.length := by
  induction k with
  | zero => rfl
  | succ k ih => simp [mixL, ih]
theorem mixL_get (f : Nat → Int) (l : List Int) (k : Nat) (hk : k ≤ l.length) (j : Nat) : (mixL f l k).getD j 0 = if j < k then f j else l.getD j 0 := by
  induction k with
  | zero => rfl
  | succ k ih =>
    have ih := ih (by omega)
    have hl := mixL_len f l k
    simp only [mixL, List.getD_eq_getElem?_getD] at ih ⊢
    by_cases h : k = j
    · subst h
      rw [List.getElem?_set_self (by omega), if_pos (by omega)]; rfl
    · rw [List.getElem?_set_ne h, ih]
      by_cases h2 : j < k
      · rw [if_pos h2, if_pos (by omega)]
      · rw [if_neg h2, if_neg (by omega)]

theorem next_num {j n : Nat} (h : j < n) (hn : n ≤ 1048576) : wrap64 ((j : Int) + 1) = ((j + 1 : Nat) : Int) ∧ n - (intOf (Value.int .i64 (wrap64 ((j : Int) + 1)))).toNat < n - (intOf (Value.int .i64 (j : Int))).toNat := by
  have e : wrap64 ((j : Int) + 1) = ((j + 1 : Nat) : Int) := by unfold wrap64; omega
  rw [e]
  refine ⟨rfl, ?_⟩
  simp only [intOf]
  omega

/-- Beside some places, a block is as it was. -/
structure Outs (g o n : Nat) (w w' : World) : Prop where
  cell : ∀ k, (k < o ∨ o + n ≤ k) → w'.cell? ⟨g, k, none⟩ = w.cell? ⟨g, k, none⟩
  frozen : ∀ k, w'.frozen? ⟨g, k, none⟩ = w.frozen? ⟨g, k, none⟩
theorem Outs.refl (g o n : Nat) (w : World) : Outs g o n w w := ⟨fun _ _ => rfl, fun _ => rfl⟩
theorem Outs.below {g o n B : Nat} {w w1 w2 : World} (h : Outs g o n w w1) (b : Below B w1 w2) (hg : g < B) : Outs g o n w w2 :=
  ⟨fun k hk => (b.cell (by exact hg)).trans (h.cell k hk), fun k => (b.frozen (by exact hg)).trans (h.frozen k)⟩
theorem Outs.set {g o n j : Nat} {w w1 : World} (h : Outs g o n w w1) (hj : j < n) (v : Value) : Outs g o n w (w1.setCell ⟨g, o + j, none⟩ v) :=
  ⟨fun k hk => (World.cell?_setCell_other _ _ _ _ (by simp <;> omega)).trans (h.cell k hk), fun k => by rw [World.frozen?_setCell]; exact h.frozen k⟩
theorem Outs.drewN {g o n : Nat} {w w1 : World} (h : Outs g o n w w1) (k : Nat) : Outs g o n w (w1.drewN k) := ⟨h.cell, h.frozen⟩

/-- What combine leaves. -/
def CombP (E V : Nat → Int) (g o n : Nat) (l : List Int) (w : World) (e : Ending) (w' : World) : Prop :=
  ∃ k err, e = .returned (.int .i64 err) ∧ Ran E n k err ∧ Lst KL g o (mixL V l k) w' ∧ But g w w' ∧ Outs g o n w w'

theorem combL_nil (a : Option Addr) (c : Nat) (v1 v2 v3 : Value) (w : World) :
    Calls Try.prog 53 #[.slice a 0 c, v1, v2, v3] w fun e w' => e = .returned (.int .i64 0) ∧ w' = w := by
  go_enter Try.func53, Try.ntmps53
  go_wp2_with fail
  go_loopw [14] (fun iv wr => iv = .int .i64 0 ∧ wr = w) (fun _ _ => 0)
  case atStart => exact ⟨rfl, rfl⟩
  case round =>
    obtain ⟨rfl, rfl⟩ := hrel
    go_wp2_with fail
    go_ret
    exact ⟨rfl, rfl⟩

set_option maxHeartbeats 1000000 in
theorem combL_any (F : Nat) (V E : Int → Int → Int) (hF : Way F V E) (gi oi ga oa gb ob n ci na ca nb cb : Nat) (l : List Int) (X Y : Nat → Int) (hl : l.length = n) (hn : n ≤ 1048576) (hna : n ≤ na) (hnb : n ≤ nb) (w : World)
    (hI : Lst KL gi oi l w) (cX : ∀ j, j < n → w.cell? ⟨ga, oa + j, none⟩ = some (.int .i64 (X j))) (gY : gb < w.heap.size) (cY : ∀ j, j < n → w.cell? ⟨gb, ob + j, none⟩ = some (.int .i64 (Y j)))
    (ha : ga ≠ gi ∨ oa = oi) (hb : gb ≠ gi) (wX : ∀ j, j < n → Whole (X j)) (wY : ∀ j, j < n → Whole (Y j)) :
    Calls Try.prog 53 #[.slice (some ⟨gi, oi, none⟩) n ci, .slice (some ⟨ga, oa, none⟩) na ca, .slice (some ⟨gb, ob, none⟩) nb cb, .func (.func F) #[] #[]] w fun e w' =>
      CombP (fun j => E (X j) (Y j)) (fun j => V (X j) (Y j)) gi oi n l w e w' := by
  have eF := hF.enter
  have HR : ∀ j w, j < n → Calls Try.prog F #[.int .i64 (X j), .int .i64 (Y j)] w fun e w' => e = .returned (.tuple #[.int .i64 (V (X j) (Y j)), .int .i64 (E (X j) (Y j))]) ∧ w' = w :=
    fun j w hj => (hF.run _ _ w (wX j hj) (wY j hj)).mono fun _ _ h => ⟨h.1, h.2.symm⟩
  have HNA := Lib.hid hna
  have HNB := Lib.hid hnb
  have HL := Lib.hid hl
  have HN := Lib.hid hn
  clear hF wX wY hna hnb hl hn
  go_enter Try.func53, Try.ntmps53
  go_wp2_with fail
  go_loopw [14] (fun iv wr => ∃ j : Nat, j ≤ n ∧ iv = .int .i64 j ∧ Lst KL gi oi (mixL (fun j => V (X j) (Y j)) l j) wr ∧ But gi w wr ∧ Outs gi oi n w wr ∧ (∀ i, j ≤ i → i < n → wr.cell? ⟨ga, oa + i, none⟩ = some (.int .i64 (X i))) ∧ Hid (∀ i, i < j → E (X i) (Y i) = 0)) (fun iv _ => n - (intOf iv).toNat)
  case atStart => exact ⟨0, by omega, rfl, hI, But.refl _ _, Outs.refl _ _ _ _, fun i _ h => cX i h, fun i h => by omega⟩
  case round =>
    obtain ⟨j, hj, rfl, hL, hB, hO, hX, HE⟩ := hrel
    by_cases hlt : j < n
    · have i1 : (j : Int) < (n : Int) := by omega
      have i2 : (j : Int) < (na : Int) := by have := HNA.out; omega
      have i3 : (j : Int) < (nb : Int) := by have := HNB.out; omega
      have c1 := hX j (Nat.le_refl _) hlt
      have c2 : wr.cell? ⟨gb, ob + j, none⟩ = some (.int .i64 (Y j)) := (hB.cell gY hb).trans (cY j hlt)
      have hc := HR j wr hlt
      have hLj : j < (mixL (fun j => V (X j) (Y j)) l j).length := by rw [mixL_len, HL.out]; exact hlt
      have c3 := hL.cell j hLj
      have f3 := hL.frozen j hLj
      have HX := Lib.hid hX
      have HO := Lib.hid hO
      have HLT := Lib.hid hlt
      have HXJ := Lib.hid hj
      have HLJ := Lib.hid hLj
      clear hX cX cY hI hlt hj hLj hO
      generalize hx : X j = x at *
      generalize hy : Y j = y at *
      obtain ⟨v, HV⟩ : ∃ v, Hid (V x y = v) := ⟨_, rfl⟩
      obtain ⟨e, HEV⟩ : ∃ e, Hid (E x y = e) := ⟨_, rfl⟩
      have hc := hc
      rw [HV.out, HEV.out] at hc
      have hc : ∀ wq, wq = wr ∨ True → Calls Try.prog F #[.int .i64 x, .int .i64 y] wq fun e' w' => e' = .returned (.tuple #[.int .i64 v, .int .i64 e]) ∧ w' = wq := by
        intro wq _
        have := HR j wq HLT.out
        rw [hx, hy, HV.out, HEV.out] at this
        exact this
      have HXY := Lib.hid (And.intro hx hy)
      clear hx hy HR
      go_wp2_with fail
      go_quiet ((refine Calls.quiet_of_same (hc _ (.inr trivial))))
      clear hc c1 c2
      by_cases h : e = 0
      · have HE2 : Hid (∀ i, i < j + 1 → E (X i) (Y i) = 0) := by
          intro i hi
          by_cases g : i < j
          · exact HE.out i g
          · obtain rfl : i = j := by omega
            rw [HXY.out.1, HXY.out.2, HEV.out, h]
        subst h
        clear HE
        have hL2 := fun k => (hL.drewN k).set j v HLJ.out
        have HXX : Hid (∀ k i, j + 1 ≤ i → i < n → ((wr.drewN k).setCell ⟨gi, oi + j, none⟩ (.int .i64 v)).cell? ⟨ga, oa + i, none⟩ = some (.int .i64 (X i))) := by
          intro k i hi hn
          rw [World.cell?_setCell_other _ _ _ _ (by simp; omega)]
          exact HX.out i (by omega) hn
        have HBB : Hid (∀ k, But gi w ((wr.drewN k).setCell ⟨gi, oi + j, none⟩ (.int .i64 v))) := fun k => (hB.drewN k).trans (But.setCell _ _ _ _)
        have HMX : Hid ((mixL (fun j => V (X j) (Y j)) l j).set j v = mixL (fun j => V (X j) (Y j)) l (j + 1)) := by
          show _ = _
          simp only [mixL]
          rw [HXY.out.1, HXY.out.2, HV.out]
        have HL2 : Hid (∀ k, Lst KL gi oi (mixL (fun j => V (X j) (Y j)) l (j + 1)) ((wr.drewN k).setCell ⟨gi, oi + j, none⟩ (.int .i64 v))) := by
          intro k
          rw [← HMX.out]; exact hL2 k
        have HJL := HLT.out
        clear hL2 hL hB HX HMX
        go_wp2_with fail
        go_roundw
        case rel => exact ⟨j + 1, HJL, congrArg (Value.int .i64) (next_num HJL HN.out).1, HL2.out _, HBB.out _, (HO.out.drewN _).set HLT.out _, HXX.out _, HE2⟩
        case measure => exact (next_num HJL HN.out).2
      · have gb : (e != 0) = true := by simpa using h
        have HRan : Hid (Ran (fun j => E (X j) (Y j)) n j e) := ⟨HXJ.out, HE.out, .inr ⟨HLT.out, by show E (X j) (Y j) = e; rw [HXY.out.1, HXY.out.2, HEV.out], h⟩⟩
        clear h
        go_wp2_with fail
        go_ret
        exact ⟨j, e, rfl, HRan.out, hL.drewN _, hB.drewN _, HO.out.drewN _⟩
    · obtain rfl : j = n := by omega
      have HRan : Hid (Ran (fun j => E (X j) (Y j)) j j 0) := ⟨Nat.le_refl _, HE.out, .inl ⟨rfl, rfl⟩⟩
      clear hX cX cY hlt HR
      go_wp2_with fail
      go_ret
      exact ⟨j, 0, rfl, HRan.out, hL, hB, hO⟩
end Go.Proofs.Ytebdlmjpgohngaa
