/-
  HISTOGRAMS: hist.Add, of any histogram that a variable of the caller's holds. Condition: each number is of 64 bits with a sign.
-/
import Derived.Test.YtebdlmjpgohngaaHisI
namespace Go.Proofs.Ytebdlmjpgohngaa
open Go.RowKit

/-- All blocks but two are as they were. -/
structure But2 (g m : Nat) (w w' : World) : Prop where
  os : w'.os = w.os
  tape : w'.tape = w.tape
  output : w'.output = w.output
  size : w.heap.size ≤ w'.heap.size
  block : ∀ k, k < w.heap.size → k ≠ g → k ≠ m → w'.heap[k]? = w.heap[k]?
theorem But.fst {g m : Nat} {w w' : World} (h : But g w w') : But2 g m w w' := ⟨h.os, h.tape, h.output, h.size, fun k hk h1 _ => h.block k hk h1⟩
theorem But.snd {g m : Nat} {w w' : World} (h : But m w w') : But2 g m w w' := ⟨h.os, h.tape, h.output, h.size, fun k hk _ h2 => h.block k hk h2⟩
theorem But2.of_below {g m : Nat} {w w' : World} (h : Below w.heap.size w w') : But2 g m w w' := ⟨h.os, h.tape, h.output, h.size, fun k hk _ _ => h.block k hk⟩
theorem But2.refl (g m : Nat) (w : World) : But2 g m w w := ⟨rfl, rfl, rfl, Nat.le_refl _, fun _ _ _ _ => rfl⟩
theorem But2.trans {g m : Nat} {w1 w2 w3 : World} (h : But2 g m w1 w2) (k : But2 g m w2 w3) : But2 g m w1 w3 :=
  ⟨k.os.trans h.os, k.tape.trans h.tape, k.output.trans h.output, Nat.le_trans h.size k.size, fun i hi h1 h2 => (k.block i (Nat.lt_of_lt_of_le hi h.size) h1 h2).trans (h.block i hi h1 h2)⟩
theorem But2.below {g m B : Nat} {w w' : World} (h : But2 g m w w') (hg : B ≤ g) (hm : B ≤ m) (hB : B ≤ w.heap.size) : Below B w w' :=
  ⟨h.os, h.tape, h.output, h.size, fun k hk => h.block k (by omega) (by omega) (by omega)⟩
theorem But2.cell {g m : Nat} {w w' : World} (h : But2 g m w w') {p : Addr} (hp : p.block < w.heap.size) (h1 : p.block ≠ g) (h2 : p.block ≠ m) : w'.cell? p = w.cell? p := World.cell?_of_block (w := w) (h.block p.block hp h1 h2)
theorem But2.frozen {g m : Nat} {w w' : World} (h : But2 g m w w') {p : Addr} (hp : p.block < w.heap.size) (h1 : p.block ≠ g) (h2 : p.block ≠ m) : w'.frozen? p = w.frozen? p := World.frozen?_of_block (w := w) (h.block p.block hp h1 h2)
theorem VarH.but2 {v g m : Nat} {k b c : Int} {C M : Value} {w w' : World} (h : VarH v k b c C M w) (hb : But2 g m w w') (h1 : v ≠ g) (h2 : v ≠ m) : VarH v k b c C M w' :=
  ⟨Nat.lt_of_lt_of_le h.lt hb.size, (hb.cell (by exact h.lt) h1 h2).trans h.c0, (hb.cell (by exact h.lt) h1 h2).trans h.c1, (hb.cell (by exact h.lt) h1 h2).trans h.c2, (hb.cell (by exact h.lt) h1 h2).trans h.c3, (hb.cell (by exact h.lt) h1 h2).trans h.c4,
    (hb.frozen (by exact h.lt) h1 h2).trans h.f0, (hb.frozen (by exact h.lt) h1 h2).trans h.f1, (hb.frozen (by exact h.lt) h1 h2).trans h.f2, (hb.frozen (by exact h.lt) h1 h2).trans h.f3, (hb.frozen (by exact h.lt) h1 h2).trans h.f4⟩
theorem Lst.but2 {g m b off : Nat} {l : List Int} {w w' : World} (h : Lst KL b off l w) (hb : But2 g m w w') (h1 : b ≠ g) (h2 : b ≠ m) : Lst KL b off l w' :=
  h.kept (hb.block b h.lt h1 h2)

/-- Where a histogram's numbers lie. -/
def Rows (C M : Value) (g m : Nat) (d : HD) (w : World) : Prop :=
  (d = zD ∧ C = .slice none 0 0 ∧ M = .slice none 0 0) ∨
  (∃ nm cc cm, C = .slice (some ⟨g, 0, none⟩) d.lc.length cc ∧ M = .slice (some ⟨m, 0, none⟩) nm cm ∧ d.lm.length = nm * 3 ∧ d.lc.length ≤ cc ∧ nm ≤ cm ∧ Lst KL g 0 d.lc w ∧ Lst KL m 0 d.lm w)
/-- A variable holds a histogram of the caller's own. -/
def Kept (v g m : Nat) (d : HD) (w : World) : Prop := ∃ C M, VarH v d.k d.b d.c C M w ∧ Rows C M g m d w ∧ Wholes d.lc ∧ Wholes d.lm ∧ g ≠ m ∧ v ≠ g ∧ v ≠ m
theorem Kept.step {v g m : Nat} {d : HD} {w w' : World} (h : Kept v g m d w) (hV : ∀ k b c C M, VarH v k b c C M w → VarH v k b c C M w') (hL : ∀ b l, b = g ∨ b = m → Lst KL b 0 l w → Lst KL b 0 l w') : Kept v g m d w' := by
  obtain ⟨C, M, hv, hr, h1, h2, h3, h4, h5⟩ := h
  refine ⟨C, M, hV _ _ _ _ _ hv, ?_, h1, h2, h3, h4, h5⟩
  rcases hr with hr | ⟨nm, cc, cm, e1, e2, e3, e4, e5, l1, l2⟩
  · exact .inl hr
  · exact .inr ⟨nm, cc, cm, e1, e2, e3, e4, e5, hL g _ (.inl rfl) l1, hL m _ (.inr rfl) l2⟩
theorem Kept.below {v g m : Nat} {d : HD} {w w' : World} (h : Kept v g m d w) (hb : Below w.heap.size w w') : Kept v g m d w' :=
  h.step (fun _ _ _ _ _ q => q.below hb q.lt) (fun _ _ _ q => q.below hb q.lt)
theorem Kept.but2 {v g m a b : Nat} {d : HD} {w w' : World} (h : Kept v g m d w) (hb : But2 a b w w') (h1 : v ≠ a) (h2 : v ≠ b) (h3 : g ≠ a) (h4 : g ≠ b) (h5 : m ≠ a) (h6 : m ≠ b) : Kept v g m d w' :=
  h.step (fun _ _ _ _ _ q => q.but2 hb h1 h2) (fun c l e q => by
    rcases e with rfl | rfl
    · exact q.but2 hb h3 h4
    · exact q.but2 hb h5 h6)
theorem Kept.drew {v g m : Nat} {d : HD} {w : World} (h : Kept v g m d w) : Kept v g m d w.drew := h.step (fun _ _ _ _ _ q => q.drew) (fun _ _ _ q => q.drew)
theorem Kept.drewN {v g m : Nat} {d : HD} {w : World} (h : Kept v g m d w) (n : Nat) : Kept v g m d (w.drewN n) := h.step (fun _ _ _ _ _ q => q.drewN n) (fun _ _ _ q => q.drewN n)
theorem Kept.alloc {v g m : Nat} {d : HD} {w : World} (h : Kept v g m d w) (o : Obj) : Kept v g m d (w.alloc o) := h.below (alloc_below w o)
/-- As it is read. -/
theorem Kept.read {v g m : Nat} {d : HD} {w : World} (h : Kept v g m d w) : ∃ ac nc cc am nm cm, VarH v d.k d.b d.c (.slice ac nc cc) (.slice am nm cm) w ∧ Reads d ac nc am nm w := by
  obtain ⟨C, M, hv, hr, h1, h2, h3, h4, h5⟩ := h
  rcases hr with ⟨rfl, rfl, rfl⟩ | ⟨nm, cc, cm, rfl, rfl, e3, e4, e5, l1, l2⟩
  · exact ⟨none, 0, 0, none, 0, 0, hv, Reads.zero w⟩
  · exact ⟨_, _, cc, _, nm, cm, hv, ⟨rfl, e3, l1.holds, l2.holds, h1, h2⟩⟩
/-- What is made in one variable's place. -/
theorem NewP.kept {k b c : Int} {p q : Nat} {w' : World} {g m : Nat} {v : Nat} (hv : VarH v k b c (.slice (some ⟨g, 0, none⟩) p p) (.slice (some ⟨m, 0, none⟩) q q) w') (h1 : Lst KL g 0 (List.replicate p 0) w') (h2 : Lst KL m 0 (List.replicate (q * 3) 0) w') (h3 : g ≠ m) (h4 : v ≠ g) (h5 : v ≠ m) :
    Kept v g m ⟨k, b, c, List.replicate p 0, List.replicate (q * 3) 0⟩ w' := by
  have z : ∀ n, Wholes (List.replicate n (0 : Int)) := by
    intro n j hj
    simp at hj
    rw [show (List.replicate n (0 : Int)).getD j 0 = 0 by simp [List.getD_eq_getElem?_getD, hj]]
    exact ⟨by omega, by omega⟩
  exact ⟨_, _, hv, .inr ⟨q, p, q, by simp, rfl, by simp, by simp, Nat.le_refl _, h1, h2⟩, z _, z _, h3, h4, h5⟩

/-- Where a target's count stands. -/
def place (d : HD) (bin t : Int) : Nat := (bin * d.c + t).toNat
/-- The error of targets more; what the histogram is then. -/
def addE (d : HD) (bin t v : Int) : Int :=
  if rightD d = false then 8 else if bin < 0 ∨ d.b ≤ bin then 5 else if d.k = 0 ∧ (t < 0 ∨ d.c ≤ t) then 5 else if v < 0 then 1 else
  if d.k = 1 then adE t v (d.lm.getD (bin.toNat * 3) 0) (d.lm.getD (bin.toNat * 3 + 1) 0) (d.lm.getD (bin.toNat * 3 + 2) 0) else plE (d.lc.getD (place d bin t) 0) v
def lm3 (l : List Int) (n : Nat) (x y z : Int) : List Int := ((l.set (n * 3) x).set (n * 3 + 1) y).set (n * 3 + 2) z
def addD (d : HD) (bin t v : Int) : HD :=
  if addE d bin t v ≠ 0 then d else
  if d.k = 1 then ⟨d.k, d.b, d.c, d.lc, lm3 d.lm bin.toNat (plV (d.lm.getD (bin.toNat * 3) 0) v) (plV (d.lm.getD (bin.toNat * 3 + 1) 0) (t * v)) (plV (d.lm.getD (bin.toNat * 3 + 2) 0) (t * (t * v)))⟩ else
  ⟨d.k, d.b, d.c, d.lc.set (place d bin t) (plV (d.lc.getD (place d bin t) 0) v), d.lm⟩

theorem Lst.sub3 {m n : Nat} {l : List Int} {w : World} (h : Lst KL m 0 l w) (hn : n * 3 + 2 < l.length) : Lst KL m (n * 3) [l.getD (n * 3) 0, l.getD (n * 3 + 1) 0, l.getD (n * 3 + 2) 0] w := by
  have h0 := h.cell (n * 3) (by omega)
  have h1 := h.cell (n * 3 + 1) (by omega)
  have h2 := h.cell (n * 3 + 2) (by omega)
  have f0 := h.frozen (n * 3) (by omega)
  have f1 := h.frozen (n * 3 + 1) (by omega)
  have f2 := h.frozen (n * 3 + 2) (by omega)
  rw [Nat.zero_add] at h0 h1 h2 f0 f1 f2
  refine ⟨h.lt, fun j hj => ?_, fun j hj => ?_⟩
  · rcases j with _ | _ | _ | j
    · exact h0
    · exact h1
    · exact h2
    · simp at hj; omega
  · rcases j with _ | _ | _ | j
    · exact f0
    · exact f1
    · exact f2
    · simp at hj; omega
theorem lm3_len (l : List Int) (n : Nat) (x y z : Int) : (lm3 l n x y z).length = l.length := by simp [lm3]
theorem lm3_get (l : List Int) (n : Nat) (x y z : Int) (hn : n * 3 + 2 < l.length) (j : Nat) : (lm3 l n x y z).getD j 0 = if j = n * 3 then x else if j = n * 3 + 1 then y else if j = n * 3 + 2 then z else l.getD j 0 := by
  unfold lm3
  simp only [List.getD_eq_getElem?_getD]
  by_cases h2 : n * 3 + 2 = j
  · subst h2
    rw [List.getElem?_set_self (by simp; omega), if_neg (by omega), if_neg (by omega), if_pos rfl]; rfl
  · rw [List.getElem?_set_ne h2]
    by_cases h1 : n * 3 + 1 = j
    · subst h1
      rw [List.getElem?_set_self (by simp; omega), if_neg (by omega), if_pos rfl]; rfl
    · rw [List.getElem?_set_ne h1]
      by_cases h0 : n * 3 = j
      · subst h0
        rw [List.getElem?_set_self (by omega), if_pos rfl]; rfl
      · rw [List.getElem?_set_ne h0, if_neg (Ne.symm h0), if_neg (Ne.symm h1), if_neg (Ne.symm h2)]
theorem Lst.join3 {m n : Nat} {l : List Int} {x y z : Int} {w w' : World} (h : Lst KL m 0 l w) (hn : n * 3 + 2 < l.length) (o : Outs m (n * 3) 3 w w') (s : Lst KL m (n * 3) [x, y, z] w') : Lst KL m 0 (lm3 l n x y z) w' := by
  refine ⟨s.lt, fun j hj => ?_, fun j hj => ?_⟩
  · rw [lm3_len] at hj
    show w'.cell? ⟨m, 0 + j, none⟩ = some (.int .i64 ((lm3 l n x y z).getD j 0))
    rw [lm3_get l n x y z hn j, Nat.zero_add]
    by_cases h0 : j = n * 3
    · subst h0; rw [if_pos rfl]; exact s.cell 0 (by simp)
    · rw [if_neg h0]
      by_cases h1 : j = n * 3 + 1
      · subst h1; rw [if_pos rfl]; exact s.cell 1 (by simp)
      · rw [if_neg h1]
        by_cases h2 : j = n * 3 + 2
        · subst h2; rw [if_pos rfl]; exact s.cell 2 (by simp)
        · rw [if_neg h2, o.cell j (by omega)]
          have := h.cell j hj
          rw [Nat.zero_add] at this
          exact this
  · rw [lm3_len] at hj
    rw [Nat.zero_add, o.frozen j]
    have := h.frozen j hj
    rw [Nat.zero_add] at this
    exact this
theorem Lst.sub1 {m n : Nat} {l : List Int} {w : World} (h : Lst KL m 0 l w) (hn : n < l.length) : Lst KL m n [l.getD n 0] w := by
  have h0 := h.cell n hn
  have f0 := h.frozen n hn
  rw [Nat.zero_add] at h0 f0
  refine ⟨h.lt, fun j hj => ?_, fun j hj => ?_⟩
  · obtain rfl : j = 0 := by simpa using hj
    exact h0
  · obtain rfl : j = 0 := by simpa using hj
    exact f0
theorem Lst.join1 {m n : Nat} {l : List Int} {x : Int} {w w' : World} (h : Lst KL m 0 l w) (o : Outs m n 1 w w') (s : Lst KL m n [x] w') : Lst KL m 0 (l.set n x) w' := by
  refine ⟨s.lt, fun j hj => ?_, fun j hj => ?_⟩
  · simp at hj
    rw [Nat.zero_add]
    by_cases h0 : n = j
    · subst h0
      rw [show (l.set n x).getD n KL.z = x by simp [List.getD_eq_getElem?_getD, hj]]
      exact s.cell 0 (by simp)
    · rw [show (l.set n x).getD j KL.z = l.getD j KL.z by simp [List.getD_eq_getElem?_getD, h0], o.cell j (by omega)]
      have := h.cell j hj
      rw [Nat.zero_add] at this
      exact this
  · simp at hj
    rw [Nat.zero_add, o.frozen j]
    have := h.frozen j hj
    rw [Nat.zero_add] at this
    exact this
end Go.Proofs.Ytebdlmjpgohngaa
