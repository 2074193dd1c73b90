/-
  PERMUTATIONS of the numbers from 0 on, as counts; MATRICES: a matrix as a value; whether it is right, by the program and by the document. Condition: rows and columns of 64 bits with a sign.
-/
import Derived.Test.YtjaogmbeoldefaaRows
import Derived.Test.YtjaogmbeoldefaaOwnE
namespace Go.Proofs.Ytjaogmbeoldefaa
open Go.RowKit

/-- The numbers from 0 to ahead of its length, each once. -/
def PermL (p : List Int) : Prop := ∀ i, i < p.length → p.count ((i : Nat) : Int) = 1
instance (p : List Int) : Decidable (PermL p) := inferInstanceAs (Decidable (∀ i, i < p.length → _))
/-- Is it a permutation of so many? -/
def permB (p : List Int) (r : Int) : Bool := decide (((p.length : Nat) : Int) = r ∧ PermL p)
/-- Each is within, and none has been ahead of it. -/
def Chk (p : List Int) (k : Nat) : Prop := ∀ t, t < k → (0 ≤ p.getD t 0 ∧ p.getD t 0 < (p.length : Int)) ∧ ∀ i, i < t → p.getD i 0 ≠ p.getD t 0

def sumc (p : List Int) : Nat → Nat
  | 0 => 0
  | n + 1 => sumc p n + p.count ((n : Nat) : Int)
theorem countP_succ (n : Nat) : ∀ p : List Int, p.countP (fun x => decide (0 ≤ x ∧ x < ((n + 1 : Nat) : Int))) = p.countP (fun x => decide (0 ≤ x ∧ x < (n : Int))) + p.count ((n : Nat) : Int)
  | [] => rfl
  | a :: l => by
    rw [List.countP_cons, List.countP_cons, List.count_cons, countP_succ n l]
    by_cases h : a = (n : Int)
    · subst h
      have h1 : decide (0 ≤ (n : Int) ∧ (n : Int) < ((n + 1 : Nat) : Int)) = true := decide_eq_true (by omega)
      have h2 : decide (0 ≤ (n : Int) ∧ (n : Int) < (n : Int)) = false := decide_eq_false (by omega)
      have h3 : ((n : Int) == (n : Int)) = true := by simp
      rw [h1, h2, h3, if_pos rfl, if_neg (by decide)]
      omega
    · have h1 : decide (0 ≤ a ∧ a < ((n + 1 : Nat) : Int)) = decide (0 ≤ a ∧ a < (n : Int)) := by
        by_cases h2 : 0 ≤ a ∧ a < (n : Int)
        · rw [decide_eq_true h2, decide_eq_true (by omega)]
        · rw [decide_eq_false h2, decide_eq_false (by omega)]
      rw [h1]
      have h3 : (a == (n : Int)) = false := by simpa using h
      rw [h3]
      simp
      omega
theorem sumc_countP (p : List Int) : ∀ n : Nat, sumc p n = p.countP (fun x => decide (0 ≤ x ∧ x < (n : Int)))
  | 0 => by
    unfold sumc
    symm
    rw [List.countP_eq_zero]
    intro a _ h
    have := of_decide_eq_true h
    omega
  | n + 1 => by rw [countP_succ, ← sumc_countP p n]; rfl
theorem sumc_le (p : List Int) (h : ∀ x, p.count x ≤ 1) : ∀ n, sumc p n ≤ n
  | 0 => Nat.le_refl _
  | n + 1 => by have := sumc_le p h n; have := h (n : Int); unfold sumc; omega
theorem sumc_one (p : List Int) (h : ∀ x, p.count x ≤ 1) : ∀ n, sumc p n = n → ∀ i, i < n → p.count ((i : Nat) : Int) = 1
  | 0, _, i, hi => by omega
  | n + 1, e, i, hi => by
    have h1 := sumc_le p h n
    have h2 := h (n : Int)
    unfold sumc at e
    by_cases hn : i = n
    · subst hn; omega
    · exact sumc_one p h n (by omega) i (by omega)
theorem sumc_ones (p : List Int) : ∀ n, (∀ i, i < n → p.count ((i : Nat) : Int) = 1) → sumc p n = n
  | 0, _ => rfl
  | n + 1, h => by unfold sumc; rw [sumc_ones p n (fun i hi => h i (by omega)), h n (by omega)]
theorem PermL.range {p : List Int} (h : PermL p) {x : Int} (hx : x ∈ p) : 0 ≤ x ∧ x < (p.length : Int) := by
  have h1 := sumc_ones p p.length h
  rw [sumc_countP] at h1
  exact of_decide_eq_true (List.countP_eq_length.1 h1 x hx)
theorem PermL.le_one {p : List Int} (h : PermL p) (x : Int) : p.count x ≤ 1 := by
  by_cases hx : x ∈ p
  · obtain ⟨h1, h2⟩ := h.range hx
    have := h x.toNat (by omega)
    rw [Int.toNat_of_nonneg h1] at this
    omega
  · rw [List.count_eq_zero_of_not_mem hx]; omega
theorem getD_mem {p : List Int} {i : Nat} (hi : i < p.length) : p.getD i 0 ∈ p := by
  rw [List.getD_eq_getElem?_getD, List.getElem?_eq_getElem hi]; exact List.getElem_mem hi
theorem count_two {p : List Int} {i t : Nat} (hi : i < t) (ht : t < p.length) (e : p.getD i 0 = p.getD t 0) : 2 ≤ p.count (p.getD t 0) := by
  have h1 : p = p.take t ++ p.drop t := (List.take_append_drop t p).symm
  have h2 : p.count (p.getD t 0) = (p.take t).count (p.getD t 0) + (p.drop t).count (p.getD t 0) := by
    rw [← List.count_append, ← h1]
  have h3 : p.getD t 0 ∈ p.take t := by
    rw [← e, List.mem_take_iff_getElem]
    exact ⟨i, by omega, by simp [List.getD_eq_getElem?_getD, show i < p.length by omega]⟩
  have h4 : p.getD t 0 ∈ p.drop t := by
    rw [List.mem_drop_iff_getElem]
    exact ⟨0, by omega, by simp [List.getD_eq_getElem?_getD, ht]⟩
  have h5 := List.count_pos_iff.2 h3
  have h6 := List.count_pos_iff.2 h4
  omega
theorem PermL.chk {p : List Int} (h : PermL p) : Chk p p.length := fun t ht => ⟨h.range (getD_mem ht), fun i hi e => by
  have := count_two hi ht e
  have := h.le_one (p.getD t 0)
  omega⟩
theorem Chk.le_one {p : List Int} (h : ∀ t, t < p.length → ∀ i, i < t → p.getD i 0 ≠ p.getD t 0) (x : Int) : p.count x ≤ 1 := by
  have hn : p.Nodup := by
    rw [List.Nodup, List.pairwise_iff_getElem]
    intro i j hi hj hij
    have := h j hj i hij
    simpa [List.getD_eq_getElem?_getD, hi, hj] using this
  have aux : ∀ l : List Int, l.Nodup → l.count x ≤ 1 := by
    intro l
    induction l with
    | nil => intro _; simp
    | cons a l ih =>
      intro hl
      rw [List.nodup_cons] at hl
      rw [List.count_cons]
      by_cases e : a = x
      · subst e
        rw [List.count_eq_zero_of_not_mem hl.1]
        simp
      · have := ih hl.2
        have h3 : (a == x) = false := by simpa using e
        rw [h3]
        simpa using this
  exact aux p hn
theorem Chk.perm {p : List Int} (h : Chk p p.length) : PermL p := by
  have h1 := Chk.le_one (p := p) (fun t ht i hi => (h t ht).2 i hi)
  refine sumc_one p h1 p.length ?_
  rw [sumc_countP, List.countP_eq_length]
  intro x hx
  obtain ⟨i, hi, rfl⟩ := List.mem_iff_getElem.1 hx
  have := (h i hi).1
  rw [List.getD_eq_getElem?_getD, List.getElem?_eq_getElem hi] at this
  exact decide_eq_true this
theorem perm_iff (p : List Int) : PermL p ↔ Chk p p.length := ⟨PermL.chk, Chk.perm⟩
theorem permB_len {p : List Int} {r : Int} (h : ((p.length : Nat) : Int) ≠ r) : permB p r = false := decide_eq_false fun k => h k.1
theorem permB_out {p : List Int} {r : Int} {t : Nat} (ht : t < p.length) (h : ¬ (0 ≤ p.getD t 0 ∧ p.getD t 0 < (p.length : Int))) : permB p r = false := decide_eq_false fun k => h (k.2.chk t ht).1
theorem permB_dup {p : List Int} {r : Int} {t i : Nat} (ht : t < p.length) (hi : i < t) (h : p.getD i 0 = p.getD t 0) : permB p r = false := decide_eq_false fun k => (k.2.chk t ht).2 i hi h
theorem permB_yes {p : List Int} {r : Int} (h : ((p.length : Nat) : Int) = r) (hc : Chk p p.length) : permB p r = true := decide_eq_true ⟨h, hc.perm⟩

/-- The one that undoes it, k numbers laid. -/
def bk (p : List Int) : Nat → List Int
  | 0 => List.replicate p.length 0
  | k + 1 => (bk p k).set (p.getD k 0).toNat ((k : Nat) : Int)
theorem bk_len (p : List Int) : ∀ k, (bk p k).length = p.length
  | 0 => by simp [bk]
  | k + 1 => by simp [bk, bk_len p k]
theorem bk_at {p : List Int} (h : PermL p) : ∀ k, k ≤ p.length → ∀ i, i < k → (bk p k).getD (p.getD i 0).toNat 0 = ((i : Nat) : Int)
  | 0, _, i, hi => by omega
  | k + 1, hk, i, hi => by
    have hc := h.chk
    have hki := (hc k (by omega)).1
    have hii := (hc i (by omega)).1
    unfold bk
    by_cases e : i = k
    · subst e
      rw [List.getD_eq_getElem?_getD, List.getElem?_set_self (by rw [bk_len]; omega)]
      rfl
    · have hne := (hc k (by omega)).2 i (by omega)
      rw [List.getD_eq_getElem?_getD, List.getElem?_set_ne (by omega), ← List.getD_eq_getElem?_getD]
      exact bk_at h k (by omega) i (by omega)
theorem PermL.has {p : List Int} (h : PermL p) {x : Nat} (hx : x < p.length) : ∃ i, i < p.length ∧ p.getD i 0 = (x : Int) := by
  have h1 : 0 < p.count ((x : Nat) : Int) := by rw [h x hx]; omega
  obtain ⟨i, hi, e⟩ := List.mem_iff_getElem.1 (List.count_pos_iff.1 h1)
  exact ⟨i, hi, by simp [List.getD_eq_getElem?_getD, hi, e]⟩
/-- The one that undoes it. -/
def backL (p : List Int) : List Int := bk p p.length
theorem backL_len (p : List Int) : (backL p).length = p.length := bk_len p _
theorem backL_at {p : List Int} (h : PermL p) {x : Nat} (hx : x < p.length) : ∃ i, i < p.length ∧ p.getD i 0 = (x : Int) ∧ (backL p).getD x 0 = (i : Int) := by
  obtain ⟨i, hi, e⟩ := h.has hx
  refine ⟨i, hi, e, ?_⟩
  have := bk_at h p.length (Nat.le_refl _) i hi
  rw [e, Int.toNat_natCast] at this
  exact this
theorem backL_perm {p : List Int} (h : PermL p) : PermL (backL p) := by
  refine Chk.perm fun t ht => ?_
  rw [backL_len] at ht ⊢
  obtain ⟨i, hi, e1, e2⟩ := backL_at h ht
  rw [e2]
  refine ⟨by omega, fun s hs e => ?_⟩
  obtain ⟨i', hi', e3, e4⟩ := backL_at h (show s < p.length by omega)
  rw [e4] at e
  have : i' = i := by omega
  subst this
  omega

/-- The cells, of which in a column the first k rows are turned. -/
def turnTo (C : List Int) (m : Nat) (p : List Int) (k : Nat) : List Int := (List.range C.length).map fun t => if m ≤ t ∧ t < m + k then C.getD (m + (p.getD (t - m) 0).toNat) 0 else C.getD t 0
theorem turnTo_len (C : List Int) (m : Nat) (p : List Int) (k : Nat) : (turnTo C m p k).length = C.length := by simp [turnTo]
theorem turnTo_at (C : List Int) (m : Nat) (p : List Int) (k t : Nat) (ht : t < C.length) : (turnTo C m p k).getD t 0 = if m ≤ t ∧ t < m + k then C.getD (m + (p.getD (t - m) 0).toNat) 0 else C.getD t 0 := by
  unfold turnTo
  rw [List.getD_eq_getElem?_getD, List.getElem?_map, List.getElem?_range ht]
  rfl
theorem list_ext {l k : List Int} (h : l.length = k.length) (hj : ∀ j, j < l.length → l.getD j 0 = k.getD j 0) : l = k := by
  apply List.ext_getElem h
  intro j h1 h2
  have := hj j h1
  simpa [List.getD_eq_getElem?_getD, h1, h2] using this
theorem turnTo_zero (C : List Int) (m : Nat) (p : List Int) : turnTo C m p 0 = C := by
  refine list_ext (turnTo_len _ _ _ _) fun j hj => ?_
  rw [turnTo_len] at hj
  rw [turnTo_at _ _ _ _ _ hj, if_neg (by omega)]
theorem turnTo_step (C : List Int) (m : Nat) (p : List Int) (k : Nat) (_hk : m + k < C.length) : (turnTo C m p k).set (m + k) (C.getD (m + (p.getD k 0).toNat) 0) = turnTo C m p (k + 1) := by
  refine list_ext (by simp [turnTo_len]) fun j hj => ?_
  simp [turnTo_len] at hj
  rw [turnTo_at _ _ _ _ _ hj]
  by_cases e : j = m + k
  · subst e
    rw [List.getD_eq_getElem?_getD, List.getElem?_set_self (by rw [turnTo_len]; omega), if_pos (by omega), show m + k - m = k by omega]
    rfl
  · rw [List.getD_eq_getElem?_getD, List.getElem?_set_ne (by omega), ← List.getD_eq_getElem?_getD, turnTo_at _ _ _ _ _ hj]
    by_cases h : m ≤ j ∧ j < m + k
    · rw [if_pos h, if_pos (by omega)]
    · rw [if_neg h, if_neg (by omega)]
/-- A column turned. -/
def turnL (C : List Int) (r j : Nat) (p : List Int) : List Int := turnTo C (j * r) p r
theorem turnL_len (C : List Int) (r j : Nat) (p : List Int) : (turnL C r j p).length = C.length := turnTo_len _ _ _ _
theorem turn_back {C : List Int} {r j : Nat} {p : List Int} (h : PermL p) (hr : p.length = r) (hC : j * r + r ≤ C.length) : turnL (turnL C r j p) r j (backL p) = C := by
  refine list_ext (by simp [turnL_len]) fun t ht => ?_
  simp [turnL_len] at ht
  unfold turnL
  rw [turnTo_at _ _ _ _ _ (by rw [turnTo_len]; exact ht)]
  by_cases h1 : j * r ≤ t ∧ t < j * r + r
  · rw [if_pos h1]
    obtain ⟨i, hi, e1, e2⟩ := backL_at h (show t - j * r < p.length by omega)
    rw [e2, turnTo_at _ _ _ _ _ (by rw [Int.toNat_natCast]; omega), Int.toNat_natCast, if_pos (by omega), show j * r + i - j * r = i by omega, e1, Int.toNat_natCast, show j * r + (t - j * r) = t by omega]
  · rw [if_neg h1, turnTo_at _ _ _ _ _ ht, if_neg h1]

/-- Cells of a matrix. -/
def KW : Kind Int := ⟨40, 59, .int .u16, 0, 2⟩
theorem okW : KW.Ok := ⟨Try.underlying40, by kernel_rfl, by decide, fun _ => rfl, rfl⟩
/-- Whole numbers. -/
def KN : Kind Int := ⟨54, 3, .int .i64, 0, 8⟩
theorem okN : KN.Ok := ⟨Try.underlying54, by kernel_rfl, by decide, fun _ => rfl, rfl⟩
/-- A slice, as three parts. -/
abbrev Hdr := Option Addr × Nat × Nat
/-- Slices of values. -/
def KS : Kind Hdr := ⟨35, 31, fun h => .slice h.1 h.2.1 h.2.2, (none, 0, 0), 24⟩
theorem okS : KS.Ok := ⟨Try.underlying35, by kernel_rfl, by decide, fun _ => rfl, rfl⟩

/-- A matrix as a value. -/
def mx (r q : Int) (v : Value) : Value := .agg #[.int .i64 r, .int .i64 q, v]
/-- A matrix, laid anew. -/
def lay3 (w : World) (r q : Int) (v : Value) : World := w.alloc (.cells #[.int .i64 r, .int .i64 q, v] 42)
/-- A block holds a matrix, and it may be written. -/
structure M3 (N : Nat) (r q : Int) (v : Value) (w : World) : Prop where
  lt : N < w.heap.size
  c0 : w.cell? ⟨N, 0, none⟩ = some (.int .i64 r)
  c1 : w.cell? ⟨N, 1, none⟩ = some (.int .i64 q)
  c2 : w.cell? ⟨N, 2, none⟩ = some v
  f0 : w.frozen? ⟨N, 0, none⟩ = false
  f1 : w.frozen? ⟨N, 1, none⟩ = false
  f2 : w.frozen? ⟨N, 2, none⟩ = false
theorem M3.below {N B : Nat} {r q : Int} {v : Value} {w w' : World} (h : M3 N r q v w) (b : Below B w w') (hB : N < B) : M3 N r q v w' :=
  ⟨Nat.lt_of_lt_of_le h.lt b.size, (b.cell hB).trans h.c0, (b.cell hB).trans h.c1, (b.cell hB).trans h.c2, (b.frozen hB).trans h.f0, (b.frozen hB).trans h.f1, (b.frozen hB).trans h.f2⟩
theorem M3.on {N : Nat} {r q : Int} {v : Value} {w w' : World} (h : M3 N r q v w) (b : Below w.heap.size w w') : M3 N r q v w' := h.below b h.lt
theorem M3.but {N b : Nat} {r q : Int} {v : Value} {w w' : World} (h : M3 N r q v w) (hb : But b w w') (hn : N ≠ b) : M3 N r q v w' :=
  ⟨Nat.lt_of_lt_of_le h.lt hb.size, (hb.cell h.lt hn).trans h.c0, (hb.cell h.lt hn).trans h.c1, (hb.cell h.lt hn).trans h.c2, (hb.frozen h.lt hn).trans h.f0, (hb.frozen h.lt hn).trans h.f1, (hb.frozen h.lt hn).trans h.f2⟩
theorem M3.drew {N : Nat} {r q : Int} {v : Value} {w : World} (h : M3 N r q v w) : M3 N r q v w.drew := ⟨h.lt, h.c0, h.c1, h.c2, h.f0, h.f1, h.f2⟩
theorem M3.drewN {N : Nat} {r q : Int} {v : Value} {w : World} (h : M3 N r q v w) (n : Nat) : M3 N r q v (w.drewN n) := ⟨h.lt, h.c0, h.c1, h.c2, h.f0, h.f1, h.f2⟩
theorem lay3_m (w : World) (r q : Int) (v : Value) : M3 w.heap.size r q v (lay3 w r q v) :=
  ⟨by simp [lay3], by simp [lay3, go_sem], by simp [lay3, go_sem], by simp [lay3, go_sem], by simp [lay3, go_sem], by simp [lay3, go_sem], by simp [lay3, go_sem]⟩
theorem lay3_below (w : World) (r q : Int) (v : Value) : Below w.heap.size w (lay3 w r q v) := (Below.refl w.heap.size w).alloc (Nat.le_refl _) _
theorem lay3_size (w : World) (r q : Int) (v : Value) : (lay3 w r q v).heap.size = w.heap.size + 1 := by simp [lay3]
theorem M3.set2 {N : Nat} {r q : Int} {v : Value} {w : World} (h : M3 N r q v w) (x : Value) : M3 N r q x (w.setCell ⟨N, 2, none⟩ x) :=
  ⟨by simpa [World.setCell] using h.lt, by rw [World.cell?_setCell_other _ _ _ _ (by simp)]; exact h.c0, by rw [World.cell?_setCell_other _ _ _ _ (by simp)]; exact h.c1, World.cell?_setCell_same _ _ _ h.c2, by rw [World.frozen?_setCell]; exact h.f0, by rw [World.frozen?_setCell]; exact h.f1, by rw [World.frozen?_setCell]; exact h.f2⟩

theorem within_any (n e : Int) (w : World) : Calls Try.prog 38 #[.int .i64 n, .int .i64 e] w fun x w' => x = .returned (.bool (decide (0 ≤ n ∧ n < e))) ∧ w = w' := by
  by_cases h1 : 0 ≤ n
  · have g1 : decide (0 ≤ n) = true := decide_eq_true h1
    by_cases h2 : n < e
    · have g2 : decide (n < e) = true := decide_eq_true h2
      rw [decide_eq_true (show 0 ≤ n ∧ n < e from ⟨h1, h2⟩)]
      clear h1 h2
      go_enter Try.func38, Try.ntmps38
      go_wp2_with fail
      go_ret
      exact ⟨rfl, rfl⟩
    · have g2 : decide (n < e) = false := decide_eq_false h2
      rw [decide_eq_false (show ¬ (0 ≤ n ∧ n < e) from fun h => h2 h.2)]
      clear h1 h2
      go_enter Try.func38, Try.ntmps38
      go_wp2_with fail
      go_ret
      exact ⟨rfl, rfl⟩
  · have g1 : decide (0 ≤ n) = false := decide_eq_false h1
    rw [decide_eq_false (show ¬ (0 ≤ n ∧ n < e) from fun h => h1 h.1)]
    clear h1
    go_enter Try.func38, Try.ntmps38
    go_wp2_with fail
    go_ret
    exact ⟨rfl, rfl⟩
theorem few_any (n : Int) (w : World) : Calls Try.prog 32 #[.int .i64 n] w fun x w' => x = .returned (.bool (decide (0 ≤ n ∧ n < 16777217))) ∧ w = w' := by
  by_cases h1 : 0 ≤ n
  · have g1 : decide (n ≥ 0) = true := decide_eq_true h1
    by_cases h2 : n < 16777217
    · have g2 : decide (n ≤ 16777216) = true := decide_eq_true (by omega)
      rw [decide_eq_true (show 0 ≤ n ∧ n < 16777217 from ⟨h1, h2⟩)]
      clear h1 h2
      go_enter Try.func32, Try.ntmps32
      go_wp2_with fail
      go_ret
      exact ⟨rfl, rfl⟩
    · have g2 : decide (n ≤ 16777216) = false := decide_eq_false (by omega)
      rw [decide_eq_false (show ¬ (0 ≤ n ∧ n < 16777217) from fun h => h2 h.2)]
      clear h1 h2
      go_enter Try.func32, Try.ntmps32
      go_wp2_with fail
      go_ret
      exact ⟨rfl, rfl⟩
  · have g1 : decide (n ≥ 0) = false := decide_eq_false h1
    rw [decide_eq_false (show ¬ (0 ≤ n ∧ n < 16777217) from fun h => h1 h.1)]
    clear h1
    go_enter Try.func32, Try.ntmps32
    go_wp2_with fail
    go_ret
    exact ⟨rfl, rfl⟩

/-- Do so many rows and columns come to so many cells? -/
def Fit (r q n : Int) : Prop := (0 ≤ r ∧ r < 16777217) ∧ (0 ≤ q ∧ q < 16777217) ∧ r * q = n
instance (r q n : Int) : Decidable (Fit r q n) := inferInstanceAs (Decidable (_ ∧ _ ∧ _))
def fitB (r q n : Int) : Bool := decide (Fit r q n)
theorem mul_room {r q : Int} (h1 : 0 ≤ r ∧ r < 16777217) (h2 : 0 ≤ q ∧ q < 16777217) : 0 ≤ r * q ∧ r * q ≤ 281474976710656 := by
  have := Int.mul_le_mul (show r ≤ 16777216 by omega) (show q ≤ 16777216 by omega) h2.1 (by omega)
  have := Int.mul_nonneg h1.1 h2.1
  omega
theorem mul_wrap {r q : Int} (h1 : 0 ≤ r ∧ r < 16777217) (h2 : 0 ≤ q ∧ q < 16777217) : wrap64 (r * q) = r * q := by
  have := mul_room h1 h2
  generalize r * q = m at *
  unfold wrap64
  omega

set_option maxHeartbeats 1000000 in
theorem fits_any (r q n : Int) (w : World) : Calls Try.prog 29 #[.int .i64 r, .int .i64 q, .int .i64 n] w fun x w' => x = .returned (.bool (fitB r q n)) ∧ w = w' := by
  have c1 := within_any r 16777217 w
  by_cases h1 : 0 ≤ r ∧ r < 16777217
  · rw [decide_eq_true h1] at c1
    have c2 := within_any q 16777217 w
    by_cases h2 : 0 ≤ q ∧ q < 16777217
    · rw [decide_eq_true h2] at c2
      have hm := mul_wrap h1 h2
      by_cases h3 : r * q = n
      · rw [show fitB r q n = true from decide_eq_true ⟨h1, h2, h3⟩]
        rw [h3] at hm
        have g3 : (wrap64 (r * q) == n) = true := by rw [h3, hm]; simp
        clear h1 h2 h3 hm
        go_enter Try.func29, Try.ntmps29
        go_wp2_with fail
        refine c1.mono ?_
        rintro e w' ⟨rfl, rfl⟩
        go_wp2_with fail
        refine c2.mono ?_
        rintro e w' ⟨rfl, rfl⟩
        go_wp2_with fail
        go_ret
        exact ⟨rfl, rfl⟩
      · rw [show fitB r q n = false from decide_eq_false (fun h => h3 h.2.2)]
        have g3 : (wrap64 (r * q) == n) = false := by rw [hm]; simpa using h3
        clear h1 h2 h3 hm
        go_enter Try.func29, Try.ntmps29
        go_wp2_with fail
        refine c1.mono ?_
        rintro e w' ⟨rfl, rfl⟩
        go_wp2_with fail
        refine c2.mono ?_
        rintro e w' ⟨rfl, rfl⟩
        go_wp2_with fail
        go_ret
        exact ⟨rfl, rfl⟩
    · rw [decide_eq_false h2] at c2
      rw [show fitB r q n = false from decide_eq_false (fun h => h2 h.2.1)]
      clear h1 h2
      go_enter Try.func29, Try.ntmps29
      go_wp2_with fail
      refine c1.mono ?_
      rintro e w' ⟨rfl, rfl⟩
      go_wp2_with fail
      refine c2.mono ?_
      rintro e w' ⟨rfl, rfl⟩
      go_wp2_with fail
      go_ret
      exact ⟨rfl, rfl⟩
  · rw [decide_eq_false h1] at c1
    rw [show fitB r q n = false from decide_eq_false (fun h => h1 h.1)]
    clear h1
    go_enter Try.func29, Try.ntmps29
    go_wp2_with fail
    refine c1.mono ?_
    rintro e w' ⟨rfl, rfl⟩
    go_wp2_with fail
    go_ret
    exact ⟨rfl, rfl⟩

theorem rightM_any (r q : Int) (a : Option Addr) (n c : Nat) (w : World) : Calls Try.prog 22 #[mx r q (.slice a n c)] w fun x w' => x = .returned (.bool (fitB r q n)) ∧ Below w.heap.size w w' := by
  have HB := Lib.hid (lay3_below w r q (.slice a n c))
  have c1 := fits_any r q (n : Int) (lay3 w r q (.slice a n c))
  unfold mx
  generalize fitB r q n = b at *
  go_enter Try.func22, Try.ntmps22
  go_wp2_with fail
  refine c1.mono ?_
  rintro e w' ⟨rfl, rfl⟩
  go_wp2_with fail
  go_ret
  exact ⟨rfl, HB.out⟩

set_option maxHeartbeats 1000000 in
theorem refRightM_any (r q : Int) (a : Option Addr) (n c : Nat) (w : World) : Calls Try.prog 23 #[mx r q (.slice a n c)] w fun x w' => x = .returned (.bool (fitB r q n)) ∧ Below w.heap.size w w' := by
  have HB := Lib.hid (lay3_below w r q (.slice a n c))
  have HM := Lib.hid (lay3_m w r q (.slice a n c))
  have c1 := few_any r (lay3 w r q (.slice a n c))
  have c2 := few_any q (lay3 w r q (.slice a n c))
  have hm : (0 ≤ r ∧ r < 16777217) → (0 ≤ q ∧ q < 16777217) → wrap64 (r * q) = r * q := mul_wrap
  obtain ⟨z, HZ⟩ : ∃ z, Hid (fitB r q n = z) := ⟨_, rfl⟩
  rw [HZ.out]
  have HC : Hid ((0 ≤ r ∧ r < 16777217) ∧ (0 ≤ q ∧ q < 16777217) → z = decide ((n : Int) = r * q)) := fun h => by
    rw [← HZ.out]
    by_cases h3 : (n : Int) = r * q
    · rw [decide_eq_true h3]; exact decide_eq_true (show Fit r q n from ⟨h.1, h.2, h3.symm⟩)
    · rw [decide_eq_false h3]; exact decide_eq_false (fun k : Fit r q n => h3 k.2.2.symm)
  have HD : Hid (¬ (0 ≤ r ∧ r < 16777217) ∨ ¬ (0 ≤ q ∧ q < 16777217) → z = false) := fun h => by
    rw [← HZ.out]
    exact decide_eq_false (fun k => h.elim (fun h => h k.1) (fun h => h k.2.1))
  unfold mx
  by_cases h1 : 0 ≤ r ∧ r < 16777217
  · rw [decide_eq_true h1] at c1
    by_cases h2 : 0 ≤ q ∧ q < 16777217
    · rw [decide_eq_true h2] at c2
      have hz := HC.out ⟨h1, h2⟩
      have hw := hm h1 h2
      have g3 : ((n : Int) == wrap64 (r * q)) = z := by
        rw [hz, hw]
        by_cases h3 : (n : Int) = r * q
        · rw [decide_eq_true h3, h3]; simp
        · rw [decide_eq_false h3]; simpa using h3
      clear hm h1 h2 hw hz
      go_enter Try.func23, Try.ntmps23
      go_wp2_with fail
      refine c1.mono ?_
      rintro e w' ⟨rfl, rfl⟩
      have c20 := HM.out.c1
      have c21 := HM.out.c2
      have c22 := HM.out.c0
      go_wp2_with fail
      refine c2.mono ?_
      rintro e w' ⟨rfl, rfl⟩
      go_wp2_with fail
      go_ret
      exact ⟨rfl, HB.out⟩
    · rw [decide_eq_false h2] at c2
      have hz := HD.out (.inr h2)
      subst hz
      clear hm h1 h2
      go_enter Try.func23, Try.ntmps23
      go_wp2_with fail
      refine c1.mono ?_
      rintro e w' ⟨rfl, rfl⟩
      have c20 := HM.out.c1
      go_wp2_with fail
      refine c2.mono ?_
      rintro e w' ⟨rfl, rfl⟩
      go_wp2_with fail
      go_ret
      exact ⟨rfl, HB.out⟩
  · rw [decide_eq_false h1] at c1
    have hz := HD.out (.inl h1)
    subst hz
    clear hm h1
    go_enter Try.func23, Try.ntmps23
    go_wp2_with fail
    refine c1.mono ?_
    rintro e w' ⟨rfl, rfl⟩
    go_wp2_with fail
    go_ret
    exact ⟨rfl, HB.out⟩
end Go.Proofs.Ytjaogmbeoldefaa
