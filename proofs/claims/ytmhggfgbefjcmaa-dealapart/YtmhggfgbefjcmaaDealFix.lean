/-
  The law's own examples: true at every call. No condition.
-/
import Derived.Test.YtmhggfgbefjcmaaChoose
namespace Go.Proofs.Ytmhggfgbefjcmaa
open Go.RowKit

theorem list_stays {N b : Nat} {a : Option Addr} {cap : Nat} {l : List Int} (hb : b < N) (ha : l = [] ∨ ∃ g off, a = some ⟨g, off, none⟩ ∧ g < N) : Stays N (ListAt b a cap l) := by
  intro k w w' h hB
  refine ⟨Nat.lt_of_lt_of_le h.lt hB.size, (hB.cell (by exact hb)).trans h.c0, (hB.cell (by exact hb)).trans h.c1, (hB.frozen (by exact hb)).trans h.f1, ?_⟩
  rcases h.row with h' | ⟨g, off, rfl, hg, hn, hr⟩
  · exact .inl h'
  · rcases ha with h' | ⟨g', off', e, hg'⟩
    · exact .inl h'
    · obtain ⟨rfl, rfl⟩ : g = g' ∧ off = off' := by simpa using e
      exact .inr ⟨g, off, rfl, Nat.lt_of_lt_of_le hg hB.size, hn, fun j hj => (hB.cell (by exact hg')).trans (hr j hj)⟩

theorem same_at (a a2 : Option Addr) (n n2 cap cap2 : Nat) (l k : List Int) (hn : l.length = n) (hn2 : k.length = n2) (hlen : n ≤ 1048576) (hlen2 : n2 ≤ 1048576) (w : World) (hr : HoldsI w a l) (hr2 : HoldsI w a2 k) :
    Calls Try.prog 13 #[.slice a n cap, .slice a2 n2 cap2] w fun e w' => e = .returned (.bool (decide (l = k))) ∧ Below w.heap.size w w' := by
  subst hn hn2
  exact same_any a a2 cap cap2 l k hlen hlen2 w hr hr2

theorem all_none : All64 [] := fun _ h => by cases h

theorem fix_perm : permR (nums []) 3 0 = ([1, 2, 0], 2, 0) := by decide
theorem fix_deal : dealR (nums []) 3 0 = ([3, 0, 0], 3, 0) := by decide
theorem fix_choose : chooseR (nums []) 3 2 0 = ([0, 1], 2, 0) := by
  have h : chooseTo (nums []) 3 2 0 = ([0, 1, 2], 2, 0) := by decide
  unfold chooseR
  rw [if_pos (by decide)]
  show chosen 2 (chooseTo (nums []) 3 2 0) = _
  rw [h]
  unfold chosen
  rw [if_pos rfl]
  show (sortI [0, 1], 2, 0) = _
  have : sortI [0, 1] = [0, 1] := by unfold sortI; exact List.mergeSort_of_pairwise (by simp)
  rw [this]

theorem list_stays_here {b : Nat} {a : Option Addr} {cap : Nat} {l : List Int} {k : Nat} {w : World} (h : ListAt b a cap l k w) : Stays w.heap.size (ListAt b a cap l) :=
  list_stays h.lt (by
    rcases h.row with h' | ⟨g, off, e, hg, _, _⟩
    · exact .inl h'
    · exact .inr ⟨g, off, e, hg⟩)

theorem perm_list (b : Nat) (a : Option Addr) (cap : Nat) (l : List Int) (hl : All64 l) (n : Int) (k : Nat) (hk : k ≤ 1000000) (w : World) (h : ListAt b a cap l k w) (r : List Int) (k' : Nat) (e' : Int) (hR : permR (nums l) n k = (r, k', e')) :
    Calls Try.prog 11 #[.iface 25 (.pointer (some ⟨b, 0, none⟩)), .int .i64 n] w fun e w' => (∃ x c, e = .returned (.tuple #[.slice x r.length c, .int .i64 e']) ∧ HoldsI w' x r) ∧ ListAt b a cap l k' w' ∧ But b w w' := by
  refine (perm_any _ _ _ b _ _ _ (list_src b a cap l hl) n k (by omega) w h.lt (list_stays_here h) h).mono ?_
  rintro e w' ⟨⟨v, rfl, hs⟩, h1, h2⟩
  rw [hR] at hs h1 ⊢
  obtain ⟨x, c, rfl, hr⟩ := hs.holds
  exact ⟨⟨x, c, rfl, hr⟩, h1, h2⟩
theorem deal_list (b : Nat) (a : Option Addr) (cap : Nat) (l : List Int) (hl : All64 l) (n : Int) (k : Nat) (hk : k ≤ 1000000) (w : World) (h : ListAt b a cap l k w) (r : List Int) (k' : Nat) (e' : Int) (hR : dealR (nums l) n k = (r, k', e')) :
    Calls Try.prog 16 #[.iface 25 (.pointer (some ⟨b, 0, none⟩)), .int .i64 n] w fun e w' => (∃ x c, e = .returned (.tuple #[.slice x r.length c, .int .i64 e']) ∧ HoldsI w' x r) ∧ ListAt b a cap l k' w' ∧ But b w w' := by
  refine (deal_any _ _ _ b _ _ _ (list_src b a cap l hl) n k (by omega) w h.lt (list_stays_here h) h).mono ?_
  rintro e w' ⟨⟨v, rfl, hs⟩, h1, h2⟩
  rw [hR] at hs h1 ⊢
  obtain ⟨x, c, rfl, hr⟩ := hs.holds
  exact ⟨⟨x, c, rfl, hr⟩, h1, h2⟩
theorem choose_list (b : Nat) (a : Option Addr) (cap : Nat) (l : List Int) (hl : All64 l) (n t : Int) (k : Nat) (hk : k ≤ 1000000) (w : World) (h : ListAt b a cap l k w) (r : List Int) (k' : Nat) (e' : Int) (hR : chooseR (nums l) n t k = (r, k', e')) :
    Calls Try.prog 14 #[.iface 25 (.pointer (some ⟨b, 0, none⟩)), .int .i64 n, .int .i64 t] w fun e w' => (∃ x c, e = .returned (.tuple #[.slice x r.length c, .int .i64 e']) ∧ HoldsI w' x r) ∧ ListAt b a cap l k' w' ∧ But b w w' := by
  refine (choose_any _ _ _ b _ _ _ (list_src b a cap l hl) n t k (by omega) w h.lt (list_stays_here h) h).mono ?_
  rintro e w' ⟨⟨v, rfl, hs⟩, h1, h2⟩
  rw [hR] at hs h1 ⊢
  obtain ⟨x, c, rfl, hr⟩ := hs.holds
  exact ⟨⟨x, c, rfl, hr⟩, h1, h2⟩

/-- What a slice literal of integers holds. -/
theorem lit_holds (w : World) (l : List Int) : HoldsI (w.alloc (.cells (l.map (Value.int .i64)).toArray 3)) (some ⟨w.heap.size, 0, none⟩) l := (Ints.made w l).holds

set_option maxHeartbeats 1000000 in
theorem fixed_any (w : World) :
    Calls Try.prog 10 #[] w fun e w' => e = .returned (.bool true) ∧ Below w.heap.size w w' := by
  go_enter Try.func10, Try.ntmps10
  go_wp2_with fail
  refine (perm_list _ _ _ [] all_none 3 0 (by decide) _ (ListAt.made w none 0 [] (.inl rfl)) _ _ _ fix_perm).mono ?_
  rintro e w1 ⟨⟨x1, q1, rfl, r1⟩, _, hB1⟩
  have b1 := hB1.past1
  clear hB1
  go_wp2_with fail
  refine (choose_list _ _ _ [] all_none 3 2 0 (by decide) _ (ListAt.made w1 none 0 [] (.inl rfl)) _ _ _ fix_choose).mono ?_
  rintro e w2 ⟨⟨x2, q2, rfl, r2⟩, _, hB2⟩
  have b2 := hB2.past1
  have r1 := r1.below b2
  have b2 := b1.trans (b2.mono b1.size)
  clear hB2 b1
  go_wp2_with fail
  refine (deal_list _ _ _ [] all_none 3 0 (by decide) _ (ListAt.made w2 none 0 [] (.inl rfl)) _ _ _ fix_deal).mono ?_
  rintro e w3 ⟨⟨x3, q3, rfl, r3⟩, _, hB3⟩
  have b3 := hB3.past1
  have r1 := r1.below b3
  have r2 := r2.below b3
  have b3 := b2.trans (b3.mono b2.size)
  clear hB3 b2
  go_wp2_with fail
  have c1 := (Below.refl w3.heap.size w3).alloc (Nat.le_refl _) (.cells #[.int .i64 1, .int .i64 2, .int .i64 0] 3)
  refine (same_at _ _ 3 3 _ _ [1, 2, 0] [1, 2, 0] rfl rfl (by decide) (by decide) _ (r1.below c1) (lit_holds w3 [1, 2, 0])).mono ?_
  rintro e w4 ⟨rfl, b4⟩
  rw [show decide (([1, 2, 0] : List Int) = [1, 2, 0]) = true by decide]
  have b4 := c1.trans (b4.mono c1.size)
  have r2 := r2.below b4
  have r3 := r3.below b4
  have b4 := b3.trans (b4.mono b3.size)
  clear c1 b3 r1
  go_wp2_with fail
  have c1 := (Below.refl w4.heap.size w4).alloc (Nat.le_refl _) (.cells #[.int .i64 0, .int .i64 1] 3)
  refine (same_at _ _ 2 2 _ _ [0, 1] [0, 1] rfl rfl (by decide) (by decide) _ (r2.below c1) (lit_holds w4 [0, 1])).mono ?_
  rintro e w5 ⟨rfl, b5⟩
  rw [show decide (([0, 1] : List Int) = [0, 1]) = true by decide]
  have b5 := c1.trans (b5.mono c1.size)
  have r3 := r3.below b5
  have b5 := b4.trans (b5.mono b4.size)
  clear c1 b4 r2
  go_wp2_with fail
  have c1 := (Below.refl w5.heap.size w5).alloc (Nat.le_refl _) (.cells #[.int .i64 3, .int .i64 0, .int .i64 0] 3)
  refine (same_at _ _ 3 3 _ _ [3, 0, 0] [3, 0, 0] rfl rfl (by decide) (by decide) _ (r3.below c1) (lit_holds w5 [3, 0, 0])).mono ?_
  rintro e w6 ⟨rfl, b6⟩
  rw [show decide (([3, 0, 0] : List Int) = [3, 0, 0]) = true by decide]
  have b6 := c1.trans (b6.mono c1.size)
  have b6 := b5.trans (b6.mono b5.size)
  clear c1 b5 r3
  go_wp2_with fail
  go_ret
  exact ⟨rfl, b6⟩
end Go.Proofs.Ytmhggfgbefjcmaa
