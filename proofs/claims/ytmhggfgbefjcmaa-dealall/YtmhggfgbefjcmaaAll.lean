/-
  DealAll's walk: for every key and n the law answers true and turns no memory that was there, whatever the rounds. Conditions: the package's table of rounds holds nine numbers of 64 bits; n is at least 0 and below 2^16.
-/
import Derived.Test.YtmhggfgbefjcmaaOnce
namespace Go.Proofs.Ytmhggfgbefjcmaa
open Go.RowKit

theorem drawTo_more (xs : Nat → Int) (n : Int) : ∀ f k, (drawTo xs n f k).2.2 = 0 → k + 1 ≤ (drawTo xs n f k).2.1 := by
  intro f
  induction f with
  | zero => intro k h; exact absurd (show (7 : Int) = 0 from h) (by decide)
  | succ f ih =>
    intro k h
    unfold drawTo at h ⊢
    split
    · exact Nat.le_refl _
    · rename_i hn
      rw [if_neg hn] at h
      have := ih (k + 1) h
      omega
theorem draw_more (xs : Nat → Int) (n : Int) (hn : 0 < n) (k : Nat) (h : (draw xs n k).2.2 = 0) : k + 1 ≤ (draw xs n k).2.1 := by
  unfold draw at h ⊢
  rw [if_neg (by omega)] at h ⊢
  exact drawTo_more xs n 64 k h

theorem deals_taken (xs B : Nat → Int) (next : List Int → Nat → Nat → List Int) (t : Nat) (hB : ∀ i, i < t → 0 < B i) : ∀ f i k l, i + f = t → (deals xs B next f i k l).2.2 = 0 → k + f ≤ (deals xs B next f i k l).2.1 := by
  intro f
  induction f with
  | zero => intro i k l _ _; exact Nat.le_refl _
  | succ f ih =>
    intro i k l ht h
    have hd := draw_more xs (B i) (hB i (by omega)) k
    obtain ⟨y, k', er, hdr⟩ : ∃ y k' er, draw xs (B i) k = (y, k', er) := ⟨_, _, _, rfl⟩
    have e : deals xs B next (f + 1) i k l = if (draw xs (B i) k).2.2 = 0 then deals xs B next f (i + 1) (draw xs (B i) k).2.1 (next l i (draw xs (B i) k).1.toNat) else (l, (draw xs (B i) k).2.1, (draw xs (B i) k).2.2) := rfl
    rw [hdr] at hd e
    rw [e] at h ⊢
    simp only at hd h ⊢
    by_cases he : er = 0
    · rw [if_pos he] at h ⊢
      have := ih (i + 1) k' (next l i y.toNat) (by omega) h
      have := hd he
      omega
    · rw [if_neg he] at h
      exact absurd h he

theorem upto_rising (n : Nat) : (upto n).Pairwise (fun a b => a ≤ b) := by
  unfold upto
  exact List.Pairwise.map _ (fun a b h => by omega) (List.pairwise_lt_range (n := n))

theorem sort_all {l : List Int} {m : Nat} (h : l.Perm (upto m)) : sortI (l.take m) = upto m := by
  have hl : l.length = m := by rw [h.length_eq, upto_len]
  rw [List.take_of_length_le (by omega)]
  exact List.Perm.eq_of_pairwise (le := fun a b : Int => a ≤ b) (fun a b _ _ h1 h2 => Int.le_antisymm h1 h2) (sortI_rising l) (upto_rising m) ((sortI_perm l).trans h)

theorem none_told (xs : Nat → Int) (m k : Nat) (hm : m ≤ 1048576) : chooseR xs (m : Int) 0 k = ([], k, 0) := by
  have hR : chooseR xs (m : Int) 0 k = chosen 0 (chooseTo xs m 0 k) := by unfold chooseR; rw [if_pos (by omega)]; rfl
  rw [hR]
  show chosen 0 (upto m, k, 0) = _
  unfold chosen
  rw [if_pos rfl]
  have : sortI ([] : List Int) = [] := List.mergeSort_of_pairwise List.Pairwise.nil
  show (sortI ((upto m).take 0), k, (0 : Int)) = _
  rw [List.take_zero, this]

theorem all_told (xs : Nat → Int) (m k : Nat) (hm : m ≤ 1048576) : ((chooseR xs (m : Int) (m : Int) k).2.2 = 0 ∧ (chooseR xs (m : Int) (m : Int) k).1 = upto m ∧ k + m ≤ (chooseR xs (m : Int) (m : Int) k).2.1) ∨ (chooseR xs (m : Int) (m : Int) k).2.2 = 7 := by
  have hR : chooseR xs (m : Int) (m : Int) k = chosen m (chooseTo xs m m k) := by unfold chooseR; rw [if_pos (by omega)]; rfl
  rw [hR]
  have h0 := deals_inv xs (fun i => (m : Int) - i) (fun l i x => swapL l i (i + x)) m (fun i hi => by omega) (fun _ l => l.Perm (upto m)) (fun i l x hi hx h => (swapL_perm l _ _ (by rw [h.length_eq, upto_len]; omega) (by rw [h.length_eq, upto_len]; omega)).trans h) m 0 k (upto m) (by omega) (List.Perm.refl _)
  have h1 := deals_taken xs (fun i => (m : Int) - i) (fun l i x => swapL l i (i + x)) m (fun i hi => by omega) m 0 k (upto m) (by omega)
  rw [show deals xs (fun i => (m : Int) - i) (fun l i x => swapL l i (i + x)) m 0 k (upto m) = chooseTo xs m m k from rfl] at h0 h1
  generalize chooseTo xs m m k = d at *
  rcases h0 with ⟨h2, h3, _⟩ | h2
  · rw [show chosen m d = (sortI (d.1.take m), d.2.1, 0) from if_pos h2]; exact .inl ⟨rfl, sort_all h3, h1 h2⟩
  · rw [show chosen m d = ([], d.2.1, d.2.2) from if_neg (by omega)]; exact .inr h2

set_option maxRecDepth 100000 in
set_option maxHeartbeats 1000000 in
theorem all_any (r : R3) (hok : r.ok) (t : TypeId) (fr : Nat × Nat) (key n : Int) (hn0 : 0 ≤ n) (hn1 : n < 65536) (w : World) (hg : w.heap[0]? = some (.cells r.cells t fr)) :
    Calls Try.prog 7 #[.int .u64 key, .int .u16 n] w fun e w' => e = .returned (.bool true) ∧ Below w.heap.size w w' := by
  have HG := Lib.hid hg; clear hg
  obtain ⟨m, hm⟩ : ∃ m : Nat, n % 300 = m := ⟨(n % 300).toNat, by omega⟩
  have hm3 : m < 300 := by omega
  obtain ⟨s, k2, e2, hC⟩ : ∃ s k2 e2, chooseR (fun i => r.at key i) (m : Int) (m : Int) 0 = (s, k2, e2) := ⟨_, _, _, rfl⟩
  have tC := all_told (fun i => r.at key i) m 0 (by omega)
  rw [hC] at tC
  simp only at tC
  have HC := Lib.hid hC
  have HN := Lib.hid (none_told (fun i => r.at key i) m 0 (by omega))
  clear hC
  go_enter Try.func7, Try.ntmps7
  go_wp2_with fail
  refine (new_any key _).mono ?_
  rintro e w1 ⟨rfl, rfl⟩
  go_wp2_with fail
  refine (choose_stream r hok t fr _ key _ _ 0 (by decide) _ (StreamS.made HG.out key) [] 0 0 HN.out).mono ?_
  rintro e w1 ⟨⟨x1, q1, rfl, r1⟩, s1, hB1⟩
  have b1 := hB1.past1
  clear hB1 r1
  go_wp2_with fail
  refine (taken_any _ key 0 _ s1.1).mono ?_
  rintro e w2 ⟨rfl, rfl⟩
  go_wp2_with fail
  refine (choose_stream r hok t fr _ key _ _ 0 (by decide) _ s1 s k2 e2 HC.out).mono ?_
  rintro e w2 ⟨⟨x2, q2, rfl, r2⟩, s2, hB2⟩
  have b2 := b1.trans (hB2.below (Nat.le_refl _) b1.size)
  clear hB2 s1 b1
  rcases tC with ⟨rfl, rfl, hk⟩ | rfl
  · have hl := upto_len m
    go_wp2_with fail
    go_loopw [52] (fun i wr => ∃ (j : Nat), j ≤ m ∧ i = .int .i64 j ∧ w2 = wr) (fun i _ => m - (intOf i).toNat)
    case atStart => exact ⟨0, by omega, rfl, rfl⟩
    case round =>
      obtain ⟨j, hj, rfl, rfl⟩ := hrel
      by_cases hlt : j < m
      · obtain ⟨g, off, rfl, hg, hrow⟩ : ∃ g off, x2 = some ⟨g, off, none⟩ ∧ g < w2.heap.size ∧ RowI w2 g off (upto m) := by
          rcases r2 with h' | h'
          · rw [h'] at hl; simp at hl; omega
          · exact h'
        have cs := hrow j (by omega)
        rw [upto_getD m j hlt] at cs
        clear hrow r2
        go_wp2_with fail
        go_roundw
        case rel => exact ⟨j + 1, by omega, by go_num, by trivial⟩
        case measure => simp [intOf]; omega
      · go_wp2_with fail
        refine (fixed_any _).mono ?_
        rintro e w3 ⟨rfl, b3⟩
        have s3 := s2.1.below b3
        have b3 := b2.trans (b3.mono b2.size)
        clear s2 b2 r2
        go_wp2_with fail
        refine (taken_any _ key k2 _ s3).mono ?_
        rintro e w4 ⟨rfl, rfl⟩
        have hge : (m : Int) ≤ (k2 : Int) := by omega
        go_wp2_with fail
        go_ret
        exact ⟨rfl, b3⟩
  · go_wp2_with fail
    refine (fixed_any _).mono ?_
    rintro e w4 ⟨rfl, b4⟩
    have b4 := b2.trans (b4.mono b2.size)
    clear b2 r2
    go_wp2_with fail
    go_ret
    exact ⟨rfl, b4⟩
end Go.Proofs.Ytmhggfgbefjcmaa
