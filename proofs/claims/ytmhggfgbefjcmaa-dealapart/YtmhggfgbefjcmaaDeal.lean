/-
  Deal: of any source that is told by a contract the weights, where the source stands, and the error are as the draws make them; nothing but the source's own block turns. Conditions: as the source's contract asks.
-/
import Derived.Test.YtmhggfgbefjcmaaPerm
namespace Go.Proofs.Ytmhggfgbefjcmaa
open Go.RowKit

def dealTo (xs : Nat → Int) (n k : Nat) : List Int × Nat × Int := deals xs (fun _ => (n : Int)) (fun l _ x => addOne l x) n 0 k (List.replicate n 0)
def dealR (xs : Nat → Int) (n : Int) (k : Nat) : List Int × Nat × Int := if 0 ≤ n ∧ n ≤ 1048576 then told (dealTo xs n.toNat k) else ([], k, 1)

/-- No weight is above the number of draws. -/
def Small (l : List Int) (i : Nat) : Prop := ∀ j, 0 ≤ l.getD j 0 ∧ l.getD j 0 ≤ i
theorem Small.start (n : Nat) : Small (List.replicate n 0) 0 := fun j => by
  rw [List.getD_eq_getElem?_getD, List.getElem?_replicate]
  split <;> simp
theorem Small.next {l : List Int} {i : Nat} (h : Small l i) (x : Nat) : Small (addOne l x) (i + 1) := fun j => by
  have hx := h x
  have hj := h j
  unfold addOne
  rw [List.getD_eq_getElem?_getD, List.getElem?_set]
  rw [List.getD_eq_getElem?_getD] at hj
  split
  · split
    · simp only [Option.getD_some]; omega
    · simp only [Option.getD_none]; omega
  · omega

set_option maxHeartbeats 1000000 in
theorem deal_any (T : TypeId) (v : Value) (K b top : Nat) (S : Nat → World → Prop) (xs : Nat → Int) (hs : Src T v K b top S xs) (n : Int) (k0 : Nat) (hk0 : k0 + 67108864 ≤ top) (w : World) (hb : b < w.heap.size) (hst : Stays w.heap.size S) (h0 : S k0 w) :
    Calls Try.prog 16 #[.iface T v, .int .i64 n] w fun e w' => (∃ r, e = .returned (.tuple #[r, .int .i64 (dealR xs n k0).2.2]) ∧ SliceI w' w.heap.size r (dealR xs n k0).1) ∧ S (dealR xs n k0).2.1 w' ∧ But b w w' := by
  have hmf : ∀ (fn : Fn) (first cap : Array Value) (w : World), (Instr.makeFunc fn first cap).run Try.prog w = .ok (.func fn first cap) w := fun _ _ _ _ => rfl
  by_cases hn : 0 ≤ n ∧ n ≤ 1048576
  · obtain ⟨m, rfl⟩ : ∃ m : Nat, n = m := ⟨n.toNat, by omega⟩
    have hm : m ≤ 1048576 := by omega
    have hR : dealR xs (m : Int) k0 = told (dealTo xs m k0) := by unfold dealR; rw [if_pos hn]; rfl
    have hok : (decide ((0 : Int) ≤ m) && decide ((m : Int) ≤ 1048576)) = true := by simp; omega
    rw [hR]
    obtain ⟨d, HP⟩ : ∃ d, Hid (dealTo xs m k0 = d) := ⟨_, rfl⟩
    rw [HP.out]
    clear hR
    have hA := (Below.refl w.heap.size w).alloc (Nat.le_refl _) (.cells #[.int .i64 (m : Int)] 3)
    have hcA : (w.alloc (.cells #[.int .i64 (m : Int)] 3)).cell? ⟨w.heap.size, 0, none⟩ = some (.int .i64 (m : Int)) := by simp
    have hmk := run_made (w.alloc (.cells #[.int .i64 (m : Int)] 3)) m hm
    have hI := Ints.made (w.alloc (.cells #[.int .i64 (m : Int)] 3)) (List.replicate m 0)
    have hB := (Below.refl (w.alloc (.cells #[.int .i64 (m : Int)] 3)).heap.size (w.alloc (.cells #[.int .i64 (m : Int)] 3))).alloc (Nat.le_refl _) (.cells ((List.replicate m (0 : Int)).map (Value.int .i64)).toArray 3)
    have hsz : (w.alloc (.cells #[.int .i64 (m : Int)] 3)).heap.size = w.heap.size + 1 := by simp
    rw [hsz] at hI hB hmk
    have b1 : Below w.heap.size w _ := hA.trans (hB.mono (by omega))
    have c2 := (hB.cell (p := ⟨w.heap.size, 0, none⟩) (by show w.heap.size < _; omega)).trans hcA
    generalize hw1 : (w.alloc (.cells #[.int .i64 (m : Int)] 3)).alloc (.cells ((List.replicate m (0 : Int)).map (Value.int .i64)).toArray 3) = w1 at *
    have hg := hI.lt
    have b2 : Below w1.heap.size w1 (w1.alloc (.cells #[.slice (some ⟨w.heap.size + 1, 0, none⟩) m m] 28)) := (Below.refl w1.heap.size w1).alloc (Nat.le_refl _) _
    have c3 := (b2.cell (p := ⟨w.heap.size, 0, none⟩) (by show w.heap.size < _; omega)).trans c2
    have c1 : (w1.alloc (.cells #[.slice (some ⟨w.heap.size + 1, 0, none⟩) m m] 28)).cell? ⟨w1.heap.size, 0, none⟩ = some (.slice (some ⟨w.heap.size + 1, 0, none⟩) m m) := by simp
    have HS : Dealt S b w m (w.heap.size + 1) w1.heap.size w.heap.size w.heap.size k0 (List.replicate m 0) (w1.alloc (.cells #[.slice (some ⟨w.heap.size + 1, 0, none⟩) m m] 28)) :=
      ⟨hst _ _ _ (hst _ _ _ h0 b1) (b2.mono b1.size), hI.below b2 hg, by simp, (But.of_below b1).grown b2, c1, c3, c3, ⟨by omega, by omega, by omega, by omega⟩, by simp; omega, by simp, by simp; omega, by simp; omega, by omega, by omega, by omega⟩
    have hE := each_any T v K b top S xs hs (fun _ => (m : Int)) (fun l _ x => addOne l x) (fun i k l w' => Dealt S b w m (w.heap.size + 1) w1.heap.size w.heap.size w.heap.size k l w' ∧ Small l i) 32 33 (.pointer (some ⟨w.heap.size, 0, none⟩)) #[.pointer (some ⟨w1.heap.size, 0, none⟩)] (m : Int) m (.inl rfl) hm k0 (by omega)
      (fun _ _ _ _ h => h.1.src) (fun _ _ _ _ _ _ h h1 h2 => ⟨h.1.next hb h1 h2, h.2⟩) (fun i hi => by omega) (fun _ _ => by kernel_rfl) (fun _ _ _ => by kernel_rfl) (fun i k l w hi h => deal1_any _ _ _ _ h.1.c3)
      (fun i x k l w hi hx h => (deal2_any _ _ m x m _ l (by omega) h.1.len hm (h.2 x).1 (by have := (h.2 x).2; omega) w h.1.ints h.1.c1).mono fun e w' ⟨he, h1, h2⟩ => ⟨he, h.1.turned hst h1 (by rw [addOne_len]; exact h.1.len) h2, h.2.next x⟩) (List.replicate m 0) _ ⟨HS, Small.start m⟩
    rw [show deals xs (fun _ => (m : Int)) (fun l _ x => addOne l x) m 0 k0 (List.replicate m 0) = d from HP.out] at hE
    clear HS HP hs hI hB hA b1 b2 c2 c1
    go_enter Try.func16, Try.ntmps16
    go_wp2_with fail
    refine (may_any _ _).mono ?_
    rintro e w2 ⟨rfl, rfl⟩
    rw [hok]
    go_wp2_with fail
    refine hE.mono ?_
    rintro e w4 ⟨rfl, _, _, hD, _⟩
    have e1 := hD.c1
    have hsl := hD.slice
    have hS4 := hD.src
    have hB4 := hD.but
    clear hD hE hmk hw1 c3
    by_cases he : d.2.2 = 0
    · have het : (d.2.2 == 0) = true := by simpa using he
      go_wp2_with fail
      go_ret2
      rw [told_ok he]
      exact ⟨⟨_, congrArg (fun x => Ending.returned (.tuple #[_, .int .i64 x])) he.symm, hsl⟩, hS4, hB4⟩
    · have het : (d.2.2 == 0) = false := by simpa using he
      go_wp2_with fail
      go_ret2
      rw [told_no he]
      exact ⟨⟨_, rfl, SliceI.nil _ _⟩, hS4, hB4⟩
  · have hR : dealR xs n k0 = ([], k0, 1) := by unfold dealR; rw [if_neg hn]
    have hok : (decide ((0 : Int) ≤ n) && decide (n ≤ 1048576)) = false := by simp; omega
    rw [hR]
    go_enter Try.func16, Try.ntmps16
    go_wp2_with fail
    refine (may_any _ _).mono ?_
    rintro e w1 ⟨rfl, rfl⟩
    rw [hok]
    go_wp2_with fail
    go_ret2
    have b1 := (Below.refl w.heap.size w).alloc (Nat.le_refl _) (.cells #[.int .i64 n] 3)
    exact ⟨⟨_, rfl, SliceI.nil _ _⟩, hst _ _ _ h0 b1, But.of_below b1⟩
end Go.Proofs.Ytmhggfgbefjcmaa
