/-
  Choose: of any source that is told by a contract those that are chosen, rising, where the source stands, and the error are as the draws make them; nothing but the source's own block turns. Conditions: as the source's contract asks.
-/
import Derived.Test.YtmhggfgbefjcmaaDeal
import Derived.Test.YtmhggfgbefjcmaaSortLay
import Derived.Sort.EveryDepth
import Derived.Lib.OwnBridge
namespace Go.Proofs.Ytmhggfgbefjcmaa
open Go.RowKit

/-- Rising. -/
def sortI (l : List Int) : List Int := l.mergeSort fun x y => decide (x ≤ y)
theorem sortI_len (l : List Int) : (sortI l).length = l.length := List.length_mergeSort l

theorem clone_any (g k cap : Nat) (l : List Int) (hk : k ≤ l.length) (hb : l.length ≤ 1048576) (w : World) (hI : Ints g l w) :
    Calls Try.prog 29 #[.slice (some ⟨g, 0, none⟩) k cap] w fun e w' => ∃ g' cap', e = .returned (.slice (some ⟨g', 0, none⟩) k cap') ∧ w.heap.size ≤ g' ∧ Ints g' (l.take k) w' ∧ Below w.heap.size w w' := by
  refine (Any.slices_Clone_int laysClone g 0 k cap l w hk (by omega) (fun j hj => by rw [Nat.zero_add]; exact hI.cell j hj)).mono ?_
  rintro e w' ⟨v', rfl, hown, hnil, hB⟩
  have ho : OwnI w' w.heap.size v' (l.take k) := by
    unfold OwnI
    rw [show (l.take k).length = k by simp; omega]
    exact hown
  rcases ho.ints with ⟨h, _⟩ | ⟨g', cap', rfl, hg, _, _, h⟩
  · exact absurd h hnil
  · exact ⟨g', cap', by rw [show (l.take k).length = k by simp; omega], hg, h, hB⟩

theorem sort_any (g cap : Nat) (l : List Int) (hb : l.length ≤ 1048576) (w : World) (hI : Ints g l w) :
    Calls Try.prog 30 #[.slice (some ⟨g, 0, none⟩) l.length cap] w fun e w' => e = .returned (.tuple #[]) ∧ Ints g (sortI l) w' ∧ But g w w' := by
  have hH : Sort.Holds (Value.int .i64) w g 0 l.toArray := fun j hj => by
    have hj' : j < l.length := by simpa using hj
    rw [Nat.zero_add]
    refine ⟨?_, hI.frozen j hj'⟩
    rw [hI.cell j hj']
    simp [List.getD_eq_getElem?_getD, hj', getElem!_pos]
  refine (calls_of_every_depth fun D => AnyS.slices_Sort_int_alone laysSort D g 0 cap l w hH hI.lt (by omega)).mono ?_
  rintro e w' ⟨rfl, n, os, rfl⟩
  have hs : (sortI l).toArray.size = l.toArray.size := by simp [sortI_len]
  have h1 := Sort.holds_putRow (Value.int .i64) (Sort.ahead w n) g 0 _ _ (Sort.holds_ahead (Value.int .i64) w n g 0 _ hH) hs
  have hsz : (Sort.putRow (Value.int .i64) (Sort.ahead w n) g 0 (sortI l).toArray).heap.size = w.heap.size := by simp [Sort.putRow, Sort.mapBlock, Sort.ahead]
  have h2 := Sort.holds_grow (Value.int .i64) _ os g 0 _ (by rw [hsz]; exact hI.lt) h1
  refine ⟨rfl, ⟨?_, fun j hj => ?_, fun j hj => ?_⟩, ⟨rfl, rfl, rfl, ?_, fun k hk hn => ?_⟩⟩
  · have := hI.lt
    show g < (Sort.grow (Sort.putRow (Value.int .i64) (Sort.ahead w n) g 0 (sortI l).toArray) os).heap.size
    simp only [Sort.grow, Array.size_append, hsz]; omega
  · have := (h2 j (by simpa using hj)).1
    rw [Nat.zero_add] at this
    refine this.trans ?_
    simp [List.getD_eq_getElem?_getD, hj, getElem!_pos]
  · have := (h2 j (by simpa using hj)).2
    rwa [Nat.zero_add] at this
  · show w.heap.size ≤ (Sort.grow (Sort.putRow (Value.int .i64) (Sort.ahead w n) g 0 (sortI l).toArray) os).heap.size
    simp only [Sort.grow, Array.size_append, hsz]; omega
  · show (Sort.grow (Sort.putRow (Value.int .i64) (Sort.ahead w n) g 0 (sortI l).toArray) os).heap[k]? = w.heap[k]?
    rw [Sort.heap_grow_old _ _ (by rw [hsz]; exact hk)]
    simp [Sort.putRow, Sort.mapBlock, Sort.ahead, Array.getElem?_modify, Ne.symm hn]

def chooseTo (xs : Nat → Int) (n t k : Nat) : List Int × Nat × Int := deals xs (fun i => (n : Int) - i) (fun l i x => swapL l i (i + x)) t 0 k (upto n)
/-- Those that are chosen, rising. -/
def chosen (t : Nat) (d : List Int × Nat × Int) : List Int × Nat × Int := if d.2.2 = 0 then (sortI (d.1.take t), d.2.1, 0) else ([], d.2.1, d.2.2)
def chooseR (xs : Nat → Int) (n t : Int) (k : Nat) : List Int × Nat × Int := if 0 ≤ n ∧ n ≤ 1048576 ∧ 0 ≤ t ∧ t ≤ n then chosen t.toNat (chooseTo xs n.toNat t.toNat k) else ([], k, 1)

set_option maxHeartbeats 1000000 in
theorem choose_any (T : TypeId) (v : Value) (K b top : Nat) (S : Nat → World → Prop) (xs : Nat → Int) (hs : Src T v K b top S xs) (n t : Int) (k0 : Nat) (hk0 : k0 + 67108864 ≤ top) (w : World) (hb : b < w.heap.size) (hst : Stays w.heap.size S) (h0 : S k0 w) :
    Calls Try.prog 14 #[.iface T v, .int .i64 n, .int .i64 t] w fun e w' => (∃ r, e = .returned (.tuple #[r, .int .i64 (chooseR xs n t k0).2.2]) ∧ SliceI w' w.heap.size r (chooseR xs n t k0).1) ∧ S (chooseR xs n t k0).2.1 w' ∧ But b w w' := by
  have hmf : ∀ (fn : Fn) (first cap : Array Value) (w : World), (Instr.makeFunc fn first cap).run Try.prog w = .ok (.func fn first cap) w := fun _ _ _ _ => rfl
  by_cases hn : 0 ≤ n ∧ n ≤ 1048576 ∧ 0 ≤ t ∧ t ≤ n
  · obtain ⟨m, rfl⟩ : ∃ m : Nat, n = m := ⟨n.toNat, by omega⟩
    obtain ⟨c, rfl⟩ : ∃ c : Nat, t = c := ⟨t.toNat, by omega⟩
    have hm : m ≤ 1048576 := by omega
    have hc : c ≤ m := by omega
    have hR : chooseR xs (m : Int) (c : Int) k0 = chosen c (chooseTo xs m c k0) := by unfold chooseR; rw [if_pos hn]; rfl
    have hok : (decide ((0 : Int) ≤ m) && decide ((m : Int) ≤ 1048576)) = true := by simp; omega
    rw [hR]
    obtain ⟨d, HP⟩ : ∃ d, Hid (chooseTo xs m c k0 = d) := ⟨_, rfl⟩
    rw [HP.out]
    clear hR
    go_enter Try.func14, Try.ntmps14
    go_wp2_with fail
    refine (may_any _ _).mono ?_
    rintro e w1 ⟨rfl, rfl⟩
    rw [hok]
    go_wp2_with fail
    refine (inOrder_any m hm _).mono ?_
    rintro e w1 ⟨rfl, hI, hB⟩
    go_wp2_with fail
    have hg := hI.lt
    have b2 : Below w1.heap.size w1 (w1.alloc (.cells #[.slice (some ⟨w.heap.size, 0, none⟩) m m] 28)) := (Below.refl w1.heap.size w1).alloc (Nat.le_refl _) _
    have c1 : (w1.alloc (.cells #[.slice (some ⟨w.heap.size, 0, none⟩) m m] 28)).cell? ⟨w1.heap.size, 0, none⟩ = some (.slice (some ⟨w.heap.size, 0, none⟩) m m) := by simp
    have hsz : (w1.alloc (.cells #[.slice (some ⟨w.heap.size, 0, none⟩) m m] 28)).heap.size = w1.heap.size + 1 := by simp
    generalize w1.alloc (.cells #[.slice (some ⟨w.heap.size, 0, none⟩) m m] 28) = w2 at *
    refine (fewer_any _ _).mono ?_
    rintro e w3 ⟨rfl, rfl⟩
    have b3 : Below w2.heap.size w2 (w2.alloc (.cells #[.int .i64 (m : Int)] 3)) := (Below.refl w2.heap.size w2).alloc (Nat.le_refl _) _
    have c3 : (w2.alloc (.cells #[.int .i64 (m : Int)] 3)).cell? ⟨w2.heap.size, 0, none⟩ = some (.int .i64 (m : Int)) := by simp
    have hsz3 : (w2.alloc (.cells #[.int .i64 (m : Int)] 3)).heap.size = w2.heap.size + 1 := by simp
    generalize w2.alloc (.cells #[.int .i64 (m : Int)] 3) = w3 at *
    have b12 := b2.trans (b3.mono (by omega))
    have HS : Dealt S b w m w.heap.size w1.heap.size w2.heap.size w2.heap.size k0 (upto m) w3 :=
      ⟨hst _ _ _ h0 (hB.trans (b12.mono (by omega))), hI.below b12 hg, upto_len m, (But.of_below hB).grown b12, (b3.cell (by show w1.heap.size < _; omega)).trans c1, c3, c3, ⟨by omega, by omega, by omega, by omega⟩, by omega, by omega, by omega, by omega, by omega, by omega, by omega⟩
    have hE := each_any T v K b top S xs hs (fun i => (m : Int) - i) (fun l i x => swapL l i (i + x)) (fun _ => Dealt S b w m w.heap.size w1.heap.size w2.heap.size w2.heap.size) 35 28 (.pointer (some ⟨w2.heap.size, 0, none⟩)) #[.pointer (some ⟨w1.heap.size, 0, none⟩)] (c : Int) c (.inl rfl) (by omega) k0 (by omega)
      (fun _ _ _ _ h => h.src) (fun _ _ _ _ _ _ h h1 h2 => h.next hb h1 h2) (fun i hi => by omega) (fun _ _ => by kernel_rfl) (fun _ _ _ => by kernel_rfl) (fun i k l w hi h => fewer1_any _ _ _ (by omega) (by omega) (by omega) _ h.c3)
      (fun i x k l w hi hx h => (choose1_any _ _ m i x m l (by omega) h.len hm w h.ints h.c1).mono fun e w' ⟨he, h1, h2⟩ => ⟨he, h.turned hst h1 (by rw [swapL_len]; exact h.len) h2⟩) (upto m) _ HS
    rw [show deals xs (fun i => (m : Int) - i) (fun l i x => swapL l i (i + x)) c 0 k0 (upto m) = d from HP.out] at hE
    clear HS HP hs hI hB b2 b3 b12 c1 c3 hsz hsz3
    go_wp2_with fail
    refine hE.mono ?_
    rintro e w4 ⟨rfl, _, _, hD⟩
    have e1 := hD.c1
    have hI4 := hD.ints
    have hl4 := hD.len
    have hS4 := hD.src
    have hB4 := hD.but
    have hg4 := hD.lts.2.1
    clear hD hE
    by_cases he : d.2.2 = 0
    · have het : (d.2.2 == 0) = true := by simpa using he
      go_wp2_with fail
      refine (clone_any _ c m d.1 (by omega) (by omega) w4 hI4).mono ?_
      rintro e w5 ⟨g', cap', rfl, hg', hI5, hB5⟩
      have hl5 : (d.1.take c).length = c := by simp; omega
      have hso := sort_any g' cap' (d.1.take c) (by omega) w5 hI5
      rw [hl5] at hso
      clear hI5 hI4
      go_wp2_with fail
      refine hso.mono ?_
      rintro e w6 ⟨rfl, hI6, hB6⟩
      have hB46 : But b w w6 := (hB4.grown hB5).other (by have := hB4.size; omega) hB6
      have hS6 := hst _ _ _ (hst _ _ _ hS4 (hB5.mono hB4.size)) (hB6.below (by have := hB4.size; omega) (by have := hB5.size; have := hB4.size; omega))
      clear hso hB6 hB5 hS4
      go_wp2_with fail
      go_ret2
      rw [show chosen c d = (sortI (d.1.take c), d.2.1, 0) from if_pos he]
      exact ⟨⟨_, rfl, _, cap', by rw [sortI_len, hl5]; rfl, .inr ⟨g', rfl, by have := hB4.size; omega, hI6⟩⟩, hS6, hB46⟩
    · have het : (d.2.2 == 0) = false := by simpa using he
      go_wp2_with fail
      go_ret2
      rw [show chosen c d = ([], d.2.1, d.2.2) from if_neg he]
      exact ⟨⟨_, rfl, SliceI.nil _ _⟩, hS4, hB4⟩
  · have hR : chooseR xs n t k0 = ([], k0, 1) := by unfold chooseR; rw [if_neg hn]
    rw [hR]
    by_cases h1 : 0 ≤ n ∧ n ≤ 1048576
    · have hok : (decide ((0 : Int) ≤ n) && decide (n ≤ 1048576)) = true := by simp; omega
      by_cases h2 : t < 0
      · go_enter Try.func14, Try.ntmps14
        go_wp2_with fail
        refine (may_any _ _).mono ?_
        rintro e w1 ⟨rfl, rfl⟩
        rw [hok]
        go_wp2_with fail
        go_ret2
        exact ⟨⟨_, rfl, SliceI.nil _ _⟩, h0, But.refl _ _⟩
      · have h3 : n < t := by omega
        go_enter Try.func14, Try.ntmps14
        go_wp2_with fail
        refine (may_any _ _).mono ?_
        rintro e w1 ⟨rfl, rfl⟩
        rw [hok]
        go_wp2_with fail
        go_ret2
        exact ⟨⟨_, rfl, SliceI.nil _ _⟩, h0, But.refl _ _⟩
    · have hok : (decide ((0 : Int) ≤ n) && decide (n ≤ 1048576)) = false := by simp; omega
      go_enter Try.func14, Try.ntmps14
      go_wp2_with fail
      refine (may_any _ _).mono ?_
      rintro e w1 ⟨rfl, rfl⟩
      rw [hok]
      go_wp2_with fail
      go_ret2
      exact ⟨⟨_, rfl, SliceI.nil _ _⟩, h0, But.refl _ _⟩
end Go.Proofs.Ytmhggfgbefjcmaa
