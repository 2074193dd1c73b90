/-
  Perm: of any source that is told by a contract the permutation, where the source stands, and the error are as the draws make them; nothing but the source's own block turns. Conditions: as the source's contract asks.
-/
import Derived.Test.YtmhggfgbefjcmaaDrawEach
namespace Go.Proofs.Ytmhggfgbefjcmaa
open Go.RowKit

/-- What holds of the blocks below N alone. -/
def Stays (N : Nat) (S : Nat → World → Prop) : Prop := ∀ k w w', S k w → Below N w w' → S k w'

theorem But.other {b g : Nat} {w0 w w' : World} (h : But b w0 w) (hg : w0.heap.size ≤ g) (h' : But g w w') : But b w0 w' :=
  ⟨h'.os.trans h.os, h'.tape.trans h.tape, h'.output.trans h.output, Nat.le_trans h.size h'.size, fun k hk hn => (h'.block k (Nat.lt_of_lt_of_le hk h.size) (by omega)).trans (h.block k hk hn)⟩
theorem But.grown {b : Nat} {w0 w w' : World} (h : But b w0 w) (h' : Below w.heap.size w w') : But b w0 w' := h.trans (But.of_below h')

/-- A slice that the call has made holds these integers. -/
def SliceI (w : World) (B : Nat) (v : Value) (l : List Int) : Prop := ∃ a cap, v = .slice a l.length cap ∧ (l = [] ∨ ∃ g, a = some ⟨g, 0, none⟩ ∧ B ≤ g ∧ Ints g l w)
theorem SliceI.nil (w : World) (B : Nat) : SliceI w B (.slice none 0 0) [] := ⟨_, _, rfl, .inl rfl⟩
theorem SliceI.holds {w : World} {B : Nat} {v : Value} {l : List Int} (h : SliceI w B v l) : ∃ a cap, v = .slice a l.length cap ∧ HoldsI w a l := by
  obtain ⟨a, cap, rfl, h | ⟨g, rfl, hB, hI⟩⟩ := h
  · exact ⟨a, cap, rfl, .inl h⟩
  · exact ⟨_, cap, rfl, hI.holds⟩
theorem SliceI.below {w w' : World} {B : Nat} {v : Value} {l : List Int} (h : SliceI w B v l) (hb : Below w.heap.size w w') : SliceI w' B v l := by
  obtain ⟨a, cap, rfl, h | ⟨g, rfl, hB, hI⟩⟩ := h
  · exact ⟨a, cap, rfl, .inl h⟩
  · exact ⟨_, cap, rfl, .inr ⟨g, rfl, hB, hI.below hb hI.lt⟩⟩

/-- What the draws leave, as a call answers it: no row with an error. -/
def told (d : List Int × Nat × Int) : List Int × Nat × Int := if d.2.2 = 0 then d else ([], d.2.1, d.2.2)
def permTo (xs : Nat → Int) (n k : Nat) : List Int × Nat × Int := deals xs (fun i => (n : Int) - i) (fun l i x => swapL l (n - 1 - i) x) (n - 1) 0 k (upto n)
def permR (xs : Nat → Int) (n : Int) (k : Nat) : List Int × Nat × Int := if 0 ≤ n ∧ n ≤ 1048576 then told (permTo xs n.toNat k) else ([], k, 1)

/-- What holds while a row is dealt: the source, the row, the cells that are captured. -/
structure Dealt (S : Nat → World → Prop) (b : Nat) (w0 : World) (n g cl cn cf : Nat) (k : Nat) (l : List Int) (w : World) : Prop where
  src : S k w
  ints : Ints g l w
  len : l.length = n
  but : But b w0 w
  c1 : w.cell? ⟨cl, 0, none⟩ = some (.slice (some ⟨g, 0, none⟩) n n)
  c2 : w.cell? ⟨cn, 0, none⟩ = some (.int .i64 n)
  c3 : w.cell? ⟨cf, 0, none⟩ = some (.int .i64 n)
  lts : (w0.heap.size ≤ g ∧ w0.heap.size ≤ cl ∧ w0.heap.size ≤ cn ∧ w0.heap.size ≤ cf) ∧ g < w.heap.size ∧ cl < w.heap.size ∧ cn < w.heap.size ∧ cf < w.heap.size ∧ g ≠ cl ∧ g ≠ cn ∧ g ≠ cf

theorem Dealt.next {S : Nat → World → Prop} {b : Nat} {w0 : World} {n g cl cn cf k k' : Nat} {l : List Int} {w w' : World} (h : Dealt S b w0 n g cl cn cf k l w) (hb : b < w0.heap.size) (hS : S k' w') (hB : But b w w') : Dealt S b w0 n g cl cn cf k' l w' := by
  obtain ⟨⟨a1, a2, a3, a4⟩, b1, b2, b3, b4, r⟩ := h.lts
  have := hB.size
  exact ⟨hS, h.ints.but hB (by omega), h.len, h.but.trans hB, (hB.cell (by exact b2) (by show cl ≠ b; omega)).trans h.c1, (hB.cell (by exact b3) (by show cn ≠ b; omega)).trans h.c2, (hB.cell (by exact b4) (by show cf ≠ b; omega)).trans h.c3, ⟨a1, a2, a3, a4⟩, by omega, by omega, by omega, by omega, r⟩

theorem Dealt.turned {S : Nat → World → Prop} {b : Nat} {w0 : World} {n g cl cn cf k : Nat} {l l' : List Int} {w w' : World} (h : Dealt S b w0 n g cl cn cf k l w) (hst : Stays w0.heap.size S) (hI : Ints g l' w') (hl : l'.length = n) (hB : But g w w') : Dealt S b w0 n g cl cn cf k l' w' := by
  obtain ⟨⟨a1, a2, a3, a4⟩, b1, b2, b3, b4, r1, r2, r3⟩ := h.lts
  have := hB.size
  exact ⟨hst _ _ _ h.src (hB.below a1 (by omega)), hI, hl, h.but.other a1 hB, (hB.cell (by exact b2) (by exact Ne.symm r1)).trans h.c1, (hB.cell (by exact b3) (by exact Ne.symm r2)).trans h.c2, (hB.cell (by exact b4) (by exact Ne.symm r3)).trans h.c3, ⟨a1, a2, a3, a4⟩, by omega, by omega, by omega, by omega, r1, r2, r3⟩

theorem Dealt.start {S : Nat → World → Prop} {b : Nat} {w0 : World} {n g cl cn k : Nat} {l : List Int} {w : World} (hst : Stays w0.heap.size S) (hS : S k w) (hI : Ints g l w) (hl : l.length = n) (hB : But b w0 w)
    (c1 : w.cell? ⟨cl, 0, none⟩ = some (.slice (some ⟨g, 0, none⟩) n n)) (c2 : w.cell? ⟨cn, 0, none⟩ = some (.int .i64 n)) (hlt : w0.heap.size ≤ g ∧ w0.heap.size ≤ cl ∧ w0.heap.size ≤ cn ∧ cl < w.heap.size ∧ cn < w.heap.size ∧ g ≠ cl ∧ g ≠ cn) :
    Dealt S b w0 n g cl cn w.heap.size k l (w.alloc (.cells #[.int .i64 n] 3)) := by
  have h1 := hI.lt
  have h2 := hB.size
  have hb := (Below.refl w.heap.size w).alloc (Nat.le_refl _) (.cells #[.int .i64 n] 3)
  exact ⟨hst _ _ _ hS (hb.mono h2), hI.below hb h1, hl, hB.grown hb, (hb.cell (by exact hlt.2.2.2.1)).trans c1, (hb.cell (by exact hlt.2.2.2.2.1)).trans c2, by simp, ⟨by omega, by omega, by omega, h2⟩, by simp; omega, by simp; omega, by simp; omega, by simp, hlt.2.2.2.2.2.1, hlt.2.2.2.2.2.2, by omega⟩

theorem Dealt.drew {S : Nat → World → Prop} {b : Nat} {w0 : World} {n g cl cn cf k : Nat} {l : List Int} {w : World} (h : Dealt S b w0 n g cl cn cf k l w) (hst : Stays w0.heap.size S) : Dealt S b w0 n g cl cn cf k l w.drew :=
  ⟨hst _ _ _ h.src (Below.refl _ _).drew, ⟨h.ints.lt, h.ints.cell, h.ints.frozen⟩, h.len, h.but.drew, h.c1, h.c2, h.c3, h.lts⟩
theorem told_ok {d : List Int × Nat × Int} (h : d.2.2 = 0) : told d = d := if_pos h
theorem told_no {d : List Int × Nat × Int} (h : ¬ d.2.2 = 0) : told d = ([], d.2.1, d.2.2) := if_neg h

theorem Dealt.slice {S : Nat → World → Prop} {b : Nat} {w0 : World} {n g cl cn cf k : Nat} {l : List Int} {w : World} (h : Dealt S b w0 n g cl cn cf k l w) : SliceI w w0.heap.size (.slice (some ⟨g, 0, none⟩) n n) l :=
  ⟨_, n, by rw [h.len], .inr ⟨g, rfl, h.lts.1.1, h.ints⟩⟩

set_option maxHeartbeats 1000000 in
theorem perm_any (T : TypeId) (v : Value) (K b top : Nat) (S : Nat → World → Prop) (xs : Nat → Int) (hs : Src T v K b top S xs) (n : Int) (k0 : Nat) (hk0 : k0 + 67108864 ≤ top) (w : World) (hb : b < w.heap.size) (hst : Stays w.heap.size S) (h0 : S k0 w) :
    Calls Try.prog 11 #[.iface T v, .int .i64 n] w fun e w' => (∃ r, e = .returned (.tuple #[r, .int .i64 (permR xs n k0).2.2]) ∧ SliceI w' w.heap.size r (permR xs n k0).1) ∧ S (permR xs n k0).2.1 w' ∧ But b w w' := by
  have hmf : ∀ (fn : Fn) (first cap : Array Value) (w : World), (Instr.makeFunc fn first cap).run Try.prog w = .ok (.func fn first cap) w := fun _ _ _ _ => rfl
  by_cases hn : 0 ≤ n ∧ n ≤ 1048576
  · obtain ⟨m, rfl⟩ : ∃ m : Nat, n = m := ⟨n.toNat, by omega⟩
    have hm : m ≤ 1048576 := by omega
    have hR : permR xs (m : Int) k0 = told (permTo xs m k0) := by unfold permR; rw [if_pos hn]; rfl
    have hok : (decide ((0 : Int) ≤ m) && decide ((m : Int) ≤ 1048576)) = true := by simp; omega
    rw [hR]
    obtain ⟨d, HP⟩ : ∃ d, Hid (permTo xs m k0 = d) := ⟨_, rfl⟩
    rw [HP.out]
    clear hR
    go_enter Try.func11, Try.ntmps11
    go_wp2_with fail
    refine (may_any _ _).mono ?_
    rintro e w1 ⟨rfl, rfl⟩
    rw [hok]
    go_wp2_with fail
    refine (inOrder_any m hm _).mono ?_
    rintro e w1 ⟨rfl, hI, hB⟩
    have hsz : (w.alloc (.cells #[.int .i64 (m : Int)] 3)).heap.size = w.heap.size + 1 := by simp
    rw [hsz] at hI hB
    have hg := hI.lt
    have hA := (Below.refl w.heap.size w).alloc (Nat.le_refl _) (.cells #[.int .i64 (m : Int)] 3)
    have b1 : Below w.heap.size w w1 := hA.trans (hB.mono (by omega))
    have b2 : Below w1.heap.size w1 (w1.alloc (.cells #[.slice (some ⟨w.heap.size + 1, 0, none⟩) m m] 28)) := (Below.refl w1.heap.size w1).alloc (Nat.le_refl _) _
    have c2 : (w1.alloc (.cells #[.slice (some ⟨w.heap.size + 1, 0, none⟩) m m] 28)).cell? ⟨w.heap.size, 0, none⟩ = some (.int .i64 (m : Int)) := by
      rw [b2.cell (by show w.heap.size < _; omega), hB.cell (by show w.heap.size < _; omega)]; simp
    have c1 : (w1.alloc (.cells #[.slice (some ⟨w.heap.size + 1, 0, none⟩) m m] 28)).cell? ⟨w1.heap.size, 0, none⟩ = some (.slice (some ⟨w.heap.size + 1, 0, none⟩) m m) := by simp
    have HS := Lib.hid ((Dealt.start (S := S) (b := b) (w0 := w) (n := m) (g := w.heap.size + 1) (cl := w1.heap.size) (cn := w.heap.size) (k := k0) (l := upto m)
      (w := w1.alloc (.cells #[.slice (some ⟨w.heap.size + 1, 0, none⟩) m m] 28)) hst (hst _ _ _ (hst _ _ _ h0 b1) (b2.mono b1.size)) (hI.below b2 hg) (upto_len m) ((But.of_below b1).grown b2) c1 c2
      ⟨by omega, by omega, by omega, by simp, by simp; omega, by omega, by omega⟩).drew hst)
    have hwr : IntKind.i64.wrap ((m : Int) - 1) = (m : Int) - 1 := by rw [IntKind.wrap_i64]; omega
    clear hI hB b1 b2 hA c1
    go_wp2_with fail
    generalize w1.alloc (.cells #[.slice (some ⟨w.heap.size + 1, 0, none⟩) m m] 28) = w2 at *
    have d2 := c2
    have hF := fewer_any (m : Int) w2.drew
    have hE := each_any T v K b top S xs hs (fun i => (m : Int) - i) (fun l i x => swapL l (m - 1 - i) x) (fun _ => Dealt S b w m (w.heap.size + 1) w1.heap.size w.heap.size w2.heap.size) 35 24 (.pointer (some ⟨w2.heap.size, 0, none⟩)) #[.pointer (some ⟨w1.heap.size, 0, none⟩), .pointer (some ⟨w.heap.size, 0, none⟩)] ((m : Int) - 1) (m - 1) (by omega) (by omega) k0 (by omega)
      (fun _ _ _ _ h => h.src) (fun _ _ _ _ _ _ h h1 h2 => h.next hb h1 h2) (fun i hi => by omega) (fun _ _ => by kernel_rfl) (fun _ _ _ => by kernel_rfl) (fun i k l w hi h => fewer1_any _ _ _ (by omega) (by omega) (by omega) _ h.c3)
      (fun i x k l w hi hx h => (perm1_any _ _ _ m i x m l (by omega) (by omega) h.len hm w h.ints h.c1 h.c2).mono fun e w' ⟨he, h1, h2⟩ => ⟨he, h.turned hst h1 (by rw [swapL_len]; exact h.len) h2⟩) (upto m) _ HS.out
    rw [show deals xs (fun i => (m : Int) - i) (fun l i x => swapL l (m - 1 - i) x) (m - 1) 0 k0 (upto m) = d from HP.out] at hE
    have HD2 := HS.out.c2
    clear HS hs HP
    go_region_held3 (fun w' => w'.cell? ⟨w.heap.size, 0, none⟩ = some (.int .i64 (m : Int))) (first | exact c2 | exact d2)
      (first
        | (go_at_call 23; refine hF.mono ?_; rintro e w3 ⟨rfl, rfl⟩; have d2 := HD2)
        | (go_at_call 22; refine hE.mono ?_; rintro e w4 ⟨rfl, _, _, hD⟩; have d2 := hD.c2))
    all_goals
      have HR := Lib.hid hD
      have e1 := hD.c1
      have hsl := hD.slice
      have hS4 := hD.src
      have hB4 := hD.but
      clear hD hE hF HD2 d2
      by_cases he : d.2.2 = 0
      · have het : (d.2.2 == 0) = true := by simpa using he
        go_wp2_with fail
        go_ret2
        rw [told_ok he]
        exact ⟨⟨_, congrArg (fun x => Ending.returned (.tuple #[_, .int .i64 x])) he.symm, hsl⟩, hS4, hB4⟩
      · have het : (d.2.2 == 0) = false := by simpa using he
        go_wp2_with fail
        go_ret2
        rw [told_no he]
        exact ⟨⟨_, rfl, SliceI.nil _ _⟩, hS4, hB4⟩
  · have hR : permR xs n k0 = ([], k0, 1) := by unfold permR; rw [if_neg hn]
    have hok : (decide ((0 : Int) ≤ n) && decide (n ≤ 1048576)) = false := by simp; omega
    rw [hR]
    go_enter Try.func11, Try.ntmps11
    go_wp2_with fail
    refine (may_any _ _).mono ?_
    rintro e w1 ⟨rfl, rfl⟩
    rw [hok]
    go_wp2_with fail
    go_ret2
    have b1 := (Below.refl w.heap.size w).alloc (Nat.le_refl _) (.cells #[.int .i64 n] 3)
    exact ⟨⟨_, rfl, SliceI.nil _ _⟩, hst _ _ _ h0 b1, But.of_below b1⟩
end Go.Proofs.Ytmhggfgbefjcmaa
