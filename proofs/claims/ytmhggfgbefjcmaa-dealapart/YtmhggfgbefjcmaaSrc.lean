/-
  A SOURCE AND A DRAW: what is drawn below n of a source's numbers, how many are taken; lastFair and Below of stream answer so of whatever source whose method is told by a contract. Conditions: n and the numbers are at least 0 and below 2^64.
-/
import Derived.Test.YtmhggfgbefjcmaaRows
import Derived.WalkKit
import Derived.WalkSpells
import Derived.WalkLawsBesides
import Derived.Lib.Hide
import Derived.Handy
namespace Go.Proofs.Ytmhggfgbefjcmaa
open Go.RowKit

/-- All blocks that were there, but one, are as they were. -/
structure But (b : Nat) (w w' : World) : Prop where
  os : w'.os = w.os
  tape : w'.tape = w.tape
  output : w'.output = w.output
  size : w.heap.size ≤ w'.heap.size
  block : ∀ k, k < w.heap.size → k ≠ b → w'.heap[k]? = w.heap[k]?

theorem But.refl (b : Nat) (w : World) : But b w w := ⟨rfl, rfl, rfl, Nat.le_refl _, fun _ _ _ => rfl⟩
theorem But.trans {b : Nat} {w1 w2 w3 : World} (h : But b w1 w2) (k : But b w2 w3) : But b w1 w3 :=
  ⟨k.os.trans h.os, k.tape.trans h.tape, k.output.trans h.output, Nat.le_trans h.size k.size, fun i hi hn => (k.block i (Nat.lt_of_lt_of_le hi h.size) hn).trans (h.block i hi hn)⟩
theorem But.below {b B : Nat} {w w' : World} (h : But b w w') (hb : B ≤ b) (hB : B ≤ w.heap.size) : Below B w w' :=
  ⟨h.os, h.tape, h.output, h.size, fun k hk => h.block k (by omega) (by omega)⟩
theorem But.of_below {b : Nat} {w w' : World} (h : Below w.heap.size w w') : But b w w' :=
  ⟨h.os, h.tape, h.output, h.size, fun k hk _ => h.block k hk⟩
theorem But.cell {b : Nat} {w w' : World} (h : But b w w') {p : Addr} (hp : p.block < w.heap.size) (hn : p.block ≠ b) : w'.cell? p = w.cell? p :=
  World.cell?_of_block (w := w) (h.block p.block hp hn)
theorem But.frozen {b : Nat} {w w' : World} (h : But b w w') {p : Addr} (hp : p.block < w.heap.size) (hn : p.block ≠ b) : w'.frozen? p = w.frozen? p :=
  World.frozen?_of_block (w := w) (h.block p.block hp hn)
theorem But.setCell (b o : Nat) (w : World) (v : Value) : But b w (w.setCell ⟨b, o, none⟩ v) :=
  ⟨rfl, rfl, rfl, by simp [World.setCell], fun k _ hn => Below.heap_setCell _ _ _ _ hn⟩
theorem But.drew {b : Nat} {w w' : World} (h : But b w w') : But b w w'.drew := ⟨h.os, h.tape, h.output, h.size, h.block⟩

/-- The last number that will do below n. -/
def lastI (n : Int) : Int := 18446744073709551615 - (18446744073709551616 - n) % n

/-- What is drawn of a source's numbers from the k-th on, within so many: the number, where the source stands then, the error. -/
def drawTo (xs : Nat → Int) (n : Int) : Nat → Nat → Int × Nat × Int
  | 0, k => (0, k, 7)
  | f + 1, k => if xs k ≤ lastI n then (xs k % n, k + 1, 0) else drawTo xs n f (k + 1)
def draw (xs : Nat → Int) (n : Int) (k : Nat) : Int × Nat × Int := if n = 0 then (0, k, 1) else drawTo xs n 64 k

theorem wrap_neg (n : Int) (h0 : 0 < n) (h1 : n < 18446744073709551616) : IntKind.u64.wrap (18446744073709551615 - (IntKind.u64.wrap (-n)).tmod n) = lastI n := by
  have e : IntKind.u64.wrap (-n) = 18446744073709551616 - n := by rw [IntKind.wrap_u64]; omega
  rw [e, Int.tmod_eq_emod_of_nonneg (by omega), IntKind.wrap_u64]
  unfold lastI
  have a := Int.emod_nonneg (18446744073709551616 - n) (by omega : n ≠ 0)
  have b := Int.emod_lt_of_pos (18446744073709551616 - n) h0
  omega

theorem last_any (n : Int) (h0 : 0 < n) (h1 : n < 18446744073709551616) (w : World) :
    Calls Try.prog 39 #[.int .u64 n] w fun e w' => e = .returned (.int .u64 (lastI n)) ∧ w = w' := by
  have hn : n ≠ 0 := by omega
  have HE := Lib.hid (wrap_neg n h0 h1)
  go_enter Try.func39, Try.ntmps39
  go_wp2
  go_ret
  exact ⟨congrArg (fun x => Ending.returned (Value.int .u64 x)) HE.out, rfl⟩

/-- A source: whose numbers they are, that the k-th is handed out next (S k), and that nothing else turns. -/
structure Src (T : TypeId) (v : Value) (K b top : Nat) (S : Nat → World → Prop) (xs : Nat → Int) : Prop where
  method : ∀ w, (method 210 T v "Next").run Try.prog w = .ok (K, v) w
  enter : ∀ w, (callFunc K #[v]).run Try.prog w = .ok (.enter K #[v]) w
  ins : ∀ k, 0 ≤ xs k ∧ xs k < 18446744073709551616
  call : ∀ k w, k < top → S k w → Calls Try.prog K #[v] w fun e w' => e = .returned (.int .u64 (xs k)) ∧ S (k + 1) w' ∧ But b w w'

set_option maxHeartbeats 400000 in
theorem below_any (T : TypeId) (v : Value) (K b top : Nat) (S : Nat → World → Prop) (xs : Nat → Int) (hs : Src T v K b top S xs) (n : Int) (h0 : 0 ≤ n) (h1 : n < 18446744073709551616) (k : Nat) (w : World) (ht : k + 64 ≤ top) (hk : S k w) :
    Calls Try.prog 34 #[.iface T v, .int .u64 n] w fun e w' => e = .returned (.tuple #[.int .u64 (draw xs n k).1, .int .i64 (draw xs n k).2.2]) ∧ S (draw xs n k).2.1 w' ∧ But b w w' := by
  have hm := hs.method
  have he := hs.enter
  by_cases hn : n = 0
  · subst hn
    go_enter Try.func34, Try.ntmps34
    go_wp2
    go_ret2
    exact ⟨rfl, hk, But.refl _ _⟩
  · go_enter Try.func34, Try.ntmps34
    go_wp2_with fail
    refine (last_any n (by omega) h1 _).mono ?_
    rintro e w1 ⟨rfl, rfl⟩
    go_wp2_with fail
    go_loopw [12] (fun i wr => ∃ j : Nat, j ≤ 64 ∧ i = .int .i64 j ∧ S (k + j) wr ∧ But b w wr ∧ Hid (draw xs n k = drawTo xs n (64 - j) (k + j))) (fun i _ => 64 - (intOf i).toNat)
    case atStart => exact ⟨0, by omega, rfl, hk, But.refl _ _, by show draw xs n k = _; unfold draw; rw [if_neg hn]; rfl⟩
    case round =>
      obtain ⟨j, hj, rfl, hS, hB, HD⟩ := hrel
      by_cases hlt : j < 64
      · go_wp2_with fail
        refine (hs.call _ _ (by omega) hS).mono ?_
        rintro e w2 ⟨rfl, hS2, hB2⟩
        have hB3 := hB.trans hB2
        clear hB hB2 hS
        have hx := hs.ins (k + j)
        obtain ⟨x, HX⟩ : ∃ x, Hid (xs (k + j) = x) := ⟨_, rfl⟩
        rw [HX.out] at hx ⊢
        have hd : drawTo xs n (64 - j) (k + j) = if xs (k + j) ≤ lastI n then (xs (k + j) % n, k + j + 1, 0) else drawTo xs n (63 - j) (k + j + 1) := by
          rw [show 64 - j = (63 - j) + 1 by omega]; rfl
        rw [HX.out] at hd
        by_cases hle : x ≤ lastI n
        · rw [if_pos hle] at hd
          have HD2 : Hid (draw xs n k = (x % n, k + j + 1, 0)) := HD.out.trans hd
          clear HD hd
          go_wp2
          go_ret2
          refine ⟨?_, ?_, hB3⟩
          · rw [HD2.out]; rfl
          · rw [HD2.out]; exact hS2
        · rw [if_neg hle] at hd
          have HD2 : Hid (draw xs n k = drawTo xs n (64 - (j + 1)) (k + (j + 1))) := by
            show _ = _
            rw [HD.out, hd, show 64 - (j + 1) = 63 - j by omega, show k + (j + 1) = k + j + 1 by omega]
          clear HD hd
          go_wp2
          go_roundw
          case rel => exact ⟨j + 1, by omega, by go_num, hS2, hB3, HD2⟩
          case measure => simp [intOf]; omega
      · have hj2 : j = 64 := by omega
        subst hj2
        have HD2 : Hid (draw xs n k = (0, k + 64, 7)) := HD.out
        clear HD
        go_wp2
        go_ret2
        refine ⟨?_, ?_, hB⟩
        · rw [HD2.out]; rfl
        · rw [HD2.out]; exact hS

end Go.Proofs.Ytmhggfgbefjcmaa
