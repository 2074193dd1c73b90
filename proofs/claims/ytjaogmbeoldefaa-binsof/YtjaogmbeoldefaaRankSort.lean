/-
  rank.Sort: of values, by their bits, the clean ones in order of their keys, in a row of the call's own; what was handed in stays. Condition: at most 2^20 values, of 64 bits each.
-/
import Derived.Test.YtjaogmbeoldefaaSortAll
import Derived.Test.YtjaogmbeoldefaaRankW
namespace Go.Proofs.Ytjaogmbeoldefaa
open Go.RowKit

/-- The keys. -/
def keysOf (l : List Nat) : List Int := l.map fun b => ((key b : Nat) : Int)
/-- Values in order, clean. -/
def inOrder (l : List Nat) : List Nat := (sortI (keysOf l)).map fun k => ofK k.toNat
theorem keysOf_len (l : List Nat) : (keysOf l).length = l.length := by simp [keysOf]
theorem inOrder_len (l : List Nat) : (inOrder l).length = l.length := by simp [inOrder, sortI_len, keysOf_len]

/-- The first j are laid, the rest is the zero. -/
def partE {α : Type} (f : List α) (z : α) (j : Nat) : List α := f.take j ++ List.replicate (f.length - j) z
theorem partE_len {α : Type} (f : List α) (z : α) (j : Nat) : (partE f z j).length = f.length := by simp [partE]; omega
theorem partE_zero {α : Type} (f : List α) (z : α) : partE f z 0 = List.replicate f.length z := by simp [partE]
theorem partE_full {α : Type} (f : List α) (z : α) (j : Nat) (h : f.length ≤ j) : partE f z j = f := by simp [partE, List.take_of_length_le h, show f.length - j = 0 by omega]
theorem partE_set {α : Type} (f : List α) (z : α) (j : Nat) (h : j < f.length) : (partE f z j).set j (f.getD j z) = partE f z (j + 1) := by
  unfold partE
  have hl : (f.take j).length = j := by simp; omega
  rw [List.set_append_right _ _ (by omega), hl, Nat.sub_self, show f.length - j = (f.length - (j + 1)) + 1 by omega, List.replicate_succ, List.set_cons_zero, List.take_add_one, List.getElem?_eq_getElem h, List.append_assoc]
  have e : f.getD j z = f[j] := by simp [List.getD_eq_getElem?_getD, h]
  rw [e]
  rfl

/-- Bits that are 64. -/
def Bits64 (l : List Nat) : Prop := ∀ b ∈ l, b < 18446744073709551616
theorem Bits64.at {l : List Nat} (h : Bits64 l) {j : Nat} (hj : j < l.length) : l.getD j 0 < 18446744073709551616 := by
  rw [List.getD_eq_getElem?_getD, List.getElem?_eq_getElem hj]
  exact h _ (List.getElem_mem hj)
theorem keysOf_at {l : List Nat} {j : Nat} (hj : j < l.length) : (keysOf l).getD j 0 = ((key (l.getD j 0) : Nat) : Int) := by
  simp [keysOf, List.getD_eq_getElem?_getD, hj]
/-- Each key of the row is a key. -/
theorem keys_are {l : List Nat} (h : Bits64 l) {k : Int} (hk : k ∈ sortI (keysOf l)) : ∃ b : Nat, b < 18446744073709551616 ∧ k = ((key b : Nat) : Int) := by
  have := (sortI_perm (keysOf l)).mem_iff.1 hk
  unfold keysOf at this
  obtain ⟨b, hb, rfl⟩ := List.mem_map.1 this
  exact ⟨b, h b hb, rfl⟩

set_option maxHeartbeats 2000000 in
theorem rankSort_any (a : Option Addr) (cap n : Nat) (l : List Nat) (hn : l.length = n) (hb : n ≤ 1048576) (h64 : Bits64 l) (w : World) (hr : HoldsE KF w a l) :
    Calls Try.prog 42 #[.slice a n cap] w fun e w' => (∃ g, e = .returned (.slice (some ⟨g, 0, none⟩) n n) ∧ w.heap.size ≤ g ∧ Lst KF g 0 (inOrder l) w') ∧ Go.RowKit.Below w.heap.size w w' := by
  have hst : ∀ (w : World) (p : Addr) (b : Nat) (m : Mode), (store p (.float .f64 b) m).run Try.prog w = stored Try.prog w p (.float .f64 b) m := fun w p b m => run_store Try.prog w p _ m rfl
  have hkl := keysOf_len l
  have hmk := run_madeE okU w n hb
  have HI := Lib.hid (Lst.made (K := KU) w (List.replicate n 0))
  have HB := Lib.hid ((Go.RowKit.Below.refl w.heap.size w).alloc (Nat.le_refl _) (.cells ((List.replicate n (0 : Int)).map KU.enc).toArray KU.e))
  have hmk : (Instr.makeSlice 24 (.int .i64 (n : Int)) (.int .i64 (n : Int))).run Try.prog w = .ok (.slice (some ⟨w.heap.size, 0, none⟩) n n) (w.alloc (.cells ((List.replicate n (0 : Int)).map KU.enc).toArray KU.e)) := hmk
  generalize (Obj.cells ((List.replicate n (0 : Int)).map KU.enc).toArray KU.e) = ob at *
  go_enter Try.func42, Try.ntmps42
  go_wp2_with fail
  go_loopw [14] (fun v wr => ∃ j : Nat, v = .int .i64 (j : Int) ∧ j ≤ n ∧ Lst KU w.heap.size 0 (partE (keysOf l) 0 j) wr ∧ Go.RowKit.Below w.heap.size w wr) (fun v _ => n - (intOf v).toNat)
  case atStart => exact ⟨0, rfl, by omega, by rw [partE_zero, hkl, hn]; exact HI.out, HB.out⟩
  case round =>
    obtain ⟨j, rfl, hj, hL, hB⟩ := hrel
    clear hmk HI HB
    have hpl : (partE (keysOf l) 0 j).length = n := by rw [partE_len, hkl, hn]
    by_cases hlt : j < n
    · obtain ⟨ga, off, rfl, hga, hrow⟩ : ∃ g off, a = some ⟨g, off, none⟩ ∧ g < w.heap.size ∧ ∀ j, j < l.length → w.cell? ⟨g, off + j, none⟩ = some (.float .f64 (l.getD j 0)) := by
        rcases hr with rfl | h'
        · simp at hn; omega
        · exact h'
      have hx := h64.at (show j < l.length by omega)
      have cx : wr.cell? ⟨ga, off + j, none⟩ = some (.float .f64 (l.getD j 0)) := (hB.cell (by exact hga)).trans (hrow j (by omega))
      have HS := Lib.hid (hL.set j ((keysOf l).getD j 0) (by omega))
      rw [partE_set (keysOf l) 0 j (by omega), keysOf_at (show j < l.length by omega)] at HS
      have cc := hL.cell j (by omega)
      have cf := hL.frozen j (by omega)
      obtain ⟨x, HX⟩ : ∃ x, Hid (l.getD j 0 = x) := ⟨_, rfl⟩
      rw [HX.out] at hx cx HS
      rw [Nat.zero_add] at cc cf HS
      have HB2 := Lib.hid (hB.setCell (p := ⟨w.heap.size, j, none⟩) (Nat.le_refl _) (.int .u64 ((key x : Nat) : Int)))
      clear hL hB hr hrow
      go_wp2_with (go_at_call 50; refine (key_any x hx _).mono ?_; rintro e w' ⟨rfl, rfl⟩)
      go_roundw
      case rel => exact ⟨j + 1, by go_num, by omega, HS.out, HB2.out⟩
      case measure => simp [intOf]; omega
    · rw [partE_full (keysOf l) 0 j (by omega)] at hL
      clear hpl hr
      have C := sort_any w.heap.size 0 n n (keysOf l) (by omega) hb wr hL
      go_wp2_with fail
      refine C.mono ?_
      rintro e w1 ⟨rfl, hL1, hB1⟩
      have hB2 := hB.trans (hB1.below (Nat.le_refl _) hB.size)
      have hg1 := hL1.lt
      have hsz := hB2.size
      have hmk : (Instr.makeSlice 31 (.int .i64 (n : Int)) (.int .i64 (n : Int))).run Try.prog w1 = .ok (.slice (some ⟨w1.heap.size, 0, none⟩) n n) (w1.alloc (.cells ((List.replicate n (0 : Nat)).map KF.enc).toArray KF.e)) := run_madeE okF w1 n hb
      have HI := Lib.hid (Lst.made (K := KF) w1 (List.replicate n 0))
      have HB := Lib.hid (hB2.alloc hsz (.cells ((List.replicate n (0 : Nat)).map KF.enc).toArray KF.e))
      have HL := Lib.hid (hL1.below ((Go.RowKit.Below.refl w1.heap.size w1).alloc (Nat.le_refl _) (.cells ((List.replicate n (0 : Nat)).map KF.enc).toArray KF.e)) hg1)
      generalize (Obj.cells ((List.replicate n (0 : Nat)).map KF.enc).toArray KF.e) = ob at *
      clear C hL hB hL1 hB1 hB2
      have hil := inOrder_len l
      have hsl : (sortI (keysOf l)).length = n := by rw [sortI_len, hkl, hn]
      go_wp2_with fail
      go_loopw [32] (fun v wr => ∃ j : Nat, v = .int .i64 (j : Int) ∧ j ≤ n ∧ Lst KF w1.heap.size 0 (partE (inOrder l) 0 j) wr ∧ Lst KU w.heap.size 0 (sortI (keysOf l)) wr ∧ Go.RowKit.Below w.heap.size w wr) (fun v _ => n - (intOf v).toNat)
      case atStart => exact ⟨0, rfl, by omega, by rw [partE_zero, hil, hn]; exact HI.out, HL.out, HB.out⟩
      case round =>
        obtain ⟨j, rfl, hj, hLF, hLU, hB⟩ := hrel
        clear hmk HI HB HL
        have hpl : (partE (inOrder l) 0 j).length = n := by rw [partE_len, hil, hn]
        by_cases hlt : j < n
        · have ck := hLU.cell j (by omega)
          obtain ⟨k, hk64, hk⟩ : ∃ k : Nat, k < 18446744073709551616 ∧ (sortI (keysOf l)).getD j 0 = (k : Int) := by
            have hm : (sortI (keysOf l)).getD j 0 ∈ sortI (keysOf l) := by
              rw [List.getD_eq_getElem?_getD, List.getElem?_eq_getElem (by omega)]
              exact List.getElem_mem _
            obtain ⟨b, hb64, e⟩ := keys_are h64 hm
            exact ⟨key b, key_lt hb64, e⟩
          have hio : (inOrder l).getD j 0 = ofK k := by
            have hjl : j < (sortI (keysOf l)).length := by omega
            have : (sortI (keysOf l))[j] = (k : Int) := by rw [← hk]; simp [List.getD_eq_getElem?_getD, hjl]
            simp [inOrder, List.getD_eq_getElem?_getD, hjl, this]
          have HS := Lib.hid (hLF.set j ((inOrder l).getD j 0) (by omega))
          rw [partE_set (inOrder l) 0 j (by omega), hio] at HS
          have cc := hLF.cell j (by omega)
          have cf := hLF.frozen j (by omega)
          have ck : wr.cell? ⟨w.heap.size, 0 + j, none⟩ = some (.int .u64 (k : Int)) := by rw [ck]; show some (Value.int .u64 _) = _; rw [show (sortI (keysOf l)).getD j KU.z = (k : Int) from hk]
          rw [Nat.zero_add] at cc cf HS ck
          have HB2 := Lib.hid (hB.setCell (p := ⟨w1.heap.size, j, none⟩) hsz (.float .f64 (ofK k)))
          have HL2 := Lib.hid (hLU.but (But.setCell w1.heap.size j wr (.float .f64 (ofK k))) (by omega))
          clear hLF hLU hB hio hk
          go_wp2_with (go_at_call 52; refine (of_any k hk64 _).mono ?_; rintro e w' ⟨rfl, rfl⟩)
          go_roundw
          case rel => exact ⟨j + 1, by go_num, by omega, HS.out, HL2.out, HB2.out⟩
          case measure => simp [intOf]; omega
        · rw [partE_full (inOrder l) 0 j (by omega)] at hLF
          go_wp2_with fail
          go_ret
          exact ⟨⟨w1.heap.size, rfl, hsz, hLF⟩, hB⟩

end Go.Proofs.Ytjaogmbeoldefaa
