/-
  A READER OF BYTES: what it holds; how many bytes are meant; Fail, Left, Number, Whole, Value. Conditions: it has not failed; no more than 2^20 bytes.
-/
import Derived.Test.YtbmbgfmhejahjaaBytes
import Derived.Laws.Externs
import Derived.Laws.BitsAllLaws
namespace Go.Proofs.Ytbmbgfmhejahjaa
open Go.RowKit

/-- How many bytes are meant. -/
def cnt (n : Int) : Nat := if n < 0 then 0 else if 8 < n then 8 else n.toNat
theorem cnt_le (n : Int) : cnt n ≤ 8 := by unfold cnt; split <;> (try split) <;> omega

theorem within_any (n : Int) (w : World) : Calls Try.prog 71 #[.int .i64 n] w fun e w' => e = .returned (.int .i64 (cnt n : Int)) ∧ w = w' := by
  by_cases h1 : n < 0
  · have HE : Hid (cnt n = 0) := if_pos h1
    have g : (if n < 0 then 0 else n) ≤ 8 := by rw [if_pos h1]; decide
    go_enter Try.func71, Try.ntmps71
    go_wp2
    go_ret
    exact ⟨by rw [HE.out]; rfl, rfl⟩
  · by_cases h2 : 8 < n
    · have HE : Hid (cnt n = 8) := (if_neg h1).trans (if_pos h2)
      have g : 8 < (if n < 0 then 0 else n) := by rw [if_neg h1]; exact h2
      go_enter Try.func71, Try.ntmps71
      go_wp2
      go_ret
      exact ⟨by rw [HE.out]; rfl, rfl⟩
    · have HE : Hid ((cnt n : Int) = n) := by
        show _ = _
        unfold cnt
        rw [if_neg h1, if_neg h2]; omega
      have g : (if n < 0 then 0 else n) ≤ 8 := by rw [if_neg h1]; omega
      go_enter Try.func71, Try.ntmps71
      go_wp2
      go_ret
      exact ⟨by rw [HE.out]; rfl, rfl⟩

/-- What a reader holds: the bytes that are left, and the error with which it failed. -/
structure Rd (B C R : Nat) (l : List UInt8) (e : Int) (w : World) : Prop where
  lo : B ≤ R
  hi : R < C
  top : C ≤ w.heap.size
  er : w.cell? ⟨R, 1, none⟩ = some (.int .i64 e)
  f0 : w.frozen? ⟨R, 0, none⟩ = false
  f1 : w.frozen? ⟨R, 1, none⟩ = false
  sl : (w.cell? ⟨R, 0, none⟩ = some (.slice none 0 0) ∧ l = []) ∨ ∃ g off cap, w.cell? ⟨R, 0, none⟩ = some (.slice (some ⟨g, off, none⟩) l.length cap) ∧ l.length ≤ cap ∧ B ≤ g ∧ g < C ∧ g ≠ R ∧ Lst KB g off l w

theorem Rd.same {B C R : Nat} {l : List UInt8} {e : Int} {w w' : World} (h : Rd B C R l e w) (hs : C ≤ w'.heap.size) (hb : ∀ k, B ≤ k → k < C → w'.heap[k]? = w.heap[k]?) : Rd B C R l e w' := by
  have hR := hb R h.lo h.hi
  refine ⟨h.lo, h.hi, hs, (World.cell?_of_block (w := w) hR).trans h.er, (World.frozen?_of_block (w := w) hR).trans h.f0, (World.frozen?_of_block (w := w) hR).trans h.f1, ?_⟩
  rcases h.sl with ⟨h1, h2⟩ | ⟨g, off, cap, h1, h2, h3, h4, h5, h6⟩
  · exact .inl ⟨(World.cell?_of_block (w := w) hR).trans h1, h2⟩
  · exact .inr ⟨g, off, cap, (World.cell?_of_block (w := w) hR).trans h1, h2, h3, h4, h5, h6.kept (hb g h3 h4)⟩
theorem Rd.drewN {B C R : Nat} {l : List UInt8} {e : Int} {w : World} (h : Rd B C R l e w) (n : Nat) : Rd B C R l e (w.drewN n) := h.same h.top fun _ _ _ => rfl
theorem Rd.drew {B C R : Nat} {l : List UInt8} {e : Int} {w : World} (h : Rd B C R l e w) : Rd B C R l e w.drew := h.same h.top fun _ _ _ => rfl
theorem Rd.below {B C R D : Nat} {l : List UInt8} {e : Int} {w w' : World} (h : Rd B C R l e w) (hb : Go.RowKit.Below D w w') (hD : C ≤ D) : Rd B C R l e w' :=
  h.same (Nat.le_trans h.top hb.size) fun k _ hk => hb.block k (by omega)
theorem Rd.but {B C R b : Nat} {l : List UInt8} {e : Int} {w w' : World} (h : Rd B C R l e w) (hb : But b w w') (hn : b < B ∨ C ≤ b) : Rd B C R l e w' :=
  h.same (Nat.le_trans h.top hb.size) fun k hk1 hk2 => hb.block k (by have := h.top; omega) (by omega)
/-- The first so many bytes are taken. -/
theorem Rd.cut {B C R : Nat} {l : List UInt8} {e : Int} {w : World} (g off cap : Nat) (h : Rd B C R l e w) (k : Nat) (hk : k ≤ l.length) (hc : l.length ≤ cap) (hB : B ≤ g) (hC : g < C) (hn : g ≠ R) (hl : Lst KB g off l w) (o2 : Nat) (ho : o2 = off + k ∨ cap = k) (x : Value) (hx : w.cell? ⟨R, 0, none⟩ = some x) :
    Rd B C R (l.drop k) e (w.setCell ⟨R, 0, none⟩ (.slice (some ⟨g, o2, none⟩) (l.length - k) (cap - k))) := by
  refine ⟨h.lo, h.hi, by simpa [World.setCell] using h.top, ?_, by rw [World.frozen?_setCell]; exact h.f0, by rw [World.frozen?_setCell]; exact h.f1, .inr ⟨g, o2, cap - k, ?_, ?_, hB, hC, hn, ?_⟩⟩
  · rw [World.cell?_setCell_other _ _ _ _ (by simp)]; exact h.er
  · rw [World.cell?_setCell_same _ _ _ hx, List.length_drop]
  · rw [List.length_drop]; omega
  · have b := But.setCell R 0 w (.slice (some ⟨g, o2, none⟩) (l.length - k) (cap - k))
    rcases ho with rfl | rfl
    · exact (hl.drop k).but b hn
    · obtain rfl : cap = l.length := by omega
      rw [List.drop_length]
      exact ⟨(hl.but b hn).lt, fun j hj => (by cases hj), fun j hj => (by cases hj)⟩
theorem Rd.fails {B C R : Nat} {l : List UInt8} {e : Int} {w : World} (h : Rd B C R l e w) (e2 : Int) : Rd B C R l e2 (w.setCell ⟨R, 1, none⟩ (.int .i64 e2)) := by
  refine ⟨h.lo, h.hi, by simpa [World.setCell] using h.top, World.cell?_setCell_same _ _ _ h.er, by rw [World.frozen?_setCell]; exact h.f0, by rw [World.frozen?_setCell]; exact h.f1, ?_⟩
  have b := But.setCell R 1 w (.int .i64 e2)
  have c0 : (w.setCell ⟨R, 1, none⟩ (.int .i64 e2)).cell? ⟨R, 0, none⟩ = w.cell? ⟨R, 0, none⟩ := World.cell?_setCell_other _ _ _ _ (by simp)
  rcases h.sl with ⟨h1, h2⟩ | ⟨g, off, cap, h1, h2, h3, h4, h5, h6⟩
  · exact .inl ⟨c0.trans h1, h2⟩
  · exact .inr ⟨g, off, cap, c0.trans h1, h2, h3, h4, h5, h6.but b h5⟩

theorem Rd.cut0 {B C R : Nat} {w : World} (h : Rd B C R [] 0 w) (hx : w.cell? ⟨R, 0, none⟩ = some (.slice none 0 0)) : Rd B C R [] 0 (w.setCell ⟨R, 0, none⟩ (.slice none 0 0)) := by
  refine ⟨h.lo, h.hi, by simpa [World.setCell] using h.top, ?_, by rw [World.frozen?_setCell]; exact h.f0, by rw [World.frozen?_setCell]; exact h.f1, .inl ⟨World.cell?_setCell_same _ _ _ hx, rfl⟩⟩
  rw [World.cell?_setCell_other _ _ _ _ (by simp)]; exact h.er

/-- The panic of who fails. -/
def thrown (R : Nat) : List PanicEntry := [{ v := .iface 114 (.agg #[.pointer (some ⟨R, 0, none⟩)]), recovered := false }]
def failE (e : Int) : Int := if e = 0 then 3 else e

theorem fail_any (B C R : Nat) (l : List UInt8) (e : Int) (w : World) (h : Rd B C R l 0 w) :
    Calls Try.prog 56 #[.pointer (some ⟨R, 0, none⟩), .int .i64 e] w fun x w' => x = .panicked (thrown R) ∧ Rd B C R l (failE e) w' ∧ But R w w' := by
  have c1 := h.er
  have f1 := h.f1
  by_cases h0 : e = 0
  · have HE : Hid (failE e = 3) := if_pos h0
    have g : (e == 0) = true := by simpa using h0
    have HR := Lib.hid ((h.fails e).fails 3)
    have HB := Lib.hid ((But.setCell R 1 w (.int .i64 e)).trans (But.setCell R 1 _ (.int .i64 3)))
    clear h h0
    go_enter Try.func56, Try.ntmps56
    go_wp2
    refine ⟨rfl, rfl, ?_, ?_⟩
    · rw [HE.out]; exact HR.out
    · exact HB.out
  · have HE : Hid (failE e = e) := if_neg h0
    have g : (e == 0) = false := by simpa using h0
    have HR := Lib.hid (h.fails e)
    have HB := Lib.hid (But.setCell R 1 w (.int .i64 e))
    clear h h0
    go_enter Try.func56, Try.ntmps56
    go_wp2
    refine ⟨rfl, rfl, ?_, ?_⟩
    · rw [HE.out]; exact HR.out
    · exact HB.out

theorem left_any (B C R : Nat) (l : List UInt8) (e : Int) (w : World) (h : Rd B C R l e w) :
    Calls Try.prog 72 #[.pointer (some ⟨R, 0, none⟩)] w fun x w' => x = .returned (.int .i64 (l.length : Int)) ∧ w' = w := by
  obtain ⟨a, cap, hc⟩ : ∃ a cap, w.cell? ⟨R, 0, none⟩ = some (.slice a l.length cap) := by
    rcases h.sl with ⟨h1, rfl⟩ | ⟨g, off, cap, h1, _⟩
    · exact ⟨_, _, h1⟩
    · exact ⟨_, _, h1⟩
  clear h
  go_enter Try.func72, Try.ntmps72
  go_wp2
  go_ret
  exact ⟨rfl, rfl⟩
/-- A number of bytes more. -/
theorem shl_or (n x : Nat) (hn : n < 72057594037927936) (hx : x < 256) : bits .or .u64 ((n : Int) * 256) (x : Int) = ((256 * n + x : Nat) : Int) := by
  have e1 : (n : Int) * 256 = ((n * 256 : Nat) : Int) := by omega
  rw [e1]
  refine (u64_or_nat (n * 256) x (by omega) (by omega)).trans ?_
  have : n * 256 ||| x = 256 * n + x := by
    rw [Nat.mul_comm n 256]
    exact nat_join 8 _ _ (by omega) hx
  rw [this]

set_option maxHeartbeats 1000000 in
theorem number_some (B C R : Nat) (l : List UInt8) (n : Int) (hn : cnt n ≤ l.length) (w : World) (h : Rd B C R l 0 w) (hm : l.length ≤ 1048576) :
    Calls Try.prog 55 #[.pointer (some ⟨R, 0, none⟩), .int .i64 n] w fun x w' => x = .returned (.int .u64 (num (l.take (cnt n)) : Int)) ∧ Rd B C R (l.drop (cnt n)) 0 w' ∧ But R w w' := by
  have c1 := h.er
  have f0 := h.f0
  have hw := within_any n
  obtain ⟨k, hk⟩ : ∃ k, cnt n = k := ⟨_, rfl⟩
  have h8 := cnt_le n
  rw [hk] at hn hw h8 ⊢
  clear hk
  rcases h.sl with ⟨h1, rfl⟩ | ⟨g, off, cap, h1, h2, h3, h4, h5, h6⟩
  · obtain rfl : k = 0 := by simpa using hn
    go_enter Try.func55, Try.ntmps55
    go_wp2_with fail
    refine (hw _).mono ?_
    rintro e w1 ⟨rfl, rfl⟩
    have HR := Lib.hid (h.cut0 h1)
    have HB := Lib.hid (But.setCell R 0 w (.slice none 0 0))
    clear h hw
    go_wp2_with fail
    go_loopw [34, 6] (fun iv nv wr => iv = .int .i64 0 ∧ nv = .int .u64 0 ∧ wr = w) (fun _ _ _ => 0)
    case atStart => exact ⟨rfl, rfl, rfl⟩
    case round =>
      obtain ⟨rfl, rfl, rfl⟩ := hrel
      go_wp2_with fail
      go_ret
      exact ⟨rfl, HR.out, HB.out⟩
  · have HX : Hid (Rd B C R (l.drop k) 0 (w.setCell ⟨R, 0, none⟩ (.slice (if cap = k then some ⟨g, off, none⟩ else some ⟨g, off + k, none⟩) (l.length - k) (cap - k)))) := by
      show Rd _ _ _ _ _ _
      split
      · rename_i e; exact h.cut g off cap k hn h2 h3 h4 h5 h6 off (.inr e) _ h1
      · exact h.cut g off cap k hn h2 h3 h4 h5 h6 (off + k) (.inl rfl) _ h1
    have HB : Hid (∀ x, But R w (w.setCell ⟨R, 0, none⟩ x)) := fun x => But.setCell R 0 w x
    have k1 : (k : Int) ≤ (cap : Int) := by omega
    have k2 : ¬ l.length < k := by omega
    have k3 : (k : Int) ≤ (l.length : Int) := by omega
    have HL := Lib.hid h6
    obtain ⟨m, hlm⟩ : ∃ m, l.length = m := ⟨_, rfl⟩
    have HM := Lib.hid hlm
    rw [hlm] at HX h1 h2 k2 k3 hn
    clear h h6 hm h2 hn hlm
    go_enter Try.func55, Try.ntmps55
    go_wp2_with fail
    refine (hw _).mono ?_
    rintro e w1 ⟨rfl, rfl⟩
    clear hw
    go_wp2_with fail
    go_loopw [34, 6] (fun iv nv wr => ∃ j : Nat, j ≤ k ∧ iv = .int .i64 j ∧ nv = .int .u64 (num (l.take j) : Int) ∧ wr = w) (fun iv _ _ => k - (intOf iv).toNat)
    case atStart => exact ⟨0, by omega, rfl, rfl, rfl⟩
    case round =>
      obtain ⟨j, hj, rfl, rfl, rfl⟩ := hrel
      by_cases hlt : j < k
      · have i1 : (j : Int) < (k : Int) := by omega
        have hjl : j < l.length := by have := HM.out; omega
        have cx := HL.out.cell j hjl
        obtain ⟨x, hx⟩ : ∃ x, l.getD j 0 = x := ⟨_, rfl⟩
        have HN : Hid (num (l.take (j + 1)) = 256 * num (l.take j) + x.toNat) := by
          show _ = _
          rw [List.take_add_one, List.getElem?_eq_getElem hjl, ← hx]
          simp only [Option.toList_some, num_snoc, List.getD_eq_getElem?_getD, List.getElem?_eq_getElem hjl, Option.getD_some]
        have hnl : num (l.take j) < 72057594037927936 := by
          have h1 := num_lt (l.take j)
          have h2 : 256 ^ (l.take j).length ≤ 256 ^ 7 := Nat.pow_le_pow_right (by decide) (by simp; omega)
          exact Nat.lt_of_lt_of_le h1 h2
        have hxl : x.toNat < 256 := x.toNat_lt
        have cx2 : wr.cell? ⟨g, off + j, none⟩ = some (.int .u8 (x.toNat : Int)) := by rw [cx, ← hx]; rfl
        have HS := Lib.hid (shl_or _ _ hnl hxl)
        clear cx hx
        generalize x.toNat = y at *
        generalize num (l.take j) = z at *
        have x1 : IntKind.u64.wrap (y : Int) = (y : Int) := by rw [IntKind.wrap_u64]; omega
        clear hjl
        go_wp2_with fail
        go_roundw
        case rel => exact ⟨j + 1, by omega, by go_num, by rw [HN.out]; exact congrArg (Value.int IntKind.u64) HS.out, trivial⟩
        case measure => simp [intOf]; omega
      · have i1 : ¬ (j : Int) < (k : Int) := by omega
        obtain rfl : j = k := by omega
        clear hlt
        by_cases hcap : cap = j
        · have HX2 := HX.out
          rw [if_pos hcap, show cap - j = 0 by omega] at HX2
          have HX3 := Lib.hid HX2
          clear HX2 HX
          go_wp2_with fail
          go_ret
          exact ⟨rfl, HX3.out, HB.out _⟩
        · have HX2 := HX.out
          rw [if_neg hcap] at HX2
          have HX3 := Lib.hid HX2
          clear HX2 HX
          go_wp2_with fail
          go_ret
          exact ⟨rfl, HX3.out, HB.out _⟩

theorem number_none (B C R : Nat) (l : List UInt8) (n : Int) (hn : l.length < cnt n) (w : World) (h : Rd B C R l 0 w) :
    Calls Try.prog 55 #[.pointer (some ⟨R, 0, none⟩), .int .i64 n] w fun x w' => x = .panicked (thrown R) ∧ Rd B C R l 2 w' ∧ But R w w' := by
  have c1 := h.er
  have hw := within_any n
  have hf := fail_any B C R l 2 w h
  rw [show failE 2 = 2 from rfl] at hf
  obtain ⟨k, hk⟩ : ∃ k, cnt n = k := ⟨_, rfl⟩
  rw [hk] at hn hw
  obtain ⟨a, cap, hc⟩ : ∃ a cap, w.cell? ⟨R, 0, none⟩ = some (.slice a l.length cap) := by
    rcases h.sl with ⟨h1, rfl⟩ | ⟨g, off, cap, h1, _⟩
    · exact ⟨_, _, h1⟩
    · exact ⟨_, _, h1⟩
  clear hk h
  go_enter Try.func55, Try.ntmps55
  go_wp2_with fail
  refine (hw _).mono ?_
  rintro e w1 ⟨rfl, rfl⟩
  go_wp2_with fail
  refine hf.mono ?_
  rintro e w1 ⟨rfl, hr⟩
  exact ⟨rfl, rfl, hr⟩

theorem fromb (n : Nat) (w : World) : (callFunc 34 #[.int .u64 (n : Int)]).run Try.prog w = .ok (.value (.float .f64 n)) w := by
  rw [run_callFunc_extern Try.func34 (by kernel_rfl) (by kernel_rfl) (by kernel_rfl) (e := Extern.MathFloatBits.float64frombits) (by kernel_rfl)]
  rfl
theorem tob (b : Nat) (w : World) : (callFunc 19 #[.float .f64 b]).run Try.prog w = .ok (.value (.int .u64 b)) w := by
  rw [run_callFunc_extern Try.func19 (by kernel_rfl) (by kernel_rfl) (by kernel_rfl) (e := Extern.MathFloatBits.float64bits) (by kernel_rfl)]
  rfl

theorem whole_some (B C R : Nat) (l : List UInt8) (hn : 8 ≤ l.length) (w : World) (h : Rd B C R l 0 w) (hm : l.length ≤ 1048576) :
    Calls Try.prog 62 #[.pointer (some ⟨R, 0, none⟩)] w fun x w' => x = .returned (.int .i64 (wrap64 (num (l.take 8) : Int))) ∧ Rd B C R (l.drop 8) 0 w' ∧ But R w w' := by
  have hf := number_some B C R l 8 hn w h hm
  rw [show cnt 8 = 8 from rfl] at hf
  clear h
  go_enter Try.func62, Try.ntmps62
  go_wp2_with fail
  refine hf.mono ?_
  rintro e w1 ⟨rfl, hr⟩
  go_wp2_with fail
  go_ret
  exact ⟨rfl, hr⟩
theorem value_some (B C R : Nat) (l : List UInt8) (hn : 8 ≤ l.length) (w : World) (h : Rd B C R l 0 w) (hm : l.length ≤ 1048576) :
    Calls Try.prog 60 #[.pointer (some ⟨R, 0, none⟩)] w fun x w' => x = .returned (.float .f64 (num (l.take 8))) ∧ Rd B C R (l.drop 8) 0 w' ∧ But R w w' := by
  have hf := number_some B C R l 8 hn w h hm
  rw [show cnt 8 = 8 from rfl] at hf
  clear h
  go_enter Try.func60, Try.ntmps60
  go_wp2_with fail
  refine hf.mono ?_
  rintro e w1 ⟨rfl, hr⟩
  go_wp2_with (simp only [fromb])
  go_ret
  exact ⟨rfl, hr⟩
end Go.Proofs.Ytbmbgfmhejahjaa
