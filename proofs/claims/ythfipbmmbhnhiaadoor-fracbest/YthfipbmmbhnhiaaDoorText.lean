/-
  TEXTS OF SIGNED FRACTIONS: frac.Text and the document's own. Condition: each number is of 64 bits, with a sign; the library's table of powers of ten reads as its own text lays it.
-/
import Derived.Test.YthfipbmmbhnhiaaDoorFracS
import Derived.Test.YthfipbmmbhnhiaaDoorFmtLay
import Derived.Lib.ItoaLen
namespace Go.Proofs.YthfipbmmbhnhiaaDoor
open Go.RowKit

/-- A signed fraction's text. -/
def txt (n d : Int) : ByteArray := if d < 1 then ⟨#[110, 111, 110, 101]⟩ else dec n ++ ⟨#[47]⟩ ++ dec d

theorem dec_size {n : Int} (h : Whole n) : (dec n).size ≤ 21 := by
  have := Lib.itoa_length_le n h.1 (by have := h.2; omega)
  simpa [dec, ByteArray.size] using this

set_option maxHeartbeats 1000000 in
theorem text_any (n d : Int) (hn : Whole n) (hd : Whole d) (w : World) (ht : Tab w) :
    Calls Tryd.prog 17 #[sg n d] w fun e w' => e = .returned (.string (txt n d)) ∧ Below w.heap.size w w' := by
  have s0 := AtS.new w n d
  have b0 := alloc_below w (.cells #[.int .i64 n, .int .i64 d] 28)
  have t0 := ht.below b0
  by_cases h : d < 1
  · have HE : Hid (txt n d = ⟨#[110, 111, 110, 101]⟩) := if_pos h
    rw [HE.out]
    have d1 : decide (1 ≤ d) = false := by simpa using h
    clear h
    go_enter Tryd.func17, Tryd.ntmps17
    go_wp2_with fail
    refine (rightSigned_any _ _ _).mono ?_
    rintro x w1 ⟨rfl, c1⟩
    go_wp2_with fail
    go_ret
    exact ⟨rfl, onto b0 c1⟩
  · have HE : Hid (txt n d = dec n ++ ⟨#[47]⟩ ++ dec d) := if_neg h
    rw [HE.out]
    have d1 : decide (1 ≤ d) = true := by simp; omega
    have z1 : ¬ 9223372036854775807 < (dec n).size + 1 := by have := dec_size hn; omega
    have z2 : ¬ 9223372036854775807 < (dec n).size + 1 + (dec d).size := by have := dec_size hn; have := dec_size hd; omega
    clear h
    go_enter Tryd.func17, Tryd.ntmps17
    go_wp2_with fail
    generalize w.alloc (.cells #[.int .i64 n, .int .i64 d] 28) = W at *
    refine (rightSigned_any _ _ _).mono ?_
    rintro x w1 ⟨rfl, c1⟩
    have p0 := s0.below c1
    have p1 := t0.below c1
    have p2 := onto b0 c1
    have q0 := p0.below (Below.refl _ w1).drew
    have q1 := p1.below (Below.refl _ w1).drew
    have q2 := onto p2 (Below.refl _ w1).drew
    clear s0 t0 b0 c1
    go_wp2_with fail
    go_region_held3 (fun w' => (w'.cell? ⟨w.heap.size, 0, none⟩ = some (.int .i64 n) ∧ w'.cell? ⟨w.heap.size, 1, none⟩ = some (.int .i64 d))) (first | exact ⟨q0.c0, q0.c1⟩ | exact ⟨p0.c0, p0.c1⟩)
      ((go_at_call 30; refine (fmt_any _ (by assumption) _ q1).mono ?_; rintro x w' ⟨rfl, c⟩; replace q0 := q0.below c; replace q1 := q1.below c; replace q2 := onto q2 c; clear c))
    go_wp2_with fail
    go_ret
    exact ⟨rfl, q2⟩

/-- The decimal digit of a number below 10. -/
def dgt (d : Nat) : UInt8 := UInt8.ofNat (48 + d)
theorem glue (d : Nat) (t : List UInt8) : (ByteArray.mk #[dgt d] ++ ByteArray.mk t.toArray) = ByteArray.mk (dgt d :: t).toArray := ByteArray.mk_append_mk [dgt d] t
theorem piece_fin : ∀ i : Fin 10, ((ByteArray.mk #[48, 49, 50, 51, 52, 53, 54, 55, 56, 57]).extract i.val (i.val + 1)).data = #[UInt8.ofNat (48 + i.val)] := by decide +kernel
theorem run_piece (d : Nat) (hd : d < 10) (w : World) : (Instr.slice 9 (.string ⟨#[48, 49, 50, 51, 52, 53, 54, 55, 56, 57]⟩) (some (.int .u64 (d : Int))) (some (.int .u64 ((d : Int) + 1))) none).run Tryd.prog w = .ok (.string ⟨#[dgt d]⟩) w := by
  rw [run_slice_string w 9 _ .u64 .u64 (d : Int) ((d : Int) + 1) Tryd.underlying9 (by omega) (by omega) (by show _ ≤ ((10 : Nat) : Int); omega)]
  have h := piece_fin ⟨d, hd⟩
  have e : ((d : Int) + 1).toNat = d + 1 := by omega
  rw [e, Int.toNat_natCast]
  congr 2
  exact ByteArray.ext h

set_option maxRecDepth 100000 in
/-- The document's digits of a number. -/
theorem refDigits_any (n : Int) (h : Word n) (w : World) :
    Calls Tryd.prog 36 #[.int .u64 n] w fun e w' => e = .returned (.string ⟨(Lib.decDigits n.toNat).toArray⟩) ∧ w = w' := by
  obtain ⟨h0, h1⟩ := h
  go_enter Tryd.func36, Tryd.ntmps36
  go_wp2_with fail
  go_loopw [0, 3] (fun v s wr => ∃ (u : Nat) (t : List UInt8), v = .int .u64 (u : Int) ∧ s = .string ⟨t.toArray⟩ ∧ wr = w ∧ (u : Int) < 18446744073709551616 ∧ Lib.decDigits u ++ t = Lib.decDigits n.toNat) (fun v _ _ => (intOf v).toNat)
  case atStart => exact ⟨n.toNat, [], by simp [Int.toNat_of_nonneg h0], rfl, rfl, by omega, by simp⟩
  case round =>
    obtain ⟨u, t, rfl, rfl, rfl, hu, ht⟩ := hrel
    have hl : t.length ≤ 20 := by
      have h2 := congrArg List.length ht
      rw [List.length_append, Lib.decDigits_length n.toNat] at h2
      have := Lib.nDigits_le20 n.toNat (by omega)
      omega
    have z1 : ¬ 9223372036854775807 < 1 + t.length := by omega
    have z2 : ¬ 9223372036854775807 < 1 + t.toArray.size := by simp; omega
    clear hl
    by_cases h9 : u < 10
    · have g1 : ¬ (9 : Int) < (u : Int) := by omega
      have hp := run_piece u h9
      have u1 : IntKind.u64.wrap ((u : Int) + 1) = (u : Int) + 1 := by rw [IntKind.wrap_u64]; omega
      have HT := Lib.hid ht
      clear ht
      go_wp2_with (simp only [hp])
      go_ret
      refine ⟨?_, rfl⟩
      rw [← HT.out, Lib.decDigits_one h9]
      exact congrArg (fun x => Ending.returned (Value.string x)) (glue u t)
    · have g1 : (9 : Int) < (u : Int) := by omega
      have HT := Lib.hid ht
      obtain ⟨d, HD⟩ : ∃ d, Hid (u % 10 = d) := ⟨_, rfl⟩
      have hm : (u : Int) % 10 = (d : Int) := by have := HD.out; omega
      have hm2 : (u : Int).tmod 10 = (d : Int) := by rw [Int.tmod_eq_emod_of_nonneg (by omega)]; exact hm
      have u1 : IntKind.u64.wrap ((d : Int) + 1) = (d : Int) + 1 := by rw [IntKind.wrap_u64]; omega
      have hp := run_piece d (by have := HD.out; omega)
      clear ht
      go_wp2_with (simp only [hp])
      refine ⟨⟨u / 10, dgt d :: t, by congr 1, congrArg Value.string (glue d t), trivial, by omega, ?_⟩, by simp [intOf]; omega⟩
      rw [← HT.out]
      conv => rhs; rw [Lib.decDigits, dif_neg h9, HD.out, List.append_assoc]
      rfl

/-- The bytes of a number's digits. -/
def decs (n : Int) : ByteArray := ⟨(Lib.decDigits n.toNat).toArray⟩
theorem decs_small {n : Int} (h : Word n) : (decs n).size ≤ 20 := by
  have := Lib.nDigits_le20 n.toNat (by have := h.1; have := h.2; omega)
  show (Lib.decDigits n.toNat).toArray.size ≤ 20
  rw [List.size_toArray, Lib.decDigits_length]
  exact this
theorem refDecs_any (n : Int) (h : Word n) (w : World) : Calls Tryd.prog 36 #[.int .u64 n] w fun e w' => e = .returned (.string (decs n)) ∧ w = w' := refDigits_any n h w

theorem refWhole_any (n : Int) (h : Whole n) (w : World) :
    Calls Tryd.prog 31 #[.int .i64 n] w fun e w' => e = .returned (.string (dec n)) ∧ w = w' := by
  by_cases hn : n < 0
  · have HE : Hid (dec n = ⟨#[45]⟩ ++ decs (absI n)) := by
      show _ = _
      unfold dec Lib.itoa absI decs
      rw [if_pos hn, if_pos hn, show n.natAbs = (-n).toNat by omega]
      exact (ByteArray.mk_append_mk [45] _).symm
    rw [HE.out]
    have wa := absI_word h
    have hs := decs_small wa
    have z1 : ¬ 9223372036854775807 < 1 + (decs (absI n)).size := by omega
    clear hs HE
    go_enter Tryd.func31, Tryd.ntmps31
    go_wp2_with (first
      | (go_at_call 28; refine (refSize_any _ h _).mono ?_; rintro e w' ⟨rfl, rfl⟩)
      | (go_at_call 36; refine (refDecs_any _ wa _).mono ?_; rintro e w' ⟨rfl, rfl⟩))
    go_ret
    exact ⟨rfl, rfl⟩
  · have HE : Hid (dec n = decs n) := by
      show _ = _
      unfold dec Lib.itoa decs
      rw [if_neg hn]
    rw [HE.out]
    have wa : Word n := by obtain ⟨h1, h2⟩ := h; unfold Word; omega
    have u1 : IntKind.u64.wrap n = n := by obtain ⟨h1, h2⟩ := h; rw [IntKind.wrap_u64]; omega
    clear HE
    go_enter Tryd.func31, Tryd.ntmps31
    go_wp2_with (first
      | (go_at_call 36; refine (refDecs_any _ wa _).mono ?_; rintro e w' ⟨rfl, rfl⟩))
    go_ret
    exact ⟨rfl, rfl⟩

set_option maxHeartbeats 1000000 in
theorem refText_any (n d : Int) (hn : Whole n) (hd : Whole d) (w : World) :
    Calls Tryd.prog 18 #[sg n d] w fun e w' => e = .returned (.string (txt n d)) ∧ Below w.heap.size w w' := by
  have s0 := AtS.new w n d
  have b0 := alloc_below w (.cells #[.int .i64 n, .int .i64 d] 28)
  by_cases h : d < 1
  · have HE : Hid (txt n d = ⟨#[110, 111, 110, 101]⟩) := if_pos h
    rw [HE.out]
    go_enter Tryd.func18, Tryd.ntmps18
    go_wp2_with fail
    go_ret
    exact ⟨rfl, b0⟩
  · have HE : Hid (txt n d = dec n ++ ⟨#[47]⟩ ++ dec d) := if_neg h
    rw [HE.out]
    have z1 : ¬ 9223372036854775807 < (dec n).size + 1 := by have := dec_size hn; omega
    have z2 : ¬ 9223372036854775807 < (dec n).size + 1 + (dec d).size := by have := dec_size hn; have := dec_size hd; omega
    go_enter Tryd.func18, Tryd.ntmps18
    go_wp2_with fail
    have k0 := s0.c0
    have k1 := s0.c1
    generalize w.alloc (.cells #[.int .i64 n, .int .i64 d] 28) = W at *
    clear s0
    go_quiet ((go_at_call 31; exact Calls.quiet_of_same ((refWhole_any _ (by assumption) _).mono fun _ _ h => ⟨h.1, h.2.symm⟩)))
    go_wp2_with fail
    go_ret
    exact ⟨rfl, drawn b0 _⟩
end Go.Proofs.YthfipbmmbhnhiaaDoor
