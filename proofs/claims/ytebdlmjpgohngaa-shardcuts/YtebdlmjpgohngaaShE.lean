/-
  CUTS: what the statement on cuts answers. Condition: a number of things of 64 bits with a sign.
-/
import Derived.Test.YtebdlmjpgohngaaShD
import Derived.Test.YtebdlmjpgohngaaHisN
import Derived.BigQuiet
namespace Go.Proofs.Ytebdlmjpgohngaa
open Go.RowKit

set_option maxHeartbeats 1000000 in
theorem cuts_any (m p : Int) (hm : m < 9223372036854775808) (w : World) :
    Calls Try.prog 3 #[.int .i64 m, .int .i64 p] w fun e w' => e = .returned (.bool true) ∧ Go.RowKit.Below w.heap.size w w' := by
  have hC := cut_any m p hm w
  have hR := fun w1 => refCut_any m p hm w1
  have hK : partsK m p ≤ 64 := by unfold partsK; split <;> omega
  generalize spanL (cutF m.toNat p.toNat) (partsK m p) = L at *
  generalize partsK m p = K at *
  have HK := Lib.hid hK
  clear hm hK
  go_enter Try.func3, Try.ntmps3
  go_wp2_with fail
  refine hC.mono ?_
  rintro e w1 ⟨v, ⟨rfl, hv⟩, hb⟩
  go_wp2_with fail
  refine (hR w1).mono ?_
  rintro e w2 ⟨u, ⟨rfl, hu⟩, hb2⟩
  obtain ⟨a, ca, rfl, hl, hv2⟩ := (hv.below hb2).read
  obtain ⟨b, cb, rfl, -, hu2⟩ := hu.read
  have HV := Lib.hid hv2
  have HU := Lib.hid hu2
  have HL := Lib.hid hl
  have HB := Lib.hid (hb.trans (hb2.mono hb.size))
  clear hv hu hb hb2 hl hv2 hu2 hC hR
  go_wp2_with fail
  go_loopw [21] (fun c wr => ∃ (t : Nat), t ≤ K ∧ c = .int .i64 (t : Int) ∧ Go.RowKit.Below w2.heap.size w2 wr) (fun c _ => K - (intOf c).toNat)
  case atStart => exact ⟨0, Nat.zero_le _, rfl, Go.RowKit.Below.refl _ w2⟩
  case round =>
    obtain ⟨t, ht, rfl, hB⟩ := hrel
    by_cases hlt : t < K
    · have hlt2 : (t : Int) < (K : Int) := by omega
      rcases (HV.out.below hB) with h0 | ⟨g, off, rfl, hg, hc⟩
      · exact absurd hlt (by have := HL.out; rw [h0] at this; simp at this; omega)
      rcases (HU.out.below hB) with h0 | ⟨g', off', rfl, hg', hc'⟩
      · exact absurd hlt (by have := HL.out; rw [h0] at this; simp at this; omega)
      have c0 := hc (t * 2) (by have := HL.out; omega)
      have c1 := hc (t * 2 + 1) (by have := HL.out; omega)
      have d0 := hc' (t * 2) (by have := HL.out; omega)
      have d1 := hc' (t * 2 + 1) (by have := HL.out; omega)
      clear hc hc'
      generalize L.getD (t * 2) KN.z = x0 at *
      generalize L.getD (t * 2 + 1) KN.z = x1 at *
      rw [← Nat.add_assoc] at c1 d1
      change wr.cell? ⟨g, off + t * 2, none⟩ = some (.int .i64 x0) at c0
      change wr.cell? ⟨g, off + t * 2 + 1, none⟩ = some (.int .i64 x1) at c1
      change wr.cell? ⟨g', off' + t * 2, none⟩ = some (.int .i64 x0) at d0
      change wr.cell? ⟨g', off' + t * 2 + 1, none⟩ = some (.int .i64 x1) at d1
      have HT := Lib.hid hlt
      have HBB := Lib.hid hB
      have HN := Lib.hid (next_num hlt (Nat.le_trans HK.out (by decide)))
      clear hlt ht hB hg hg'
      go_wp2_with fail
      go_quiet (fail)
      clear c0 c1 d0 d1
      go_wp2_with fail
      go_roundw
      case rel => exact ⟨t + 1, HT.out, congrArg (Value.int .i64) HN.out.1, drawB HBB.out _⟩
      case measure => exact HN.out.2
    · have hlt2 : ¬ (t : Int) < (K : Int) := by omega
      have HBB := Lib.hid (HB.out.trans (hB.mono HB.out.size))
      clear hlt ht hB
      go_wp2_with fail
      refine (fixed_any _).mono ?_
      rintro e w3 ⟨rfl, hb3⟩
      go_wp2_with fail
      go_ret
      exact ⟨rfl, HBB.out.trans (hb3.mono HBB.out.size)⟩
end Go.Proofs.Ytebdlmjpgohngaa
