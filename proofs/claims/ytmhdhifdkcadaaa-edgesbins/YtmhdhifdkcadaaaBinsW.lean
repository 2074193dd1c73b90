/-
  THE WALK OF EdgesBins: it returns true; nothing that was there turns. Condition: the numbers are of 64 bits each.
-/
import Derived.Test.YtmhdhifdkcadaaaEdgeX
import Derived.Test.YtmhdhifdkcadaaaEdgeQ
namespace Go.Proofs.Ytmhdhifdkcadaaa
open Go.RowKit

theorem bins_great (a : Option Addr) (n cap : Nat) (f : Int) (hg : 300 < n) (w : World) :
    Calls Try.prog 4 #[.slice a n cap, .int .u64 f] w fun e w' => e = .returned (.bool true) ∧ Go.RowKit.Below w.heap.size w w' := by
  go_enter Try.func4, Try.ntmps4
  go_wp2_with (go_at_call 8; refine (efixed_any _).mono ?_; rintro e w' ⟨rfl, hB⟩)
  go_ret
  exact ⟨rfl, hB⟩

set_option maxHeartbeats 1000000 in
theorem bins_any (a : Option Addr) (n cap : Nat) (l : List Int) (hn : l.length = n) (hb : n ≤ 300) (h64 : ∀ z ∈ l, 0 ≤ z ∧ z < 18446744073709551616) (f : Int) (hf : f.toNat < 18446744073709551616) (w : World) (hr : HoldsE KU w a l) :
    Calls Try.prog 4 #[.slice a n cap, .int .u64 f] w fun e w' => e = .returned (.bool true) ∧ Go.RowKit.Below w.heap.size w w' := by
  have hB64 := bits64_of h64
  have hbl : (bitsOf l).length = n := by rw [bitsOf_len]; exact hn
  have C1 := refOf_any a cap n l hn (by omega) w hr
  obtain ⟨E, HE⟩ : ∃ E, Hid (bitsOf l = E) := ⟨_, rfl⟩
  rw [HE.out] at C1 hB64 hbl
  have hfb : ∀ w : World, (callFunc 15 #[.int .u64 f]).run Try.prog w = .ok (.value (.float .f64 f.toNat)) w := fromb f
  have HBL := Lib.hid hbl
  have H64 := Lib.hid hB64
  have HNB := Lib.hid hb
  have hnb : (n : Int) ≤ 300 := by omega
  generalize f.toNat = F at *
  clear hn hb h64 hbl hB64 hr
  go_enter Try.func4, Try.ntmps4
  go_wp2_with fail
  refine C1.mono ?_
  rintro e w1 ⟨⟨g1, c1, rfl, hg1, hL1⟩, hB1⟩
  have HB1 := Lib.hid hB1
  have h1 := hL1.holds
  clear C1 hB1 hL1 hg1
  go_wp2_with fail
  refine (efixed_any w1).mono ?_
  rintro e w2 ⟨rfl, hB2⟩
  have h2 := h1.below hB2
  have HB2 := Lib.hid (HB1.out.trans (hB2.mono HB1.out.size))
  have D1 := bin_any (some ⟨g1, 0, none⟩) c1 n E HBL.out (by have := HNB.out; omega) H64.out F hf w2 h2
  have D2 := refBin_any (some ⟨g1, 0, none⟩) c1 n E HBL.out (by have := HNB.out; omega) H64.out F hf w2 h2
  have D3 := right_any (some ⟨g1, 0, none⟩) c1 n E HBL.out (by have := HNB.out; omega) H64.out w2 h2
  have D4 := refRight_any (some ⟨g1, 0, none⟩) c1 n E HBL.out (by have := HNB.out; omega) H64.out w2 h2
  generalize binL E F = x at *
  generalize rightB E = r at *
  clear hB2 h1 h2
  go_wp2_with fail
  refine D1.mono ?_
  rintro e w' ⟨rfl, rfl⟩
  go_wp2_with fail
  refine D2.mono ?_
  rintro e w' ⟨rfl, rfl⟩
  go_wp2_with fail
  refine D3.mono ?_
  rintro e w' ⟨rfl, rfl⟩
  go_wp2_with fail
  refine D4.mono ?_
  rintro e w3 ⟨rfl, hB3⟩
  have HB3 := Lib.hid (HB2.out.trans (hB3.mono HB2.out.size))
  clear D1 D2 D3 D4 hB3
  go_wp2_with fail
  go_ret
  exact ⟨rfl, HB3.out⟩

end Go.Proofs.Ytmhdhifdkcadaaa
