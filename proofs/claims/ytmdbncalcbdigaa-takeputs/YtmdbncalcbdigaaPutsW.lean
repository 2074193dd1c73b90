/-
  TakePuts' walk: what is put behind any bytes is the document's, and leaves these as they were. Condition: the number has 64 bits.
-/
import Derived.Test.YtmdbncalcbdigaaPut
import Derived.Test.YtmdbncalcbdigaaTakeFix
namespace Go.Proofs.Ytmdbncalcbdigaa
open Go.RowKit

theorem puts_great (A : Option Addr) (m c : Nat) (hm : 300 < m) (n b : Value) (w : World) :
    Calls Try.prog 5 #[.slice A m c, n, b] w fun e w' => e = .returned (.bool true) ∧ Below w.heap.size w w' := by
  have g : (300 : Int) < (m : Int) := by omega
  have hf := fixed_any w
  go_enter Try.func5, Try.ntmps5
  go_wp2_with fail
  refine hf.mono ?_
  rintro e w1 ⟨rfl, hb⟩
  go_wp2_with fail
  go_ret
  exact ⟨rfl, hb⟩

set_option maxHeartbeats 20000000 in
theorem puts_any (A : Option Addr) (m c : Nat) (hm : m ≤ 300) (hA : A = none → c = 0) (l : List UInt8) (hl : l.length = m) (x : Nat) (hx : x < 18446744073709551616) (b : Int) (w : World) (h : HoldsE KB w A l) :
    Calls Try.prog 5 #[.slice A m c, .int .u64 (x : Int), .int .i64 b] w fun e w' => e = .returned (.bool true) ∧ Below w.heap.size w w' := by
  have g : ¬ (300 : Int) < (m : Int) := by omega
  have t0 := run_str w A m c l hl h
  have hz : IntKind.u64.wrap (wrap64 (x : Int)) = (x : Int) := by unfold wrap64; rw [IntKind.wrap_u64]; omega
  have p1 := put_any b A m c l hl (by omega) hA x w h
  go_enter Try.func5, Try.ntmps5
  go_wp2_with fail
  refine p1.mono ?_
  rintro e w1 ⟨v1, rfl, own1, bel1⟩
  have h1 := h.below bel1
  have p2 := putWhole_any A m c l hl (by omega) hA x (wrap64 (x : Int)) hz w1 h1
  clear p1 t0
  go_wp2_with fail
  refine p2.mono ?_
  rintro e w2 ⟨v2, rfl, own2, bel2⟩
  have h2 := h1.below bel2
  have bel2' := bel2
  have p3 := putValue_any A m c l hl (by omega) hA x w2 h2
  clear p2
  go_wp2_with (simp only [fromb])
  refine p3.mono ?_
  rintro e w3 ⟨v3, rfl, own3, bel3⟩
  have h3 := h2.below bel3
  have bel3' := bel3
  clear p3
  have r1 := fun b => refPut_any b x hx
  obtain ⟨a1, c1, rfl, z1, -, -, hh1⟩ := own1.holds
  obtain ⟨a2, c2, rfl, z2, -, -, hh2⟩ := own2.holds
  obtain ⟨a3, c3, rfl, z3, -, -, hh3⟩ := own3.holds
  have hk1 := (hh1.below bel2').below bel3'
  have hk2 := hh2.below bel3'
  have hs8 : (bts x 8).length = 8 := bts_len x 8
  have hsb : (bts x (cnt b)).length ≤ 8 := by rw [bts_len]; exact cnt_le b
  generalize hk : l ++ bts x (cnt b) = k1 at *
  generalize hk' : l ++ bts x 8 = k8 at *
  have HK : Hid (∀ W, Below w3.heap.size w3 W → (convert 22 9 (.slice a1 k1.length c1)).run Try.prog W = .ok (.string (sb k1)) W ∧ (convert 22 9 (.slice a2 k8.length c2)).run Try.prog W = .ok (.string (sb k8)) W ∧
      (convert 22 9 (.slice a3 k8.length c3)).run Try.prog W = .ok (.string (sb k8)) W ∧ (convert 22 9 (.slice A m c)).run Try.prog W = .ok (.string (sb l)) W) := fun W hW =>
    ⟨run_str W _ _ _ _ rfl (hk1.below hW), run_str W _ _ _ _ rfl (hk2.below hW), run_str W _ _ _ _ rfl (hh3.below hW), run_str W _ _ _ _ hl (h3.below hW)⟩
  have e1 : sb l ++ sb (bts x (cnt b)) = sb k1 := by rw [sb_append, hk]
  have e8 : sb l ++ sb (bts x 8) = sb k8 := by rw [sb_append, hk']
  have n1 : ¬ 9223372036854775807 < (sb l).size + (sb (bts x (cnt b))).size := by rw [sb_size, sb_size]; omega
  have n8 : ¬ 9223372036854775807 < (sb l).size + (sb (bts x 8)).size := by rw [sb_size, sb_size]; omega
  have q1 : ((sb k1).toList == (sb l ++ sb (bts x (cnt b))).toList) = true := by rw [e1]; exact beq_self_eq_true _
  have q8 : ((sb k8).toList == (sb l ++ sb (bts x 8)).toList) = true := by rw [e8]; exact beq_self_eq_true _
  have q0 : ((sb l).toList == (sb l).toList) = true := beq_self_eq_true _
  have HB := Lib.hid (bel1.trans ((bel2'.mono bel1.size).trans (bel3'.mono (Nat.le_trans bel1.size bel2'.size))))
  have hsz := HB.out.size
  clear own1 own2 own3 hh1 hh2 hh3 hk1 hk2 h h1 h2 h3 bel1 bel2 bel3 bel2' bel3' hk hk' hs8 hsb z1 z2 z3 hm hA hl hx hz e1 e8
  generalize sb l = s0 at *
  generalize sb k1 = s1 at *
  generalize sb k8 = s8 at *
  obtain ⟨pf, hpf⟩ : ∃ pf : Int → ByteArray, pf = fun b => sb (bts x (cnt b)) := ⟨_, rfl⟩
  have f1 : sb (bts x (cnt b)) = pf b := by rw [hpf]
  have f8 : sb (bts x 8) = pf 8 := by rw [hpf]; rfl
  have r2 : ∀ (b : Int) (w : World), Calls Try.prog 20 #[.int .u64 (x : Int), .int .i64 b] w fun e w' => e = .returned (.string (pf b)) ∧ Below w.heap.size w w' := by rw [hpf]; exact r1
  rw [f1] at n1 q1
  rw [f8] at n8 q8
  clear f1 f8 hpf r1
  generalize k1.length = j1 at *
  generalize k8.length = j8 at *
  have cc : Below w3.heap.size w3 w3.drew := ⟨rfl, rfl, rfl, Nat.le_refl _, fun _ _ => rfl⟩
  have c0 : Below w3.heap.size w3 w3 := Below.refl _ _
  go_wp2_with fail
  go_region_held3 (fun W => (convert 22 9 (.slice a1 j1 c1)).run Try.prog W = .ok (.string s1) W ∧ (convert 22 9 (.slice a2 j8 c2)).run Try.prog W = .ok (.string s8) W ∧ (convert 22 9 (.slice a3 j8 c3)).run Try.prog W = .ok (.string s8) W ∧ (convert 22 9 (.slice A m c)).run Try.prog W = .ok (.string s0) W)
    (first | exact HK.out _ cc | exact HK.out _ c0)
    (first
    | (go_at_call 7
       refine (fixed_any _).mono ?_
       rintro _ _ ⟨rfl, c9⟩
       replace cc := cc.trans (c9.mono cc.size)
       clear c9)
    | (go_at_call 20
       refine (r2 _ _).mono ?_
       rintro _ _ ⟨rfl, c9⟩
       replace cc := cc.trans (c9.mono cc.size)
       clear c9))
  have HC := Lib.hid (HB.out.trans (cc.mono hsz))
  clear HK cc
  go_wp2_with fail
  go_ret
  exact ⟨rfl, HC.out⟩
end Go.Proofs.Ytmdbncalcbdigaa
