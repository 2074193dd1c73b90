/-
  The document's Check: what is wrong with a config, row by row. No condition.
-/
import Derived.Test.YtebdlmjpgohngaaCheck
namespace Go.Proofs.Ytebdlmjpgohngaa
open Go.RowKit

set_option maxHeartbeats 4000000 in
theorem refCheck_any (k c b t d l p : Int) (w : World) :
    Calls Try.prog 31 #[cf k c b t d l p] w fun e w' => e = .returned (.int .i64 (chk k c b t d l p)) ∧ Below w.heap.size w w' := by
  have HB := Lib.hid ((Below.refl w.heap.size w).alloc (Nat.le_refl _) (.cells #[.int .i64 k, .int .i64 c, .int .i64 b, .int .i64 t, .int .i64 d, .int .i64 l, .int .i64 p] 31))
  unfold cf
  by_cases h0 : k = 0
  · have e0 : (k == 0) = true := by simpa using h0
    have e0n : (k != 0) = false := by simpa using h0
    have e1 : (k == 1) = false := by rw [beq_eq_false_iff_ne]; omega
    by_cases h2 : c < 2
    · have HR : Hid (chk k c b t d l p = 3) := by show _ = _; unfold chk st cLo cHi cAb; repeat' (first | omega | split)
      (try clear h0)
      (try clear h1)
      (try clear hc)
      go_enter Try.func31, Try.ntmps31
      go_wp2
      go_ret
      exact ⟨by rw [HR.out]; rfl, HB.out⟩
    · by_cases h3 : 256 < c
      · have HR : Hid (chk k c b t d l p = 4) := by show _ = _; unfold chk st cLo cHi cAb; repeat' (first | omega | split)
        (try clear h0)
        (try clear h1)
        (try clear hc)
        go_enter Try.func31, Try.ntmps31
        go_wp2
        go_ret
        exact ⟨by rw [HR.out]; rfl, HB.out⟩
      · by_cases h5 : b < 2
        · have HR : Hid (chk k c b t d l p = 3) := by show _ = _; unfold chk st cLo cHi cAb; repeat' (first | omega | split)
          (try clear h0)
          (try clear h1)
          (try clear hc)
          go_enter Try.func31, Try.ntmps31
          go_wp2
          go_ret
          exact ⟨by rw [HR.out]; rfl, HB.out⟩
        · by_cases h6 : 256 < b
          · have HR : Hid (chk k c b t d l p = 4) := by show _ = _; unfold chk st cLo cHi cAb; repeat' (first | omega | split)
            (try clear h0)
            (try clear h1)
            (try clear hc)
            go_enter Try.func31, Try.ntmps31
            go_wp2
            go_ret
            exact ⟨by rw [HR.out]; rfl, HB.out⟩
          · by_cases h7 : t < 1
            · have HR : Hid (chk k c b t d l p = 3) := by show _ = _; unfold chk st cLo cHi cAb; repeat' (first | omega | split)
              (try clear h0)
              (try clear h1)
              (try clear hc)
              go_enter Try.func31, Try.ntmps31
              go_wp2
              go_ret
              exact ⟨by rw [HR.out]; rfl, HB.out⟩
            · by_cases h8 : 4096 < t
              · have HR : Hid (chk k c b t d l p = 4) := by show _ = _; unfold chk st cLo cHi cAb; repeat' (first | omega | split)
                (try clear h0)
                (try clear h1)
                (try clear hc)
                go_enter Try.func31, Try.ntmps31
                go_wp2
                go_ret
                exact ⟨by rw [HR.out]; rfl, HB.out⟩
              · by_cases h9 : d < 0
                · have HR : Hid (chk k c b t d l p = 3) := by show _ = _; unfold chk st cLo cHi cAb; repeat' (first | omega | split)
                  (try clear h0)
                  (try clear h1)
                  (try clear hc)
                  go_enter Try.func31, Try.ntmps31
                  go_wp2
                  go_ret
                  exact ⟨by rw [HR.out]; rfl, HB.out⟩
                · by_cases h10 : 32 < d
                  · have HR : Hid (chk k c b t d l p = 4) := by show _ = _; unfold chk st cLo cHi cAb; repeat' (first | omega | split)
                    (try clear h0)
                    (try clear h1)
                    (try clear hc)
                    go_enter Try.func31, Try.ntmps31
                    go_wp2
                    go_ret
                    exact ⟨by rw [HR.out]; rfl, HB.out⟩
                  · by_cases h11 : l < 1
                    · have HR : Hid (chk k c b t d l p = 3) := by show _ = _; unfold chk st cLo cHi cAb; repeat' (first | omega | split)
                      (try clear h0)
                      (try clear h1)
                      (try clear hc)
                      go_enter Try.func31, Try.ntmps31
                      go_wp2
                      go_ret
                      exact ⟨by rw [HR.out]; rfl, HB.out⟩
                    · by_cases h12 : 1048576 < l
                      · have HR : Hid (chk k c b t d l p = 4) := by show _ = _; unfold chk st cLo cHi cAb; repeat' (first | omega | split)
                        (try clear h0)
                        (try clear h1)
                        (try clear hc)
                        go_enter Try.func31, Try.ntmps31
                        go_wp2
                        go_ret
                        exact ⟨by rw [HR.out]; rfl, HB.out⟩
                      · by_cases h13 : p < 1
                        · have HR : Hid (chk k c b t d l p = 3) := by show _ = _; unfold chk st cLo cHi cAb; repeat' (first | omega | split)
                          (try clear h0)
                          (try clear h1)
                          (try clear hc)
                          go_enter Try.func31, Try.ntmps31
                          go_wp2
                          go_ret
                          exact ⟨by rw [HR.out]; rfl, HB.out⟩
                        · by_cases h14 : 1024 < p
                          · have HR : Hid (chk k c b t d l p = 4) := by show _ = _; unfold chk st cLo cHi cAb; repeat' (first | omega | split)
                            (try clear h0)
                            (try clear h1)
                            (try clear hc)
                            go_enter Try.func31, Try.ntmps31
                            go_wp2
                            go_ret
                            exact ⟨by rw [HR.out]; rfl, HB.out⟩
                          · have HR : Hid (chk k c b t d l p = 0) := by show _ = _; unfold chk st cLo cHi cAb; repeat' (first | omega | split)
                            (try clear h0)
                            (try clear h1)
                            (try clear hc)
                            go_enter Try.func31, Try.ntmps31
                            go_wp2
                            go_ret
                            exact ⟨by rw [HR.out]; rfl, HB.out⟩
  · by_cases h1 : k = 1
    · have e0 : (k == 0) = false := by rw [beq_eq_false_iff_ne]; omega
      have e0n : (k != 0) = true := by simpa using h0
      have e1 : (k == 1) = true := by simpa using h1
      have e1n : (k != 1) = false := by simpa using h1
      by_cases hc : c = 0
      · have c0 : (c != 0) = false := by simpa using hc
        have h3 : ¬ 256 < c := by omega
        by_cases h5 : b < 2
        · have HR : Hid (chk k c b t d l p = 3) := by show _ = _; unfold chk st cLo cHi cAb; repeat' (first | omega | split)
          (try clear h0)
          (try clear h1)
          (try clear hc)
          go_enter Try.func31, Try.ntmps31
          go_wp2
          go_ret
          exact ⟨by rw [HR.out]; rfl, HB.out⟩
        · by_cases h6 : 256 < b
          · have HR : Hid (chk k c b t d l p = 4) := by show _ = _; unfold chk st cLo cHi cAb; repeat' (first | omega | split)
            (try clear h0)
            (try clear h1)
            (try clear hc)
            go_enter Try.func31, Try.ntmps31
            go_wp2
            go_ret
            exact ⟨by rw [HR.out]; rfl, HB.out⟩
          · by_cases h7 : t < 1
            · have HR : Hid (chk k c b t d l p = 3) := by show _ = _; unfold chk st cLo cHi cAb; repeat' (first | omega | split)
              (try clear h0)
              (try clear h1)
              (try clear hc)
              go_enter Try.func31, Try.ntmps31
              go_wp2
              go_ret
              exact ⟨by rw [HR.out]; rfl, HB.out⟩
            · by_cases h8 : 4096 < t
              · have HR : Hid (chk k c b t d l p = 4) := by show _ = _; unfold chk st cLo cHi cAb; repeat' (first | omega | split)
                (try clear h0)
                (try clear h1)
                (try clear hc)
                go_enter Try.func31, Try.ntmps31
                go_wp2
                go_ret
                exact ⟨by rw [HR.out]; rfl, HB.out⟩
              · by_cases h9 : d < 0
                · have HR : Hid (chk k c b t d l p = 3) := by show _ = _; unfold chk st cLo cHi cAb; repeat' (first | omega | split)
                  (try clear h0)
                  (try clear h1)
                  (try clear hc)
                  go_enter Try.func31, Try.ntmps31
                  go_wp2
                  go_ret
                  exact ⟨by rw [HR.out]; rfl, HB.out⟩
                · by_cases h10 : 32 < d
                  · have HR : Hid (chk k c b t d l p = 4) := by show _ = _; unfold chk st cLo cHi cAb; repeat' (first | omega | split)
                    (try clear h0)
                    (try clear h1)
                    (try clear hc)
                    go_enter Try.func31, Try.ntmps31
                    go_wp2
                    go_ret
                    exact ⟨by rw [HR.out]; rfl, HB.out⟩
                  · by_cases h11 : l < 1
                    · have HR : Hid (chk k c b t d l p = 3) := by show _ = _; unfold chk st cLo cHi cAb; repeat' (first | omega | split)
                      (try clear h0)
                      (try clear h1)
                      (try clear hc)
                      go_enter Try.func31, Try.ntmps31
                      go_wp2
                      go_ret
                      exact ⟨by rw [HR.out]; rfl, HB.out⟩
                    · by_cases h12 : 1048576 < l
                      · have HR : Hid (chk k c b t d l p = 4) := by show _ = _; unfold chk st cLo cHi cAb; repeat' (first | omega | split)
                        (try clear h0)
                        (try clear h1)
                        (try clear hc)
                        go_enter Try.func31, Try.ntmps31
                        go_wp2
                        go_ret
                        exact ⟨by rw [HR.out]; rfl, HB.out⟩
                      · by_cases h13 : p < 1
                        · have HR : Hid (chk k c b t d l p = 3) := by show _ = _; unfold chk st cLo cHi cAb; repeat' (first | omega | split)
                          (try clear h0)
                          (try clear h1)
                          (try clear hc)
                          go_enter Try.func31, Try.ntmps31
                          go_wp2
                          go_ret
                          exact ⟨by rw [HR.out]; rfl, HB.out⟩
                        · by_cases h14 : 1024 < p
                          · have HR : Hid (chk k c b t d l p = 4) := by show _ = _; unfold chk st cLo cHi cAb; repeat' (first | omega | split)
                            (try clear h0)
                            (try clear h1)
                            (try clear hc)
                            go_enter Try.func31, Try.ntmps31
                            go_wp2
                            go_ret
                            exact ⟨by rw [HR.out]; rfl, HB.out⟩
                          · have HR : Hid (chk k c b t d l p = 0) := by show _ = _; unfold chk st cLo cHi cAb; repeat' (first | omega | split)
                            (try clear h0)
                            (try clear h1)
                            (try clear hc)
                            go_enter Try.func31, Try.ntmps31
                            go_wp2
                            go_ret
                            exact ⟨by rw [HR.out]; rfl, HB.out⟩
      · have c0 : (c != 0) = true := by simpa using hc
        have HR : Hid (chk k c b t d l p = 3) := by show _ = _; unfold chk st cLo cHi cAb; repeat' (first | omega | split)
        (try clear h0)
        (try clear h1)
        (try clear hc)
        go_enter Try.func31, Try.ntmps31
        go_wp2
        go_ret
        exact ⟨by rw [HR.out]; rfl, HB.out⟩
    · have e0 : (k == 0) = false := by rw [beq_eq_false_iff_ne]; omega
      have e0n : (k != 0) = true := by simpa using h0
      have e1 : (k == 1) = false := by rw [beq_eq_false_iff_ne]; omega
      have e1n : (k != 1) = true := by simpa using h1
      have HR : Hid (chk k c b t d l p = 3) := by show _ = _; unfold chk st cLo cHi cAb; repeat' (first | omega | split)
      (try clear h0)
      (try clear h1)
      (try clear hc)
      go_enter Try.func31, Try.ntmps31
      go_wp2
      go_ret
      exact ⟨by rw [HR.out]; rfl, HB.out⟩
end Go.Proofs.Ytebdlmjpgohngaa
