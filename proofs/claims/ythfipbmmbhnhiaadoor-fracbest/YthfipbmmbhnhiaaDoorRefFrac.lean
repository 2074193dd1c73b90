/-
  THE DOCUMENT'S OWN ORDER of fractions and of signed ones, by rows of digits. Condition: each number is of 64 bits.
-/
import Derived.Test.YthfipbmmbhnhiaaDoorFracS
namespace Go.Proofs.YthfipbmmbhnhiaaDoor
open Go.RowKit

set_option maxHeartbeats 2000000 in
theorem refF_any (ah al ad bh bl bd : Int) (h1 : Word ah) (h2 : Word al) (h3 : Word ad) (h4 : Word bh) (h5 : Word bl) (h6 : Word bd) (w : World) :
    Calls Tryd.prog 10 #[fr ah al ad, fr bh bl bd] w fun e w' =>
      e = .returned (.int .i64 (cmpF (ah * 18446744073709551616 + al) ad (bh * 18446744073709551616 + bl) bd)) ∧ Below w.heap.size w w' := by
  obtain ⟨xA, xB, b0⟩ := boxesF w ah al ad bh bl bd _ rfl
  have q0 : Two w.heap.size (w.heap.size + 1) ah al ad bh bl bd w _ := ⟨xA, xB, b0⟩
  clear xA xB b0
  have HB := Lib.hid q0.bel
  by_cases hd : ad = 0 <;> by_cases he : bd = 0
  · subst hd he
    have HC : Hid (cmpF (ah * 18446744073709551616 + al) 0 (bh * 18446744073709551616 + bl) 0 = 0) := rfl
    rw [HC.out]
    clear q0
    go_enter Tryd.func10, Tryd.ntmps10
    go_wp2_with fail
    go_ret
    exact ⟨rfl, HB.out⟩
  · subst hd
    have HC : Hid (cmpF (ah * 18446744073709551616 + al) 0 (bh * 18446744073709551616 + bl) bd = -1) := by show _ = _; unfold cmpF; rw [if_pos rfl, if_neg he]
    rw [HC.out]
    clear q0
    have d2 : (bd == 0) = false := by simpa using he
    go_enter Tryd.func10, Tryd.ntmps10
    go_wp2_with fail
    go_ret
    exact ⟨rfl, HB.out⟩
  · subst he
    have HC : Hid (cmpF (ah * 18446744073709551616 + al) ad (bh * 18446744073709551616 + bl) 0 = 1) := by show _ = _; unfold cmpF; rw [if_neg hd, if_pos rfl]
    rw [HC.out]
    clear q0
    have d1 : (ad == 0) = false := by simpa using hd
    go_enter Tryd.func10, Tryd.ntmps10
    go_wp2_with fail
    go_ret
    exact ⟨rfl, HB.out⟩
  · have HC : Hid (cmpF (ah * 18446744073709551616 + al) ad (bh * 18446744073709551616 + bl) bd = cmpI ((ah * 18446744073709551616 + al) * bd) ((bh * 18446744073709551616 + bl) * ad)) := by
      show _ = _; unfold cmpF; rw [if_neg hd, if_neg he]
    rw [HC.out]
    have d1 : (ad == 0) = false := by simpa using hd
    have d2 : (bd == 0) = false := by simpa using he
    clear HC hd he HB
    go_enter Tryd.func10, Tryd.ntmps10
    go_wp2_with fail
    generalize (w.alloc (.cells #[.int .u64 ah, .int .u64 al, .int .u64 ad] 26)).alloc (.cells #[.int .u64 bh, .int .u64 bl, .int .u64 bd] 26) = W at *
    have q := q0.drew
    have M1 : Hid True := trivial
    have M2 : Hid True := trivial
    have M3 : Hid True := trivial
    go_region_held3 (fun w' => (w'.cell? ⟨w.heap.size, 0, none⟩ = some (.int .u64 ah) ∧ w'.cell? ⟨w.heap.size, 1, none⟩ = some (.int .u64 al) ∧ w'.cell? ⟨w.heap.size, 2, none⟩ = some (.int .u64 ad)) ∧ (w'.cell? ⟨w.heap.size + 1, 0, none⟩ = some (.int .u64 bh) ∧ w'.cell? ⟨w.heap.size + 1, 1, none⟩ = some (.int .u64 bl) ∧ w'.cell? ⟨w.heap.size + 1, 2, none⟩ = some (.int .u64 bd))) (first | exact q.cells | exact q0.cells)
      (first
        | (go_at_call 24; clear M1; refine (ofWide_any _ _ h1 h2 _).mono ?_; rintro e wA ⟨⟨gA, capA, lA, rfl, hcA, hgA, hlA, dA, vA, nA⟩, c⟩
           replace q := q.below c; clear c)
        | (go_at_call 25; clear M2; refine (digits_at _ h6 _).mono ?_; rintro e wB ⟨rfl, rfl⟩
           have nB := Nums.made wA (digs bd)
           have gB : wA.heap.size = wA.heap.size := rfl
           have c := alloc_below wA (.cells ((digs bd).map (Value.int .u64)).toArray 22)
           replace nA := nA.below c
           replace q := q.below c; clear c)
        | (go_at_call 23; clear M3; refine (prodRows_any gA _ 8 4 capA 4 lA (digs bd) hlA rfl (by decide) (by decide) dA (digs_dig h6) _ nA nB).mono ?_; rintro e wP ⟨⟨gP, capP, lP, rfl, hcP, hgP, hlP, dP, vP, nP⟩, c⟩
           replace q := q.below c; clear c)
        | (go_at_call 24; refine (ofWide_any _ _ h4 h5 _).mono ?_; rintro e wC ⟨⟨gC, capC, lC, rfl, hcC, hgC, hlC, dC, vC, nC⟩, c⟩
           replace nP := nP.below c
           replace q := q.below c; clear c)
        | (go_at_call 25; refine (digits_at _ h3 _).mono ?_; rintro e wD ⟨rfl, rfl⟩
           have nD := Nums.made wC (digs ad)
           have c := alloc_below wC (.cells ((digs ad).map (Value.int .u64)).toArray 22)
           replace nC := nC.below c
           replace nP := nP.below c
           replace q := q.below c; clear c)
        | (go_at_call 23; refine (prodRows_any gC _ 8 4 capC 4 lC (digs ad) hlC rfl (by decide) (by decide) dC (digs_dig h3) _ nC nD).mono ?_; rintro e wQ ⟨⟨gQ, capQ, lQ, rfl, hcQ, hgQ, hlQ, dQ, vQ, nQ⟩, c⟩
           replace nP := nP.below c
           replace q := q.below c; clear c)
        | (go_at_call 22; refine (compare_rows gP gQ 12 capP capQ lP lQ hlP hlQ (by decide) dP dQ _ nP nQ).mono ?_; rintro e wS ⟨rfl, c⟩
           rw [vP, vQ, vA, vC, digs_val, digs_val]
           replace q := q.below c; clear c))
    go_wp2_with fail
    go_ret
    exact ⟨rfl, q.bel⟩
end Go.Proofs.YthfipbmmbhnhiaaDoor
