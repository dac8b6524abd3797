/-
  cuecardlaw03.ClockSees answers true for all times.
  Conditions: none.
-/
import Derived.Test.YtnijeeikmnlekaaTimes
namespace Go.Proofs.Ytnijeeikmnlekaa
open Go.RowKit

set_option maxRecDepth 100000 in
theorem sees_true (A : Option Addr) (n c : Nat) (l : List Int) (x : Int) (w : World) (hr : Rd w (.slice A n c) (tv l)) (hn : n ≤ 9223372036854775807) :
    Calls Try.prog 3 #[.slice A n c, .int .i64 x] w fun e w' => e = .returned (.bool true) ∧ Below w.heap.size w w' := by
  obtain ⟨m, hm1, hm2, hm3⟩ : ∃ m : Nat, m ≤ n ∧ m ≤ 300 ∧ min (n : Int) 300 = (m : Int) := ⟨min n 300, Nat.min_le_left _ _, Nat.min_le_right _ _, by omega⟩
  obtain ⟨A', hsl, hr'⟩ := run_first hr hm1
  have hlm := hr'.times
  generalize l.take m = xs at *
  have HR := Lib.hid hr'
  have HL := Lib.hid hlm
  clear hr hr' hlm
  go_enter Try.func3, Try.ntmps3
  go_wp2_with fail
  clear hsl hm3
  refine (Last_nil w).mono ?_
  rintro e w1 ⟨rfl, rfl⟩
  go_wp2_with fail
  refine (New_any w).mono ?_
  rintro e w1 ⟨q, rfl, hc, hq, hb⟩
  have H := Lib.hid (And.intro hc (And.intro hq hb))
  clear hc hq hb
  go_wp2_with fail
  refine (alive_true w1).mono ?_
  rintro e w2 ⟨rfl, hA⟩
  have H2 : Hid (CAt w2 q none ∧ w.heap.size ≤ q ∧ Below w.heap.size w w2) := ⟨H.out.1.below hA H.out.1.lt, H.out.2.1, H.out.2.2.trans (hA.mono H.out.2.2.size)⟩
  clear hA H
  go_wp2_with fail
  refine (See_nil w2 x).mono ?_
  rintro e w3 ⟨rfl, rfl⟩
  go_wp2_with fail
  refine (Last_none H2.out.1).mono ?_
  rintro e w3 ⟨rfl, rfl⟩
  go_wp2_with fail
  go_loopw [59] (fun i wr => ∃ k : Nat, k ≤ m ∧ i = .int .i64 k ∧ Hid (CAt wr q (seen (xs.take k)) ∧ Below w.heap.size w wr)) (fun i _ => m - (intOf i).toNat)
  case atStart => exact ⟨0, by omega, rfl, H2.out.1, H2.out.2.2⟩
  case round =>
    obtain ⟨k, hk, rfl, HW⟩ := hrel
    by_cases hlt : k < m
    · have hrk := HR.out.kept HW.out.2
      obtain ⟨b, o, t, rfl, hcx, hx⟩ := hrk.timeAt hlt
      obtain ⟨B, hsl, hrB⟩ := run_first hrk (show k + 1 ≤ m by omega)
      rw [show ((k + 1 : Nat) : Int) = (k : Int) + 1 by omega] at hsl
      have HB := Lib.hid hrB
      have HX := Lib.hid (seen_snoc hx)
      clear hrk hx hrB
      go_wp2_with fail
      clear hsl hcx
      refine (Greatest_any B (k + 1) c _ wr HB.out (by omega) (by omega)).mono ?_
      rintro e w4 ⟨g, rfl, hg, rfl⟩
      rw [HX.out] at hg
      injection hg with hg
      subst hg
      go_wp2_with fail
      refine (See_at t HW.out.1).mono ?_
      intro e w5 h5
      have H5 := Lib.hid (And.intro h5.2.1 (h5.more HW.out.2 H2.out.2.1))
      obtain ⟨rfl, -, -⟩ := h5
      go_wp2_with fail
      refine (Last_some H5.out.1).mono ?_
      rintro e w6 ⟨rfl, rfl⟩
      go_wp2_with fail
      exact ⟨⟨k + 1, by omega, by go_num, by rw [HX.out]; exact H5.out.1, H5.out.2⟩, by simp [intOf]; omega⟩
    · go_wp2_with fail
      go_ret
      exact ⟨rfl, HW.out.2⟩
end Go.Proofs.Ytnijeeikmnlekaa
