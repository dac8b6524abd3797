/-
  cuecardlaw03.ClockSpent answers true for every two times.
  Conditions: none.
-/
import Derived.Test.YtnijeeikmnlekaaClk
namespace Go.Proofs.Ytnijeeikmnlekaa
open Go.RowKit

theorem spent_zero {a b : Int} (h : b ≤ a) : spent a b = 0 := by unfold spent; split <;> omega
theorem Spent_zero (a b : Int) (w : World) (ha : In64 a) (hb : In64 b) (h : b ≤ a) :
    Calls Try.prog 18 #[.int .i64 a, .int .i64 b] w fun e w' => e = .returned (.int .u64 0) ∧ w = w' := by
  have h' := Spent_any a b w ha hb
  rw [spent_zero h] at h'
  exact h'
theorem Spent_to (a b : Int) (w : World) (ha : In64 a) (hb : In64 b) (h : a ≤ b) :
    Calls Try.prog 18 #[.int .i64 a, .int .i64 b] w fun e w' => e = .returned (.int .u64 (b - a)) ∧ w = w' := by
  have h' := Spent_any a b w ha hb
  rw [show spent a b = b - a by unfold spent; split <;> omega] at h'
  exact h'

set_option maxRecDepth 100000 in
theorem spent_true (a b : Int) (w : World) (ha : In64 a) (hb : In64 b) :
    Calls Try.prog 7 #[.int .i64 a, .int .i64 b] w fun e w' => e = .returned (.bool true) ∧ Below w.heap.size w w' := by
  have HA := Lib.hid ha
  have HB := Lib.hid hb
  obtain ⟨a1, a2⟩ := ha
  obtain ⟨b1, b2⟩ := hb
  rcases Int.lt_trichotomy b a with h | h | h
  · have h1 : b ≤ a := by omega
    have h2 : b < 9223372036854775807 := by omega
    have h3 : decide (b ≥ a) = false := by simp; omega
    have h4 : decide (a ≤ b) = false := by simp; omega
    go_enter Try.func7, Try.ntmps7
    go_wp2_with fail
    refine (Spent_zero a b w HA.out HB.out h1).mono ?_
    rintro e w2 ⟨rfl, rfl⟩
    go_wp2_with fail
    refine (alive_true w).mono ?_
    rintro e w1 ⟨rfl, hA⟩
    have H1 := Lib.hid hA
    clear hA
    go_wp2_with fail
    go_ret
    exact ⟨rfl, H1.out⟩
  · subst h
    by_cases h2 : b < 9223372036854775807
    · have HS : Hid (In64 (b + 1)) := by show _ ∧ _; omega
      go_enter Try.func7, Try.ntmps7
      go_wp2_with fail
      refine (Spent_zero b b w HA.out HB.out (by omega)).mono ?_
      rintro e w2 ⟨rfl, rfl⟩
      go_wp2_with fail
      refine (Spent_to b (b + 1) w HA.out HS.out (by omega)).mono ?_
      rintro e w2 ⟨rfl, rfl⟩
      go_wp2_with fail
      refine (alive_true w).mono ?_
      rintro e w1 ⟨rfl, hA⟩
      have H1 := Lib.hid hA
      clear hA
      go_wp2_with fail
      go_ret
      exact ⟨rfl, H1.out⟩
    · obtain rfl : b = 9223372036854775807 := by omega
      go_enter Try.func7, Try.ntmps7
      go_wp2_with fail
      refine (Spent_zero _ _ w HA.out HB.out (by omega)).mono ?_
      rintro e w2 ⟨rfl, rfl⟩
      go_wp2_with fail
      refine (alive_true w).mono ?_
      rintro e w1 ⟨rfl, hA⟩
      have H1 := Lib.hid hA
      clear hA
      go_wp2_with fail
      go_ret
      exact ⟨rfl, H1.out⟩
  · have h1 : decide (b ≤ a) = false := by simp; omega
    have h3 : b ≥ a := by omega
    have h4 : (b - a == 0) = false := by simp; omega
    by_cases h2 : b < 9223372036854775807
    · have HS : Hid (In64 (b + 1)) := by show _ ∧ _; omega
      go_enter Try.func7, Try.ntmps7
      go_wp2_with fail
      refine (Spent_to a b w HA.out HB.out (by omega)).mono ?_
      rintro e w2 ⟨rfl, rfl⟩
      go_wp2_with fail
      refine (Spent_to a (b + 1) w HA.out HS.out (by omega)).mono ?_
      rintro e w2 ⟨rfl, rfl⟩
      go_wp2_with fail
      refine (alive_true w).mono ?_
      rintro e w1 ⟨rfl, hA⟩
      have H1 := Lib.hid hA
      clear hA
      go_wp2_with fail
      refine (Spent_zero b a w1 HB.out HA.out (by omega)).mono ?_
      rintro e w2 ⟨rfl, rfl⟩
      go_wp2_with fail
      go_ret
      exact ⟨rfl, H1.out⟩
    · obtain rfl : b = 9223372036854775807 := by omega
      go_enter Try.func7, Try.ntmps7
      go_wp2_with fail
      refine (Spent_to a _ w HA.out HB.out (by omega)).mono ?_
      rintro e w2 ⟨rfl, rfl⟩
      go_wp2_with fail
      refine (alive_true w).mono ?_
      rintro e w1 ⟨rfl, hA⟩
      have H1 := Lib.hid hA
      clear hA
      go_wp2_with fail
      refine (Spent_zero _ a w1 HB.out HA.out (by omega)).mono ?_
      rintro e w2 ⟨rfl, rfl⟩
      go_wp2_with fail
      go_ret
      exact ⟨rfl, H1.out⟩
end Go.Proofs.Ytnijeeikmnlekaa
