/-
  cuecardlaw03.ClockBack answers true for every three times.
  Conditions: none.
-/
import Derived.Test.YtnijeeikmnlekaaClk
namespace Go.Proofs.Ytnijeeikmnlekaa
open Go.RowKit

theorem Add_delta (a b : Int) (w : World) (ha : In64 a) (hb : In64 b) :
    Calls Try.prog 16 #[.int .i64 a, .int .i64 (delta a b)] w fun e w' => e = .returned (.int .i64 b) ∧ w = w' := by
  have h := Add_any a (delta a b) w ha (delta_in a b)
  rw [plus_delta hb] at h
  exact h
theorem Delta_self (a : Int) (w : World) (ha : In64 a) :
    Calls Try.prog 14 #[.int .i64 a, .int .i64 a] w fun e w' => e = .returned (.int .i64 0) ∧ w = w' := by
  have h := Delta_any a a w ha ha
  rw [delta_self] at h
  exact h
theorem Add_both (a b c : Int) (w : World) :
    Calls Try.prog 16 #[.int .i64 (delta a b), .int .i64 (delta b c)] w fun e w' => e = .returned (.int .i64 (delta a c)) ∧ w = w' := by
  have h := Add_any (delta a b) (delta b c) w (delta_in _ _) (delta_in _ _)
  rw [delta_both] at h
  exact h

set_option maxRecDepth 100000 in
theorem back_true (a b c : Int) (w : World) (ha : In64 a) (hb : In64 b) (hc : In64 c) :
    Calls Try.prog 5 #[.int .i64 a, .int .i64 b, .int .i64 c] w fun e w' => e = .returned (.bool true) ∧ Below w.heap.size w w' := by
  have HA := Lib.hid ha
  have HB := Lib.hid hb
  have HC := Lib.hid hc
  clear ha hb hc
  go_enter Try.func5, Try.ntmps5
  go_wp2_with fail
  refine (Delta_any a b w HA.out HB.out).mono ?_
  rintro e w2 ⟨rfl, rfl⟩
  go_wp2_with fail
  refine (Delta_any b c w HB.out HC.out).mono ?_
  rintro e w2 ⟨rfl, rfl⟩
  go_wp2_with fail
  refine (alive_true w).mono ?_
  rintro e w1 ⟨rfl, hA⟩
  have H1 := Lib.hid hA
  clear hA
  go_wp2_with fail
  refine (Add_delta a b w1 HA.out HB.out).mono ?_
  rintro e w2 ⟨rfl, rfl⟩
  go_wp2_with fail
  refine (Delta_self a w1 HA.out).mono ?_
  rintro e w2 ⟨rfl, rfl⟩
  go_wp2_with fail
  refine (Add_delta a b w1 HA.out HB.out).mono ?_
  rintro e w2 ⟨rfl, rfl⟩
  go_wp2_with fail
  refine (Add_delta b c w1 HB.out HC.out).mono ?_
  rintro e w2 ⟨rfl, rfl⟩
  go_wp2_with fail
  refine (Add_both a b c w1).mono ?_
  rintro e w2 ⟨rfl, rfl⟩
  go_wp2_with fail
  refine (Delta_any a c w1 HA.out HC.out).mono ?_
  rintro e w2 ⟨rfl, rfl⟩
  go_wp2_with fail
  go_ret
  exact ⟨rfl, H1.out⟩
end Go.Proofs.Ytnijeeikmnlekaa
