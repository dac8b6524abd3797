/-
  cuecardlaw03.ClockGaps answers true for every two times.
  Conditions: none.
-/
import Derived.Test.YtnijeeikmnlekaaClk
namespace Go.Proofs.Ytnijeeikmnlekaa
open Go.RowKit

set_option maxRecDepth 100000 in
theorem gaps_true (a b : Int) (w : World) (ha : In64 a) (hb : In64 b) :
    Calls Try.prog 4 #[.int .i64 a, .int .i64 b] w fun e w' => e = .returned (.bool true) ∧ Below w.heap.size w w' := by
  have HA := Lib.hid ha
  have HB := Lib.hid hb
  clear ha hb
  go_enter Try.func4, Try.ntmps4
  go_wp2_with fail
  refine (alive_true w).mono ?_
  rintro e w1 ⟨rfl, hA⟩
  have H1 := Lib.hid hA
  clear hA
  go_wp2_with fail
  refine (Delta_any a b w1 HA.out HB.out).mono ?_
  rintro e w2 ⟨rfl, rfl⟩
  go_wp2_with fail
  refine (RDelta_any a b w1 HA.out HB.out).mono ?_
  rintro e w2 ⟨rfl, rfl⟩
  go_wp2_with fail
  refine (Add_any a b w1 HA.out HB.out).mono ?_
  rintro e w2 ⟨rfl, rfl⟩
  go_wp2_with fail
  refine (RAdd_any a b w1 HA.out HB.out).mono ?_
  rintro e w2 ⟨rfl, rfl⟩
  go_wp2_with fail
  refine (Spent_any a b w1 HA.out HB.out).mono ?_
  rintro e w2 ⟨rfl, rfl⟩
  go_wp2_with fail
  refine (RSpent_any a b w1 HA.out HB.out).mono ?_
  rintro e w2 ⟨rfl, rfl⟩
  go_wp2_with fail
  go_ret
  exact ⟨rfl, H1.out⟩
end Go.Proofs.Ytnijeeikmnlekaa
