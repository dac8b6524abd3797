/-
  Two small words: when two endings are the same.
  Conditions: none.
-/
import Derived.Test.YteapcahpkapbbaaProg
import Derived.Calls
namespace Go.Proofs.Yteapcahpkapbbaa
theorem ret_int {k : IntKind} {a b : Int} (h : a = b) : Ending.returned (.int k a) = .returned (.int k b) := by rw [h]
theorem ret_bool {a b : Bool} (h : a = b) : Ending.returned (.bool a) = .returned (.bool b) := by rw [h]
end Go.Proofs.Yteapcahpkapbbaa
