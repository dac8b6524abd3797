/-
  Two small words: when two endings are the same.
  Conditions: none.
-/
import Derived.Test.YtcipljpalohjiaaDoorProg
import Derived.Calls
namespace Go.Proofs.YtcipljpalohjiaaDoor
theorem ret_int {k : IntKind} {a b : Int} (h : a = b) : Ending.returned (.int k a) = .returned (.int k b) := by rw [h]
theorem ret_bool {a b : Bool} (h : a = b) : Ending.returned (.bool a) = .returned (.bool b) := by rw [h]
end Go.Proofs.YtcipljpalohjiaaDoor
