/-
  kmp's same and grown, of numbers: whether two things are the same; how much of a pattern stands at the end when a thing more comes.
  Conditions: the pattern is read, and of each beginning of it up to what stood at the end the border.
-/
import Derived.Test.YtcipljpalohjiaaDoorKInt
import Derived.Test.YtcipljpalohjiaaDoorRet
import Derived.Test.YtcipljpalohjiaaDoorKmpMath
import Derived.Tactics
import Derived.Tactics2
import Derived.WalkKit
import Derived.LoopTactic
import Derived.Defers
import Derived.Recover
import Derived.Lib.Hide
import Derived.Deep.QuietTactic
import Derived.BigQuiet
namespace Go.Proofs.YtcipljpalohjiaaDoor
open Go.RowKit

/-- The borders of the first m things of p. -/
def Bords (p bs : List Int) (m : Nat) : Prop := ∀ j, j < m → bs[j]? = some ((border p (j + 1) : Nat) : Int)

theorem Cand.le {s p : List Int} {x : Int} {k : Nat} (h : Cand s p x k) : k ≤ p.length := h.1.1

end Go.Proofs.YtcipljpalohjiaaDoor
