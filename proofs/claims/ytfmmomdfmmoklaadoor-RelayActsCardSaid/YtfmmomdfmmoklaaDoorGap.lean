/-
  The contracts of clock's Delta, Add and Spent, and of the document's.
  Conditions: the arguments are numbers of their kind.
-/
import Derived.Test.YtfmmomdfmmoklaaDoorRet
import Derived.Test.YtfmmomdfmmoklaaDoorProg
import Derived.WalkKit
import Derived.IntWalk
import Derived.Lib.Hide
import Derived.KernelRfl
import Derived.Laws.BitsLemmas
namespace Go.Proofs.YtfmmomdfmmoklaaDoor
open Go.RowKit

/-- A number within the bounds of an int64. -/
def In64 (a : Int) : Prop := -9223372036854775808 ≤ a ∧ a ≤ 9223372036854775807

def delta (a b : Int) : Int := (b - a + 9223372036854775808) % 18446744073709551616 - 9223372036854775808
def plus (a d : Int) : Int := (a + d + 9223372036854775808) % 18446744073709551616 - 9223372036854775808
def spent (a b : Int) : Int := if b < a then 0 else b - a

theorem delta_in (a b : Int) : In64 (delta a b) := by unfold delta In64; omega
theorem plus_in (a b : Int) : In64 (plus a b) := by unfold plus In64; omega
theorem plus_delta {a b : Int} (h : In64 b) : plus a (delta a b) = b := by unfold plus delta In64 at *; omega
theorem delta_self (a : Int) : delta a a = 0 := by unfold delta; omega
theorem delta_both (a b c : Int) : plus (delta a b) (delta b c) = delta a c := by unfold plus delta; omega
theorem spent_lo (a b : Int) : 0 ≤ spent a b := by unfold spent; split <;> omega
theorem spent_hi {a b : Int} (ha : In64 a) (hb : In64 b) : spent a b < 18446744073709551616 := by unfold spent In64 at *; split <;> omega


end Go.Proofs.YtfmmomdfmmoklaaDoor
