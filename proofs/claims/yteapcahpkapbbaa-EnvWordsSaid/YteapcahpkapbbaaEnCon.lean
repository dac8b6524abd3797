/-
  The program's variables in memory and what its New, Set, Get, Word, Names, Number answer.
  Conditions: those of each theorem.
-/
import Derived.Test.YteapcahpkapbbaaEnNu
import Derived.Test.YteapcahpkapbbaaEnSet
import Derived.Test.YteapcahpkapbbaaEnWo
import Derived.Test.YteapcahpkapbbaaEnNm
import Derived.Test.YteapcahpkapbbaaEnRefM
namespace Go.Proofs.Yteapcahpkapbbaa
open Go.RowKit

/-! ### Of none -/
set_option maxRecDepth 100000 in
set_option maxHeartbeats 1000000 in
theorem NSet_is (n v : ByteArray) (w : World) : Calls Try.prog 13 #[.pointer none, .string n, .string v] w fun e w' => e = .returned (.int .i64 1) ∧ Below w.heap.size w w' := by
  go_enter Try.func13, Try.ntmps13
  go_wp2_with fail
  go_ret
  exact ⟨rfl, Below.refl _ _⟩
set_option maxRecDepth 100000 in
set_option maxHeartbeats 1000000 in
theorem NWord_is (a k : Int) (A : Option Addr) (n c : Nat) (w : World) : Calls Try.prog 17 #[.pointer none, .agg #[.int .i64 a, .int .i64 k, .slice A n c]] w fun e w' => e = .returned (wordE (1, [])) ∧ Below w.heap.size w w' := by
  go_enter Try.func17, Try.ntmps17
  go_wp2_with fail
  go_ret2
  exact ⟨rfl, (Below.refl _ w).alloc (Nat.le_refl _) _⟩
end Go.Proofs.Yteapcahpkapbbaa
