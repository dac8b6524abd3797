/-
  The last so many of some bytes.
  Conditions: none.
-/
import Derived.Below
namespace Go.Proofs.Ytkfpameaopjjnaa

/-- The last n, or all, if there are fewer. -/
def lastS (n : Nat) (l : List Nat) : List Nat := l.drop (l.length - n)
theorem last_len (n : Nat) (l : List Nat) : (lastS n l).length = min n l.length := by
  unfold lastS; rw [List.length_drop]; omega
theorem last_all {n : Nat} {l : List Nat} (h : l.length ≤ n) : lastS n l = l := by
  unfold lastS; rw [show l.length - n = 0 by omega, List.drop_zero]
theorem last_more (n : Nat) (l m : List Nat) : lastS n (lastS n l ++ m) = lastS n (l ++ m) := by
  unfold lastS
  rw [← List.drop_append_of_le_length (show l.length - n ≤ l.length by omega), List.length_drop, List.drop_drop, List.length_append]
  congr 1
  omega
theorem last_last {k n : Nat} (h : k ≤ n) (l : List Nat) : lastS k (lastS n l) = lastS k l := by
  unfold lastS
  rw [List.length_drop, List.drop_drop]
  congr 1
  omega
theorem last_nil (n : Nat) : lastS n [] = [] := by simp [lastS]
theorem last_mem {n : Nat} {l : List Nat} {P : Nat → Prop} (h : ∀ d ∈ l, P d) : ∀ d ∈ lastS n l, P d := fun d hd => h d (List.mem_of_mem_drop hd)
end Go.Proofs.Ytkfpameaopjjnaa
