/-
  The document's Plain, Name and Octal.
  Conditions: c is a byte.
-/
import Derived.Test.YtcipljpalohjiaaDoorQMath
import Derived.Test.YtcipljpalohjiaaDoorStrCat
import Derived.Test.YtcipljpalohjiaaDoorRet
namespace Go.Proofs.YtcipljpalohjiaaDoor
open Go.RowKit

theorem byte_parts (c : Nat) : (c < 48) ∨ (48 ≤ c ∧ c ≤ 57) ∨ (58 ≤ c ∧ c ≤ 64) ∨ (65 ≤ c ∧ c ≤ 90) ∨ (91 ≤ c ∧ c ≤ 94) ∨ (c = 95) ∨ (c = 96) ∨ (97 ≤ c ∧ c ≤ 122) ∨ (123 ≤ c) := by omega
/-- string([]byte{..}) of bytes that were just made. -/
theorem run_str_new (W : World) (C : Array Value) (l : List Nat) (n : Nat) (hn : n = l.length) (hC : C.toList = bv l) : (convert 22 9 (.slice (some ⟨W.heap.size, 0, none⟩) n n)).run Tryd.prog (W.alloc (.cells C 5)) = .ok (.string (str l)) (W.alloc (.cells C 5)) := by
  refine run_str (l := l) ?_
  subst hn
  refine ⟨_, l.length, by rw [bv_len], by rw [bv_len]; exact Nat.le_refl _, bv_one l, fun _ => ⟨_, 0, rfl, fun j u hu => ?_⟩⟩
  rw [cell_of_row (W.alloc (.cells C 5)) W.heap.size (0 + j) C 5 _ (heap_alloc_new W _), Nat.zero_add, ← Array.getElem?_toList, hC]
  exact hu

end Go.Proofs.YtcipljpalohjiaaDoor
