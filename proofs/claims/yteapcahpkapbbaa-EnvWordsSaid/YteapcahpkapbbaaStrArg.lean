/-
  A text out of the arguments, as the string of its bytes.
  Conditions: none.
-/
import Derived.Test.YteapcahpkapbbaaStrCat
import Derived.ChangeMaps5
namespace Go.Proofs.Yteapcahpkapbbaa
open Go.RowKit

theorem str_of (s : ByteArray) : ∃ l : List Nat, s = str l ∧ (∀ c ∈ l, c < 256) ∧ l.length = s.data.toList.length := by
  refine ⟨s.data.toList.map UInt8.toNat, ?_, fun c hc => ?_, by simp⟩
  · apply ba_ext
    unfold str
    rw [strOfNums_data, List.map_map, List.map_map]
    induction s.data.toList with
    | nil => rfl
    | cons a l ih => rw [List.map_cons, ← ih]; simp
  · obtain ⟨a, -, rfl⟩ := List.mem_map.1 hc
    exact a.toNat_lt
end Go.Proofs.Yteapcahpkapbbaa
