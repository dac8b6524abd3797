/-
  Strings of bytes one behind the other: what + makes, how long they are, what s[:k] is.
  Conditions: the sum is no longer than an int says.
-/
import Derived.Test.YteapcahpkapbbaaCut
import Derived.Laws.Concat
namespace Go.Proofs.Yteapcahpkapbbaa
open Go.RowKit

theorem ba_ext {a b : ByteArray} (h : a.data.toList = b.data.toList) : a = b := by
  cases a
  cases b
  simp only [ByteArray.mk.injEq]
  exact Array.toList_inj.1 h
theorem str_app (l m : List Nat) : str l ++ str m = str (l ++ m) := by
  apply ba_ext
  rw [ByteArray.data_append, Array.toList_append]
  unfold str
  rw [strOfNums_data, strOfNums_data, strOfNums_data]
  simp
theorem str_len (l : List Nat) : (str l).size = l.length := by
  show (str l).data.size = _
  rw [← Array.length_toList]
  unfold str
  rw [strOfNums_data]
  simp
theorem str_nil : str [] = ⟨#[]⟩ := rfl
theorem str_take (l : List Nat) (k : Nat) : (str l).extract 0 k = str (l.take k) := by
  apply ba_ext
  rw [ByteArray.data_extract, Array.toList_extract]
  unfold str
  rw [strOfNums_data, strOfNums_data]
  simp [List.map_take]
end Go.Proofs.Yteapcahpkapbbaa
