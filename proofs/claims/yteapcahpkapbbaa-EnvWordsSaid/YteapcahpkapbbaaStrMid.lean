/-
  A piece of a string: s[a:b], s[a:].
  Conditions: none.
-/
import Derived.Test.YteapcahpkapbbaaStrCat
import Derived.Laws.DeepStrings4
import Derived.Handy
namespace Go.Proofs.Yteapcahpkapbbaa
open Go.RowKit

theorem strg_mid (l : List Nat) (a b : Nat) : (str l).extract a b = str ((l.take b).drop a) := by
  apply ba_ext
  rw [ByteArray.data_extract, Array.toList_extract]
  unfold str
  rw [strOfNums_data, strOfNums_data]
  simp [List.map_drop, List.map_take]
  rw [List.drop_take]
theorem run_strg_mid (l : List Nat) {a b : Nat} (hab : a ≤ b) (hb : b ≤ l.length) (W : World) : (Instr.slice 9 (.string (str l)) (some (.int .i64 (a : Nat))) (some (.int .i64 (b : Nat))) none).run Try.prog W = .ok (.string (str ((l.take b).drop a))) W := by
  have := str_len l
  rw [run_slice_string_if W 9 (str l) .i64 .i64 (a : Nat) (b : Nat) Try.underlying9, if_pos ⟨by omega, by omega⟩, if_pos ⟨by omega, by omega⟩, Int.toNat_natCast, Int.toNat_natCast, strg_mid]
theorem run_strg_upto (l : List Nat) (k : Nat) (hk : k ≤ l.length) (W : World) : (Instr.slice 9 (.string (str l)) none (some (.int .i64 (k : Nat))) none).run Try.prog W = .ok (.string (str (l.take k))) W := by
  have hs := str_len l
  rw [run_slice_string_h (P := Try.prog) W 9 (str l) Try.underlying9 .i64 (k : Nat) (by omega) (by omega), Int.toNat_natCast, strg_mid, List.drop_zero]
/-- s[:min(len(s), m)]. -/
theorem strg_min (l : List Nat) (z : Int) (h : 0 ≤ z) : (str l).extract 0 (min (l.length : Int) z).toNat = str (l.take z.toNat) := by
  rw [strg_mid, List.drop_zero]
  rcases Int.le_total (l.length : Int) z with h1 | h1
  · rw [Int.min_eq_left h1, Int.toNat_natCast, List.take_of_length_le (Nat.le_refl _), List.take_of_length_le (by omega)]
  · rw [Int.min_eq_right h1]
theorem strg_min60 (l : List Nat) : (str l).extract 0 (min (l.length : Int) 60).toNat = str (l.take 60) := strg_min l 60 (by omega)
theorem strg_min40 (l : List Nat) : (str l).extract 0 (min (l.length : Int) 40).toNat = str (l.take 40) := strg_min l 40 (by omega)
end Go.Proofs.Yteapcahpkapbbaa
