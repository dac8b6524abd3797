/-
  strings.IndexByte, over strings that are told by their bytes; s[k:] of such a string.
  Conditions: none.
-/
import Derived.Test.YteapcahpkapbbaaStrCat
import Derived.Test.YteapcahpkapbbaaRet
import Derived.Laws.DeepStrings4
import Derived.Lib.Bytealg
namespace Go.Proofs.Yteapcahpkapbbaa
open Go.RowKit

set_option maxRecDepth 100000 in
set_option maxHeartbeats 1000000 in
theorem IndexByte_is (s : ByteArray) (c : Int) (w : World) : Calls Try.prog 49 #[.string s, .int .u8 c] w fun e w' => e = .returned (.int .i64 (Lib.indexByte s.data.toList c.toNat.toUInt8)) ∧ w = w' := by
  go_enter Try.func49, Try.ntmps49
  go_wp2
  rw [run_callFunc_extern Try.func72 (by kernel_rfl) (by kernel_rfl) (by kernel_rfl) (e := Extern.BytealgIndexByte.indexByte) (by kernel_rfl), Lib.run_indexByteString]
  simp only [Result.andThen]
  rw [Oper.upon_value]
  go_wp2
  go_ret
  exact ⟨rfl, rfl⟩
theorem u8_beq {a c : Nat} (ha : a < 256) (hc : c < 256) : (UInt8.ofNat a == UInt8.ofNat c) = decide (a = c) := by
  rw [Bool.eq_iff_iff, beq_iff_eq, decide_eq_true_eq, ← UInt8.toNat_inj]
  simp; omega
theorem strB_toList (l : List Nat) : (⟨(l.map fun c => UInt8.ofNat c).toArray⟩ : ByteArray) = str l := by
  apply ba_ext
  unfold str
  rw [strOfNums_data, List.map_map]
  refine List.map_congr_left fun c _ => ?_
  simp
theorem idx_neg (l : List UInt8) (c : UInt8) : decide (Lib.indexByte l c < 0) = !(l.any (· == c)) := by
  induction l with
  | nil => rfl
  | cons b l ih =>
    have hg := Lib.indexByte_ge l c
    unfold Lib.indexByte
    by_cases h : (b == c) = true
    · rw [if_pos h]; simp [h]
    · rw [if_neg h]
      simp only [List.any_cons, h, Bool.false_or] at ih ⊢
      by_cases h1 : (Lib.indexByte l c == -1) = true
      · rw [if_pos h1, ← ih]
        have : Lib.indexByte l c = -1 := by simpa using h1
        rw [this]
      · rw [if_neg h1, ← ih]
        have : Lib.indexByte l c ≠ -1 := by simpa using h1
        have a1 : ¬ (Lib.indexByte l c + 1 < 0) := by omega
        have a2 : ¬ (Lib.indexByte l c < 0) := by omega
        rw [decide_eq_false a1, decide_eq_false a2]
theorem str_cutf (l : List Nat) (k : Nat) : (str l).extract k (str l).size = str (l.drop k) := by
  apply ba_ext
  rw [ByteArray.data_extract, Array.toList_extract, str_len]
  unfold str
  rw [strOfNums_data, strOfNums_data]
  simp [List.map_drop]
  rw [List.take_of_length_le (by simp)]
theorem run_from_str (l : List Nat) (k : Nat) (hk : k ≤ l.length) (W : World) : (Instr.slice 9 (.string (str l)) (some (.int .i64 (k : Nat))) none none).run Try.prog W = .ok (.string (str (l.drop k))) W := by
  have := str_len l
  rw [run_slice_string_l (P := Try.prog) W 9 (str l) Try.underlying9 .i64 (k : Nat) (by omega) (by omega), Int.toNat_natCast, str_cutf]
/-- Where a byte stands first, or -1. -/
def idxS (l : List Nat) (c : Nat) : Int := if c ∈ l then ((l.takeWhile fun d => decide (d ≠ c)).length : Int) else -1
theorem idx_str {l : List Nat} (hl : ∀ d ∈ l, d < 256) {c : Nat} (hc : c < 256) : Lib.indexByte (str l).data.toList (UInt8.ofNat c) = idxS l c := by
  have e : (str l).data.toList = l.map fun c => UInt8.ofNat c := by rw [← strB_toList]
  rw [e]
  unfold idxS
  induction l with
  | nil => rfl
  | cons a l ih =>
    have ih := ih (fun d hd => hl d (List.mem_cons_of_mem _ hd)) (by rw [← strB_toList])
    rw [List.map_cons]
    unfold Lib.indexByte
    rw [u8_beq (hl a (by simp)) hc, ih]
    by_cases ha : a = c
    · subst ha; simp
    · have ha' : c ≠ a := fun e => ha e.symm
      simp only [decide_eq_false ha, Bool.false_eq_true, if_false, List.mem_cons, ha', false_or]
      by_cases hm : c ∈ l
      · simp only [if_pos hm]
        have : (((l.takeWhile fun d => decide (d ≠ c)).length : Int) == -1) = false := beq_eq_false_iff_ne.2 (by omega)
        rw [this, List.takeWhile_cons]
        simp [ha]
      · simp [hm]
theorem IndexByteS_is (l : List Nat) (hl : ∀ d ∈ l, d < 256) (c : Nat) (hc : c < 256) (w : World) : Calls Try.prog 49 #[.string (str l), .int .u8 (c : Nat)] w fun e w' => e = .returned (.int .i64 (idxS l c)) ∧ w = w' := by
  rw [← idx_str hl hc]
  exact IndexByte_is (str l) (c : Nat) w
theorem idx_ge (l : List Nat) (c : Nat) : -1 ≤ idxS l c := by
  unfold idxS; split <;> omega
theorem idx_mem0 (l : List Nat) (c : Nat) : decide (0 ≤ idxS l c) = decide (c ∈ l) := by
  unfold idxS
  by_cases h : c ∈ l
  · rw [if_pos h, decide_eq_true h, decide_eq_true (by omega)]
  · rw [if_neg h, decide_eq_false h, decide_eq_false (by omega)]
end Go.Proofs.Yteapcahpkapbbaa
