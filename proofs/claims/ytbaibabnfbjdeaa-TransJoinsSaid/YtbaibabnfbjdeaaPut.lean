/-
  The contract of vary.Put: a new slice of a number's bytes.
  Conditions: x is a uint64.
-/
import Derived.Test.YtbaibabnfbjdeaaZig
import Derived.Test.YtbaibabnfbjdeaaLen
import Derived.Test.YtbaibabnfbjdeaaMem
import Derived.Test.YtbaibabnfbjdeaaBy
import Derived.Laws.ShiftsVarLaws
import Derived.Laws.BitsAllLaws
import Derived.Laws.MakeOwn
import Derived.LoopTactic
namespace Go.Proofs.Ytbaibabnfbjdeaa
open Go.RowKit

/-- A new slice that holds just these bytes. -/
def Made (w : World) (l : List Nat) (e : Ending) (w' : World) : Prop :=
  ∃ A c g, e = .returned (.slice A l.length c) ∧ Row w' 5 g (.slice A l.length c) (bv l) ∧ (∀ b, g = some b → w.heap.size ≤ b) ∧ Below w.heap.size w w'

/-- How many bits, and so which byte is the last one. -/
def LenTo (last : Nat) (w : World) (e : Ending) (w' : World) : Prop := ∃ n : Nat, 1 ≤ n ∧ n ≤ 64 ∧ (n - 1) / 7 = last ∧ e = .returned (.int .i64 (n : Int)) ∧ w = w'
theorem Len64_or (x : Nat) (w : World) (h : x < 18446744073709551616) : Calls Try.prog 32 #[.int .u64 ((x ||| 1 : Nat) : Int)] w (LenTo (lastOf x) w) := by
  have ho : x ||| 1 < 2 ^ 64 := Nat.or_lt_two_pow (by simpa using h) (by decide)
  have h0 : 0 < x ||| 1 := by
    have : 1 ≤ x ||| 1 := Nat.right_le_or
    omega
  obtain ⟨b0, _, _⟩ := bitLen_between 64 (x ||| 1) h0 ho
  refine (Len64_any _ w (by omega) (by omega)).mono fun e w' ⟨he, hw⟩ => ⟨Lib.bitLen (x ||| 1), b0, Lib.bitLen_le _ 64 (by omega) ho, rfl, ?_, hw⟩
  rw [he, Int.toNat_natCast]

theorem made_run (n : Nat) (hn : n ≤ 10) (W : World) : (Instr.makeSlice 25 (.int .i64 ((n : Int) + 1)) (.int .i64 ((n : Int) + 1))).run Try.prog W = .ok (.slice (some ⟨W.heap.size, 0, none⟩) (n + 1) (n + 1)) (W.alloc (.cells (madeCells #[.int .u8 0] (n + 1)) 5)) := by
  obtain ⟨i0, hi0, hz0, hz1, hz2⟩ := info_parts byte_info
  have h := run_make (P := Try.prog) W 25 5 i0 _ Try.underlying25 hi0 hz0 .i64 .i64 ((n : Int) + 1) ((n : Int) + 1) (by omega) (by omega) (by rw [hz2]; omega) (by omega)
  rw [hz1, show ((n : Int) + 1).toNat = n + 1 by omega, Nat.mul_one] at h
  exact h

theorem or_all : ∀ z : Fin 256, z.val ||| 128 = 128 + z.val % 128 := by decide +kernel
theorem cast_shift (x k : Nat) : (x : Int) / 2 ^ (7 * k) = ((x / 128 ^ k : Nat) : Int) := by
  rw [Int.natCast_ediv, show (128 : Nat) ^ k = 2 ^ (7 * k) by rw [Nat.pow_mul]]
  simp
theorem byte_more (x k : Nat) : bits .or .u8 ((x : Int) / 2 ^ (7 * k) % 256) 128 = ((128 + x / 128 ^ k % 128 : Nat) : Int) := by
  rw [cast_shift]
  generalize x / 128 ^ k = y
  have e : ((y : Int) % 256) = ((y % 256 : Nat) : Int) := by omega
  have h := or_all ⟨y % 256, by omega⟩
  simp only at h
  rw [e, show (128 : Int) = ((128 : Nat) : Int) from rfl, u8_or_nat (y % 256) 128 (by omega) (by omega), h]
  omega
theorem byte_last (x k : Nat) (h : x < 128 ^ (k + 1)) : (x : Int) / 2 ^ (7 * k) % 256 = ((x / 128 ^ k : Nat) : Int) := by
  have h1 : x / 128 ^ k < 128 := by
    rw [Nat.div_lt_iff_lt_mul (Nat.pow_pos (by omega)), Nat.mul_comm, ← Nat.pow_succ]; exact h
  rw [cast_shift]
  generalize x / 128 ^ k = y at *
  omega

/-- What stands in the row behind k bytes. -/
def Filled (w0 w : World) (b last k x : Nat) : Prop :=
  ∃ cs, Blk w b 5 cs ∧ cs.size = last + 1 ∧ (∀ j, j < k → cs[j]? = some (.int .u8 ((128 + x / 128 ^ j % 128 : Nat) : Int))) ∧ Below w0.heap.size w0 w ∧ w0.heap.size ≤ b

theorem Filled.start (w0 : World) (last x : Nat) : Filled w0 (w0.alloc (.cells (madeCells #[.int .u8 0] (last + 1)) 5)) w0.heap.size last 0 x :=
  ⟨_, Blk.new _ _ _, size_madeCells _ _, by intro j hj; omega, (Below.refl _ _).alloc (Nat.le_refl _) _, Nat.le_refl _⟩

theorem Filled.cell {w0 w : World} {b last k x : Nat} (h : Filled w0 w b last k x) (hk : k ≤ last) : ∃ u, w.cell? ⟨b, k, none⟩ = some u := by
  obtain ⟨cs, hb, hs, _⟩ := h
  exact ⟨_, (hb.cell k).trans (Array.getElem?_eq_getElem (by omega))⟩
theorem Filled.frozen {w0 w : World} {b last k x : Nat} (h : Filled w0 w b last k x) : w.frozen? ⟨b, k, none⟩ = false := by
  obtain ⟨cs, hb, _⟩ := h
  exact hb.frozen k
theorem Filled.succ {w0 w : World} {b last k x : Nat} (h : Filled w0 w b last k x) (hk : k ≤ last) {n : Int} (hn : n = ((128 + x / 128 ^ k % 128 : Nat) : Int)) : Filled w0 (w.setCell ⟨b, k, none⟩ (.int .u8 n)) b last (k + 1) x := by
  obtain ⟨cs, hb, hs, hj, hbl, hle⟩ := h
  refine ⟨_, hb.set_ k _, by simpa using hs, fun j hjk => ?_, hbl.setCell hle _, hle⟩
  rcases Nat.lt_or_ge j k with h1 | h1
  · rw [Array.getElem?_setIfInBounds_ne (by omega)]; exact hj j h1
  · obtain rfl : j = k := by omega
    rw [Array.getElem?_setIfInBounds_self_of_lt (by omega), hn]
theorem Filled.done {w0 w : World} {b last x : Nat} (h : Filled w0 w b last last x) (h1 : x < 128 ^ (last + 1)) (h2 : last = 0 ∨ 128 ^ last ≤ x) (h3 : last ≤ 9) {n : Int} (hn : n = ((x / 128 ^ last : Nat) : Int)) :
    Made w0 (Var.enc x) (.returned (.slice (some ⟨b, 0, none⟩) (last + 1) (last + 1))) (w.setCell ⟨b, last, none⟩ (.int .u8 n)) := by
  obtain ⟨cs, hb, hs, hj, hbl, hle⟩ := h
  have hl := Var.enc_len last h1 h2
  have h9 : last + 1 ≤ maxLen := by unfold maxLen; omega
  refine ⟨_, last + 1, some b, by rw [hl], ?_, fun b' e => by cases e; exact hle, hbl.setCell hle _⟩
  refine ⟨_, _, by rw [bv_len], by rw [bv_len]; omega, h9, bv_one _, .inr ⟨b, 0, _, by omega, rfl, rfl, hb.set_ last _, by simp; omega, fun j u hu => ?_⟩⟩
  have hjl : j < (bv (Var.enc x)).length := (List.getElem?_eq_some_iff.1 hu).1
  rw [bv_len, hl] at hjl
  rw [bv_at, Var.enc_at last h1 h2 j (by omega)] at hu
  simp only [Option.map_some, Option.some.injEq] at hu
  rw [Nat.zero_add, ← hu]
  by_cases e : j = last
  · subst e
    rw [Array.getElem?_setIfInBounds_self_of_lt (by omega), hn, if_pos rfl]
  · rw [Array.getElem?_setIfInBounds_ne (by omega), if_neg e]; exact hj j (by omega)

set_option maxHeartbeats 1000000 in
theorem Put_any (x : Nat) (w : World) (h : x < 18446744073709551616) : Calls Try.prog 19 #[.int .u64 x] w (Made w (Var.enc x)) := by
  have hor : bits .or .u64 (x : Int) 1 = ((x ||| 1 : Nat) : Int) := u64_or_nat x 1 h (by omega)
  have hsp := lastOf_spec h
  have HC := Lib.hid (Len64_or x w h)
  generalize lastOf x = last at *
  have HS := Lib.hid (And.intro hsp.1 hsp.2.1)
  have s3 := hsp.2.2
  clear hsp
  go_enter Try.func19, Try.ntmps19
  go_wp2_with fail
  refine HC.out.mono ?_
  rintro e w' ⟨n, n1, n2, n3, rfl, rfl⟩
  have hd : ((n : Int) - 1) / 7 = (last : Int) := by omega
  clear n3
  have hm := made_run last (by omega)
  go_wp2_with fail
  rw [hd]
  go_loopw [15] (fun i wr => ∃ k : Nat, k ≤ last ∧ i = .int .i64 k ∧ Hid (Filled w wr w.heap.size last k x)) (fun i _ => last - (intOf i).toNat)
  case atStart => exact ⟨0, Nat.zero_le _, rfl, Filled.start w last x⟩
  case round =>
    obtain ⟨k, hk, rfl, HF⟩ := hrel

    obtain ⟨u, hc⟩ := HF.out.cell hk
    have hf := HF.out.frozen
    clear hm hd hor
    by_cases hlt : k < last
    · go_wp2_with fail
      go_round
      case rel =>
        refine ⟨k + 1, by omega, by go_num, ?_⟩
        exact HF.out.succ hk (byte_more x k)
      case measure => simp [intOf]; omega
    · obtain rfl : k = last := by omega
      go_wp2_with fail
      go_ret
      exact HF.out.done HS.out.1 HS.out.2 s3 (byte_last x k HS.out.1)
end Go.Proofs.Ytbaibabnfbjdeaa
