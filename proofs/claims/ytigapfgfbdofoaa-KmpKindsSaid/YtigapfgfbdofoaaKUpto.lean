/-
  l[:k] and l[k:] of numbers, under one name.
  Conditions: the slice reads as these numbers.
-/
import Derived.Test.YtigapfgfbdofoaaKBord
import Derived.Test.YtigapfgfbdofoaaCut
namespace Go.Proofs.Ytigapfgfbdofoaa
open Go.RowKit

theorem run_upto_i {w : World} {A : Option Addr} {n c k : Nat} {l : List Int} (h : Rd w (.slice A n c) (iv l)) (hk : k ≤ n) :
    ∃ A', (∀ W, (Instr.slice 22 (.slice A n c) none (some (.int .i64 (k : Int))) none).run Try.prog W = .ok (.slice A' k c) W) ∧ Rd w (.slice A' k c) (iv (l.take k)) := by
  refine ⟨_, fun W => ?_, by have := h.upto hk; rw [show (iv l).take k = iv (l.take k) by simp] at this; exact this⟩
  have hle := h.le
  obtain ⟨i0, hi0, hz0, hz1, hz2⟩ := info_parts int_info
  have hs : (sizeOf (Try.prog.elem 22)).run Try.prog W = .ok 1 W := by
    rw [show Try.prog.elem 22 = 3 by kernel_rfl]
    simp [sizeOf, typeInfo, hi0, hz1]
  rw [run_slice_h W 22 A n c (by kernel_rfl) .i64 (k : Int) (by omega) (by omega), hs]
  simp only [Result.andThen, Int.toNat_natCast, sliced, Nat.mul_one, Nat.sub_zero]
theorem run_from_i {w : World} {A : Option Addr} {n c a : Nat} {l : List Int} (h : Rd w (.slice A n c) (iv l)) (ha : a ≤ n) :
    ∃ A' c' N, (∀ W, (Instr.slice 22 (.slice A n c) (some (.int .i64 (a : Int))) none none).run Try.prog W = .ok (.slice A' N c') W) ∧ Rd w (.slice A' N c') (iv (l.drop a)) ∧ N + a = n := by
  refine ⟨_, _, n - a, fun W => ?_, by have := h.drop ha; rw [show (iv l).drop a = iv (l.drop a) by simp] at this; exact this, by omega⟩
  obtain ⟨i0, hi0, hz0, hz1, hz2⟩ := info_parts int_info
  have hs : (sizeOf (Try.prog.elem 22)).run Try.prog W = .ok 1 W := by
    rw [show Try.prog.elem 22 = 3 by kernel_rfl]
    simp [sizeOf, typeInfo, hi0, hz1]
  rw [run_slice_l W 22 A n c (by kernel_rfl) .i64 (a : Int) (by omega) (by omega), hs]
  simp only [Result.andThen, Int.toNat_natCast, sliced, Nat.mul_one]
end Go.Proofs.Ytigapfgfbdofoaa
