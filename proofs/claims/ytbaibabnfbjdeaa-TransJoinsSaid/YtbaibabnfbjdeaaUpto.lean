/-
  b[:k] of bytes, under one name.
  Conditions: the slice reads as these bytes.
-/
import Derived.Test.YtbaibabnfbjdeaaRGet
namespace Go.Proofs.Ytbaibabnfbjdeaa
open Go.RowKit

theorem Rd.upto {w : World} {A : Option Addr} {n c k : Nat} {xs : List Value} (h : Rd w (.slice A n c) xs) (hk : k ≤ n) : Rd w (.slice (if c = 0 then A else A.map (·.add 0)) k c) (xs.take k) := by
  have h1 := h.take hk
  obtain ⟨A', c', hv, hle, h2, hr⟩ := h1
  injection hv with e1 e2 e3
  subst e1 e3
  refine ⟨_, _, by rw [← e2], hle, h2, fun hp => ?_⟩
  obtain ⟨b, o, rfl, hx⟩ := hr hp
  refine ⟨b, o, ?_, hx⟩
  split
  · rfl
  · simp [add_eq]

/-- b[:k], under one name. -/
theorem run_upto {w : World} {A : Option Addr} {n c k : Nat} {bs : List Nat} (h : Rd w (.slice A n c) (bv bs)) (hk : k ≤ n) :
    ∃ A', (∀ W, (Instr.slice 25 (.slice A n c) none (some (.int .i64 (k : Int))) none).run Try.prog W = .ok (.slice A' k c) W) ∧ Rd w (.slice A' k c) (bv (bs.take k)) := by
  refine ⟨_, fun W => ?_, by have := h.upto hk; rw [show (bv bs).take k = bv (bs.take k) by simp [bv]] at this; exact this⟩
  have hle := h.le
  obtain ⟨i0, hi0, hz0, hz1, hz2⟩ := info_parts byte_info
  have hs : (sizeOf (Try.prog.elem 25)).run Try.prog W = .ok 1 W := by
    rw [show Try.prog.elem 25 = 5 by kernel_rfl]
    simp [sizeOf, typeInfo, hi0, hz1]
  rw [run_slice_h W 25 A n c (by kernel_rfl) .i64 (k : Int) (by omega) (by omega), hs]
  simp only [Result.andThen, Int.toNat_natCast, sliced, Nat.mul_one, Nat.sub_zero]

end Go.Proofs.Ytbaibabnfbjdeaa
