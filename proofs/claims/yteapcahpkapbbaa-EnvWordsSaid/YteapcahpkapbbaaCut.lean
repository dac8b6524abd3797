/-
  b[k:] and b[:k] of bytes, under one name.
  Conditions: the slice reads as these bytes.
-/
import Derived.Test.YteapcahpkapbbaaBy
namespace Go.Proofs.Yteapcahpkapbbaa
open Go.RowKit

theorem Rd.drop {w : World} {A : Option Addr} {n c a : Nat} {xs : List Value} (h : Rd w (.slice A n c) xs) (ha : a ≤ n) : Rd w (.slice (if c = a then A else A.map (·.add a)) (n - a) (c - a)) (xs.drop a) := by
  obtain ⟨A', c', hv, hle, h1, hr⟩ := h
  injection hv with e1 e2 e3
  subst e1 e2 e3
  have hl : (xs.drop a).length = xs.length - a := by simp
  refine ⟨_, _, by rw [hl], by omega, fun u hu => h1 u (List.mem_of_mem_drop hu), fun hp => ?_⟩
  obtain ⟨b, o, rfl, hx⟩ := hr (by omega)
  rw [if_neg (by omega)]
  refine ⟨b, o + a, by simp [add_eq], fun j u hu => ?_⟩
  rw [List.getElem?_drop] at hu
  rw [Nat.add_assoc]
  exact hx _ u hu

/-- b[a:], under one name. -/
theorem run_from {w : World} {A : Option Addr} {n c a : Nat} {bs : List Nat} (h : Rd w (.slice A n c) (bv bs)) (ha : a ≤ n) :
    ∃ A' c' N, (∀ W, (Instr.slice 59 (.slice A n c) (some (.int .i64 (a : Int))) none none).run Try.prog W = .ok (.slice A' N c') W) ∧ Rd w (.slice A' N c') (bv (bs.drop a)) ∧ N + a = n := by
  refine ⟨_, _, n - a, fun W => ?_, by have := h.drop ha; rw [show (bv bs).drop a = bv (bs.drop a) by simp [bv]] at this; exact this, by omega⟩
  obtain ⟨i0, hi0, hz0, hz1, hz2⟩ := info_parts byte_info
  have hs : (sizeOf (Try.prog.elem 59)).run Try.prog W = .ok 1 W := by
    rw [show Try.prog.elem 59 = 5 by kernel_rfl]
    simp [sizeOf, typeInfo, hi0, hz1]
  rw [run_slice_l W 59 A n c (by kernel_rfl) .i64 (a : Int) (by omega) (by omega), hs]
  simp only [Result.andThen, Int.toNat_natCast, sliced, Nat.mul_one]

theorem Rd.upto {w : World} {A : Option Addr} {n c k : Nat} {xs : List Value} (h : Rd w (.slice A n c) xs) (hk : k ≤ n) : Rd w (.slice (if c = 0 then A else A.map (·.add 0)) k c) (xs.take k) := by
  have h1 := h.take hk
  obtain ⟨A', c', hv, hle, h2, hr⟩ := h1
  injection hv with e1 e2 e3
  subst e1 e3
  refine ⟨_, _, by rw [← e2], hle, h2, fun hp => ?_⟩
  obtain ⟨b, o, rfl, hx⟩ := hr hp
  refine ⟨b, o, ?_, hx⟩
  split
  · rfl
  · simp [add_eq]

/-- b[:k], under one name. -/
theorem run_upto {w : World} {A : Option Addr} {n c k : Nat} {bs : List Nat} (h : Rd w (.slice A n c) (bv bs)) (hk : k ≤ n) :
    ∃ A', (∀ W, (Instr.slice 59 (.slice A n c) none (some (.int .i64 (k : Int))) none).run Try.prog W = .ok (.slice A' k c) W) ∧ Rd w (.slice A' k c) (bv (bs.take k)) := by
  refine ⟨_, fun W => ?_, by have := h.upto hk; rw [show (bv bs).take k = bv (bs.take k) by simp [bv]] at this; exact this⟩
  have hle := h.le
  obtain ⟨i0, hi0, hz0, hz1, hz2⟩ := info_parts byte_info
  have hs : (sizeOf (Try.prog.elem 59)).run Try.prog W = .ok 1 W := by
    rw [show Try.prog.elem 59 = 5 by kernel_rfl]
    simp [sizeOf, typeInfo, hi0, hz1]
  rw [run_slice_h W 59 A n c (by kernel_rfl) .i64 (k : Int) (by omega) (by omega), hs]
  simp only [Result.andThen, Int.toNat_natCast, sliced, Nat.mul_one, Nat.sub_zero]
end Go.Proofs.Yteapcahpkapbbaa
