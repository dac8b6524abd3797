/-
  l[:k] of a list of events, under one name.
  Conditions: none.
-/
import Derived.Test.YtchfiiiippnigaaEvMath
import Derived.WalkKit
namespace Go.Proofs.Ytchfiiiippnigaa
open Go.RowKit

theorem ev_size (W : World) : (sizeOf (Try.prog.elem 22)).run Try.prog W = .ok 3 W := by
  obtain ⟨i0, hi0, hz0, hz1, hz2⟩ := info_parts ev_info
  rw [show Try.prog.elem 22 = 44 by kernel_rfl]
  simp [sizeOf, typeInfo, hi0, hz1]
theorem EvsIn.take {S : Nat → Prop} {w : World} {A : Option Addr} {n c k : Nat} {L : List Ev} (h : EvsIn S w (.slice A n c) L) (hk : k ≤ n) : EvsIn S w (.slice A k c) (L.take k) := by
  have hn := h.n
  have hc := h.cap
  obtain ⟨hm, ho, A', c', e, hle, hr⟩ := h
  injection e with e1 e2 e3
  subst e1 e3
  have hl : (L.take k).length = k := by simp; omega
  refine ⟨by omega, fun a ha => ho a (List.mem_of_mem_take ha), A, c, by rw [hl], by omega, fun hp => ?_⟩
  obtain ⟨b, o, rfl, hS, hx⟩ := hr (by omega)
  refine ⟨b, o, rfl, hS, fun j a ha => hx j a ?_⟩
  rw [List.getElem?_take] at ha
  split at ha
  · exact ha
  · cases ha
/-- l[:k], under one name. -/
theorem run_firstE {S : Nat → Prop} {w : World} {A : Option Addr} {n c k : Nat} {L : List Ev} (h : EvsIn S w (.slice A n c) L) (hk : k ≤ n) :
    ∃ A', (∀ W, (Instr.slice 22 (.slice A n c) none (some (.int .i64 (k : Int))) none).run Try.prog W = .ok (.slice A' k c) W) ∧ EvsIn S w (.slice A' k c) (L.take k) := by
  refine ⟨if c = 0 then A else A.map (·.add 0), fun W => ?_, ?_⟩
  · have hle := h.cap
    rw [run_slice_h W 22 A n c (by kernel_rfl) .i64 (k : Int) (by omega) (by omega), ev_size W]
    simp only [Result.andThen, Int.toNat_natCast, sliced, Nat.zero_mul, Nat.sub_zero]
  · have h1 := h.take hk
    obtain ⟨hm, ho, A', c', e, hle, hr⟩ := h1
    injection e with e1 e2 e3
    subst e1 e3
    refine ⟨hm, ho, _, _, by rw [← e2], hle, fun hp => ?_⟩
    obtain ⟨b, o, rfl, hS, hx⟩ := hr hp
    refine ⟨b, o, ?_, hS, hx⟩
    split
    · rfl
    · simp [add_eq]
theorem pes_takeL (L : List Ev) (k : Nat) : pes (L.take k) = (pes L).take k := by simp [pes, List.map_take]
end Go.Proofs.Ytchfiiiippnigaa
