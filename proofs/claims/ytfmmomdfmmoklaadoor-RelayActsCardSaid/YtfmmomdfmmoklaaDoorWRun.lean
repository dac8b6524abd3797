/-
  What holds of the laws' world behind k picks (Good), and what a pick makes of it.
  Conditions: at most 100 bytes in a pick; room for at most 30.
-/
import Derived.Test.YtfmmomdfmmoklaaDoorWDo
namespace Go.Proofs.YtfmmomdfmmoklaaDoor
open Go.RowKit

structure Wld.Good (rm k : Nat) (y : Wld) : Prop where
  ok : y.x.Ok
  rm : y.x.rm = rm
  len : ∀ e, e < 2 → (y.wr e).length ≤ 100 * k ∧ (y.rd e).length ≤ 100 * k
theorem Wld.Good.short {rm k : Nat} {y : Wld} (h : y.Good rm k) (hk : k ≤ 150) : y.Short := fun e he => by have := h.len e he; omega
theorem Wld.Good.start {rm : Nat} (h : rm ≤ 30) : (Wld.start rm).Good rm 0 := ⟨Sys.start_ok (by omega), rfl, fun e _ => by simp [Wld.start]⟩

namespace Sys
theorem read_rm (x : Sys) (d : Nat) (n t : Int) : (x.read d n t).2.rm = x.rm := by unfold Sys.read; split <;> (try split) <;> (try split) <;> rfl
theorem step_rm (x : Sys) (kind n t : Int) : (x.step kind n t).2.rm = x.rm := by
  unfold Sys.step
  split
  · split
    · rfl
    · exact read_rm ..
  · split
    · exact read_rm ..
    · split
      · rfl
      · split <;> rfl
end Sys

theorem Wld.Good.next {rm k : Nat} {y : Wld} (h : y.Good rm k) (x' : Sys) (h1 : x'.Ok) (h2 : x'.rm = rm) : ({ y with x := x' } : Wld).Good rm (k + 1) := ⟨h1, h2, fun e he => by have := h.len e he; simp only; omega⟩
theorem Wld.Good.says {rm k : Nat} {y : Wld} (h : y.Good rm k) {e : Nat} (he : e < 2) {zs : List Nat} (hl : zs.length ≤ 100) (hb : ∀ b ∈ zs, b < 256) : (y.says e zs).Good rm (k + 1) := by
  have h1 := putN_le y.x.rm (y.x.f (1 - e) e).en (y.x.f (1 - e) e).xs.length zs.length
  have h2 := h.ok.le (1 - e) (by omega) e he
  refine ⟨h.ok.line (by omega) he ?_ ?_, h.rm, fun j hj => ?_⟩
  · show ((y.x.f (1 - e) e).xs ++ zs.take _).length ≤ _
    rw [List.length_append, List.length_take]; omega
  · intro b hm
    rcases List.mem_append.1 hm with hm | hm
    · exact h.ok.byte (1 - e) (by omega) e he b hm
    · exact hb b (List.mem_of_mem_take hm)
  · have := h.len j hj
    refine ⟨?_, by show (y.rd j).length ≤ _; omega⟩
    show (upn y.wr e (y.wr e ++ zs.take _) j).length ≤ _
    by_cases hje : j = e
    · subst hje; rw [upn_at, List.length_append, List.length_take]; omega
    · rw [upn_far _ _ hje]; omega
theorem Wld.Good.hears {rm k : Nat} {y : Wld} (h : y.Good rm k) (hrm : rm ≤ 30) {e : Nat} (he : e < 2) (n : Int) : (y.hears e n).Good rm (k + 1) := by
  have h2 := h.ok.le (1 - e) (by omega) (1 - e) (by omega)
  have h3 := h.rm
  refine ⟨h.ok.line (by omega) (by omega) ?_ (fun b hm => h.ok.byte (1 - e) (by omega) (1 - e) (by omega) b (List.mem_of_mem_drop hm)), h.rm, fun j hj => ?_⟩
  · show ((y.x.f (1 - e) (1 - e)).xs.drop _).length ≤ _
    rw [List.length_drop]; omega
  · have := h.len j hj
    refine ⟨by show (y.wr j).length ≤ _; omega, ?_⟩
    show (upn y.rd e (y.rd e ++ (y.x.f (1 - e) (1 - e)).xs.take n.toNat) j).length ≤ _
    by_cases hje : j = e
    · subst hje; rw [upn_at, List.length_append, List.length_take]; omega
    · rw [upn_far _ _ hje]; omega
theorem Wld.Good.hangs {rm k : Nat} {y : Wld} (h : y.Good rm k) {e : Nat} (he : e < 2) : (y.hangs e).Good rm (k + 1) :=
  ⟨h.ok.line (by omega) he (h.ok.le (1 - e) (by omega) e he) (h.ok.byte (1 - e) (by omega) e he), h.rm, fun j hj => by have := h.len j hj; show (y.wr j).length ≤ _ ∧ (y.rd j).length ≤ _; omega⟩
theorem Wld.Good.act {rm k : Nat} {y : Wld} (h : y.Good rm k) (hrm : rm ≤ 30) (kind n t : Int) {zs : List Nat} (hl : zs.length ≤ 100) (hb : ∀ b ∈ zs, b < 256) : (y.act kind n t zs).2.Good rm (k + 1) := by
  unfold Wld.act
  split
  · exact h.says (by omega) hl hb
  · split
    · exact h.hears hrm (by omega) n
    · split
      · exact h.hangs (by omega)
      · split
        · exact h.says (by omega) hl hb
        · split
          · exact h.hears hrm (by omega) n
          · split
            · exact h.hangs (by omega)
            · exact h.next _ (h.ok.step ..) ((Sys.step_rm ..).trans h.rm)

theorem pick_len {l : List PickV} (h : isGreat l = false) : l.length ≤ 150 := by
  simp only [isGreat, Bool.or_eq_false_iff, decide_eq_false_iff_not] at h
  omega
theorem pick_small {l : List PickV} (h : isGreat l = false) (a : PickV) (ha : a ∈ l) : a.zs.length ≤ 100 := by
  simp only [isGreat, Bool.or_eq_false_iff, List.any_eq_false] at h
  have := h.2 a ha
  simpa using this
end Go.Proofs.YtfmmomdfmmoklaaDoor
