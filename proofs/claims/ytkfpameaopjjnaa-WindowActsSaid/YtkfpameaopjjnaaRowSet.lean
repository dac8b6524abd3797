/-
  A store into a row of its own.
  Conditions: elements of one cell each.
-/
import Derived.Test.YtkfpameaopjjnaaMem
namespace Go.Proofs.Ytkfpameaopjjnaa
open Go.RowKit

theorem Row.set_ {w : World} {e : TypeId} {g : Option Nat} {b o n c k : Nat} {xs : List Value} (h : Row w e g (.slice (some ⟨b, o, none⟩) n c) xs) (hk : k < xs.length) {u : Value} (hu : u.oneCell' = true) :
    Row (w.setCell ⟨b, o + k, none⟩ u) e g (.slice (some ⟨b, o, none⟩) n c) (xs.set k u) ∧ w.grownBy (w.setCell ⟨b, o + k, none⟩ u) g ∧ w.frozen? ⟨b, o + k, none⟩ = false := by
  obtain ⟨A, c', hv, hle, hm, h1, hg⟩ := h
  injection hv with e1 e2 e3
  subst e1 e2 e3
  rcases hg with ⟨rfl, _⟩ | ⟨b', o', cs, hc, rfl, e1, hb, hfit, hx⟩
  · omega
  · cases e1
    have hblk : Blk w b e cs := hb
    have hb' := hblk.set_ (o + k) u
    refine ⟨⟨_, c, by rw [List.length_set], by rw [List.length_set]; exact hle, hm, fun v hv => ?_, .inr ⟨b, o, _, hc, rfl, rfl, hb', by simpa using hfit, fun j v hj => ?_⟩⟩, ⟨rfl, rfl, rfl, by simp [World.setCell], fun i _ hi => Below.heap_setCell w _ u i (fun e2 => hi (by rw [e2]))⟩, hblk.frozen _⟩
    · rcases List.mem_or_eq_of_mem_set hv with hv | rfl
      · exact h1 v hv
      · exact hu
    · rw [List.getElem?_set] at hj
      rw [Array.getElem?_setIfInBounds]
      by_cases hjk : k = j
      · subst hjk
        rw [if_pos rfl, if_pos hk] at hj
        rw [if_pos rfl, if_pos (by omega)]
        exact hj
      · rw [if_neg hjk] at hj
        rw [if_neg (by omega)]
        exact hx j v hj
end Go.Proofs.Ytkfpameaopjjnaa
