/-
  The places at which a pattern stands, as they come thing by thing; over plain lists.
  Conditions: none.
-/
import Derived.Test.YtialecghpekcnaaKmpMath
namespace Go.Proofs.Ytialecghpekcnaa
section
variable {α : Type} [DecidableEq α]

/-- The places that end within the first k things. -/
def placesTo (text p : List α) (k : Nat) : List Nat := (List.range (k + 1 - p.length)).filter (fun i => decide (At text p i))
theorem placesTo_len (text p : List α) (k : Nat) : (placesTo text p k).length ≤ k + 1 - p.length := by
  have := List.length_filter_le (fun i => decide (At text p i)) (List.range (k + 1 - p.length))
  rwa [List.length_range] at this
theorem placesTo_zero (text : List α) {p : List α} (h : p.length = 0) : placesTo text p 0 = [0] := by
  have hp : p = [] := List.eq_nil_of_length_eq_zero h
  subst hp
  have h0 : At text ([] : List α) 0 := ⟨Nat.zero_le _, Nat.zero_le _, rfl⟩
  simp [placesTo, List.range_succ, h0]
theorem placesTo_none (text : List α) {p : List α} (h : p.length ≠ 0) : placesTo text p 0 = [] := by
  unfold placesTo
  rw [show 0 + 1 - p.length = 0 by omega]
  rfl
theorem placesTo_hit {text p : List α} {k : Nat} (hk : k < text.length) (h : longest (text.take (k + 1)) p = p.length) : p.length ≤ k + 1 ∧ placesTo text p (k + 1) = placesTo text p k ++ [k + 1 - p.length] := by
  have hs := longest_suf (text.take (k + 1)) p
  have hm : p.length ≤ k + 1 := by
    have := hs.2.1
    rw [h, List.length_take] at this
    omega
  refine ⟨hm, ?_⟩
  have hi : (k + 1 - p.length) + p.length = k + 1 := by omega
  have ha : At text p (k + 1 - p.length) := (at_ends (by omega)).2 (by rw [hi]; exact h)
  unfold placesTo
  rw [show k + 1 + 1 - p.length = (k + 1 - p.length) + 1 by omega, List.range_succ, List.filter_append]
  simp [ha]
theorem placesTo_miss {text p : List α} {k : Nat} (hk : k < text.length) (h : longest (text.take (k + 1)) p ≠ p.length) : placesTo text p (k + 1) = placesTo text p k := by
  unfold placesTo
  by_cases hm : p.length ≤ k + 1
  · have hi : (k + 1 - p.length) + p.length = k + 1 := by omega
    have ha : ¬ At text p (k + 1 - p.length) := fun ha => h (by have := (at_ends (by omega)).1 ha; rwa [hi] at this)
    rw [show k + 1 + 1 - p.length = (k + 1 - p.length) + 1 by omega, List.range_succ, List.filter_append]
    simp [ha]
  · rw [show k + 1 + 1 - p.length = 0 by omega, show k + 1 - p.length = 0 by omega]
theorem placesTo_all (text p : List α) : placesTo text p text.length = places text p := by
  unfold placesTo places
  by_cases hm : p.length ≤ text.length
  · have h1 : List.range (text.length + 1) = List.range (text.length + 1 - p.length) ++ (List.range p.length).map (text.length + 1 - p.length + ·) := by
      rw [← List.range_add]
      congr 1
      omega
    rw [h1, List.filter_append]
    have hz : ((List.range p.length).map (text.length + 1 - p.length + ·)).filter (fun i => decide (At text p i)) = [] := by
      rw [List.filter_eq_nil_iff]
      intro i hi
      obtain ⟨j, _, rfl⟩ := List.mem_map.1 hi
      simp only [decide_eq_true_eq]
      rintro ⟨h2, h3, _⟩
      omega
    rw [hz, List.append_nil]
  · rw [show text.length + 1 - p.length = 0 by omega]
    symm
    rw [List.range_zero, List.filter_nil, List.filter_eq_nil_iff]
    intro i _
    simp only [decide_eq_true_eq]
    rintro ⟨_, h3, _⟩
    omega
theorem placesTo_prefix (text p : List α) {j k : Nat} (h : j ≤ k) : placesTo text p j <+: placesTo text p k := by
  unfold placesTo
  obtain ⟨d, hd⟩ : ∃ d, k + 1 - p.length = (j + 1 - p.length) + d := ⟨(k + 1 - p.length) - (j + 1 - p.length), by omega⟩
  rw [hd, List.range_add, List.filter_append]
  exact List.prefix_append _ _
theorem placesTo_le (text p : List α) {k : Nat} (h : k ≤ text.length) : placesTo text p k <+: places text p := by rw [← placesTo_all]; exact placesTo_prefix text p h
theorem places_zero (text : List α) {p : List α} (h : p.length = 0) : [0] <+: places text p := by rw [← placesTo_zero text h]; exact placesTo_le text p (Nat.zero_le _)
end
end Go.Proofs.Ytialecghpekcnaa
