/-
  Patterns in rows of things, over plain lists: where one stands (At), the longest beginning that is an end (longest), the borders, and how they come thing by thing.
  Conditions: none.
-/
namespace Go.Proofs.YtcipljpalohjiaaDoor
section
variable {α : Type}

/-- Things k long at the end of s are the first ones of p. -/
def Suf (s p : List α) (k : Nat) : Prop := k ≤ p.length ∧ k ≤ s.length ∧ s.drop (s.length - k) = p.take k
instance [DecidableEq α] (s p : List α) (k : Nat) : Decidable (Suf s p k) := inferInstanceAs (Decidable (_ ∧ _ ∧ _))
theorem Suf.zero (s p : List α) : Suf s p 0 := ⟨Nat.zero_le _, Nat.zero_le _, by simp⟩
theorem Suf.nil {p : List α} {k : Nat} (h : Suf [] p k) : k = 0 := Nat.le_zero.1 h.2.1

/-- The longest one. -/
def lastOf (P : Nat → Prop) [DecidablePred P] : Nat → Nat
  | 0 => 0
  | n + 1 => if P (n + 1) then n + 1 else lastOf P n
theorem lastOf_le (P : Nat → Prop) [DecidablePred P] (n : Nat) : lastOf P n ≤ n := by
  induction n with
  | zero => exact Nat.le_refl _
  | succ n ih => unfold lastOf; split <;> omega
theorem lastOf_ok (P : Nat → Prop) [DecidablePred P] (n : Nat) (h0 : P 0) : P (lastOf P n) := by
  induction n with
  | zero => exact h0
  | succ n ih => unfold lastOf; split
                 · assumption
                 · exact ih
theorem le_lastOf (P : Nat → Prop) [DecidablePred P] {n k : Nat} (hk : k ≤ n) (h : P k) : k ≤ lastOf P n := by
  induction n with
  | zero => simpa [lastOf] using hk
  | succ n ih =>
    unfold lastOf
    split
    · exact hk
    · next hn =>
      by_cases e : k = n + 1
      · subst e; exact absurd h hn
      · exact ih (by omega)
variable [DecidableEq α]
def longest (s p : List α) : Nat := lastOf (Suf s p) p.length
theorem longest_suf (s p : List α) : Suf s p (longest s p) := lastOf_ok _ _ (Suf.zero s p)
theorem le_longest {s p : List α} {k : Nat} (h : Suf s p k) : k ≤ longest s p := le_lastOf _ h.1 h
theorem longest_is {s p : List α} {k : Nat} (h : Suf s p k) (hm : ∀ j, Suf s p j → j ≤ k) : longest s p = k := Nat.le_antisymm (hm _ (longest_suf s p)) (le_longest h)
theorem longest_le (s p : List α) : longest s p ≤ p.length := lastOf_le _ _
theorem longest_nil (p : List α) : longest [] p = 0 := Suf.nil (longest_suf [] p)

omit [DecidableEq α] in
theorem Suf.snoc {s p : List α} {x : α} {j : Nat} : Suf (s ++ [x]) p (j + 1) ↔ Suf s p j ∧ p[j]? = some x := by
  constructor
  · rintro ⟨h1, h2, h3⟩
    rw [List.length_append, List.length_singleton] at h2 h3
    have hj : j < p.length := h1
    rw [show s.length + 1 - (j + 1) = s.length - j by omega, List.drop_append_of_le_length (by omega), List.take_add_one, List.getElem?_eq_getElem hj] at h3
    have h4 := List.append_inj h3 (by rw [List.length_drop, List.length_take]; omega)
    refine ⟨⟨by omega, by omega, h4.1⟩, ?_⟩
    have := h4.2
    simp at this
    rw [List.getElem?_eq_getElem hj, this]
  · rintro ⟨⟨h1, h2, h3⟩, h4⟩
    obtain ⟨hj, h5⟩ := List.getElem?_eq_some_iff.1 h4
    refine ⟨hj, by rw [List.length_append, List.length_singleton]; omega, ?_⟩
    rw [List.length_append, List.length_singleton, show s.length + 1 - (j + 1) = s.length - j by omega, List.drop_append_of_le_length (by omega), h3, List.take_add_one, h4]
    rfl

/-- The longest border of the first a things of p: of all but the first of them the longest end. -/
def border (p : List α) (a : Nat) : Nat := lastOf (fun k => Suf (p.take a) p k) (a - 1)
theorem border_lt {p : List α} {a : Nat} (h : 0 < a) : border p a < a := by have := lastOf_le (fun k => Suf (p.take a) p k) (a - 1); unfold border; omega
theorem border_suf (p : List α) (a : Nat) : Suf (p.take a) p (border p a) := lastOf_ok _ _ (Suf.zero _ p)
theorem le_border {p : List α} {a k : Nat} (hk : k < a) (h : Suf (p.take a) p k) : k ≤ border p a := le_lastOf _ (by omega) h

omit [DecidableEq α] in
theorem Suf.inner {s p : List α} {a j : Nat} (ha : Suf s p a) (hj : j ≤ a) : Suf s p j ↔ Suf (p.take a) p j := by
  obtain ⟨h1, h2, h3⟩ := ha
  have hl : (p.take a).length = a := by rw [List.length_take]; omega
  have key : (p.take a).drop (a - j) = s.drop (s.length - j) := by
    rw [← h3, List.drop_drop]; congr 1; omega
  unfold Suf
  rw [hl, key]
  exact ⟨fun h => ⟨h.1, hj, h.2.2⟩, fun h => ⟨h.1, by omega, h.2.2⟩⟩

/-- What holds within the search for the next number: k is an end of s, and each one that goes on by x is no longer. -/
def Cand (s p : List α) (x : α) (k : Nat) : Prop := Suf s p k ∧ ∀ j, Suf s p j → p[j]? = some x → j ≤ k
theorem Cand.start (s p : List α) (x : α) : Cand s p x (longest s p) := ⟨longest_suf s p, fun _ h _ => le_longest h⟩
theorem Cand.back {s p : List α} {x : α} {k : Nat} (h : Cand s p x k) (h0 : 0 < k) (hx : p[k]? ≠ some x) : Cand s p x (border p k) := by
  refine ⟨(h.1.inner (Nat.le_of_lt (border_lt h0))).2 (border_suf p k), fun j hj hjx => ?_⟩
  have hjk := h.2 j hj hjx
  have hne : j ≠ k := fun e => hx (e ▸ hjx)
  exact le_border (by omega) ((h.1.inner hjk).1 hj)
theorem Cand.yes {s p : List α} {x : α} {k : Nat} (h : Cand s p x k) (hx : p[k]? = some x) : longest (s ++ [x]) p = k + 1 := by
  refine longest_is (Suf.snoc.2 ⟨h.1, hx⟩) fun j hj => ?_
  cases j with
  | zero => omega
  | succ j => have := Suf.snoc.1 hj; have := h.2 j this.1 this.2; omega
theorem Cand.no {s p : List α} {x : α} (h : Cand s p x 0) (hx : p[0]? ≠ some x) : longest (s ++ [x]) p = 0 := by
  refine longest_is (Suf.zero _ _) fun j hj => ?_
  cases j with
  | zero => omega
  | succ j =>
    obtain ⟨h1, h2⟩ := Suf.snoc.1 hj
    have := h.2 j h1 h2
    obtain rfl : j = 0 := by omega
    exact absurd h2 hx

/-- A border of the first n + 1 things is what a search for p tells of things 1 to n. -/
theorem border_longest (p : List α) {n : Nat} (hn : n < p.length) : border p (n + 1) = longest ((p.take (n + 1)).drop 1) p := by
  have hl : ((p.take (n + 1)).drop 1).length = n := by rw [List.length_drop, List.length_take]; omega
  have hl2 : (p.take (n + 1)).length = n + 1 := by rw [List.length_take]; omega
  have key : ∀ k, k ≤ n → (Suf (p.take (n + 1)) p k ↔ Suf ((p.take (n + 1)).drop 1) p k) := fun k hk => by
    unfold Suf
    rw [hl, hl2, List.drop_drop, show 1 + (n - k) = n + 1 - k by omega]
    exact ⟨fun h => ⟨h.1, hk, h.2.2⟩, fun h => ⟨h.1, by omega, h.2.2⟩⟩
  refine Nat.le_antisymm (le_longest ((key _ (by have := border_lt (p := p) (a := n + 1) (by omega); omega)).1 (border_suf p (n + 1)))) ?_
  have h := longest_suf ((p.take (n + 1)).drop 1) p
  have hle : longest ((p.take (n + 1)).drop 1) p ≤ n := by have := h.2.1; rw [hl] at this; exact this
  exact le_border (by omega) ((key _ hle).2 h)
theorem border_one (p : List α) : border p 1 = 0 := by have := border_lt (p := p) (a := 1) (by omega); omega
omit [DecidableEq α] in
theorem border_next (p : List α) {n : Nat} (hn : n + 1 < p.length) : ((p.take (n + 2)).drop 1) = ((p.take (n + 1)).drop 1) ++ [p[n + 1]] := by
  rw [List.take_add_one (i := n + 1), List.getElem?_eq_getElem hn, List.drop_append_of_le_length (by rw [List.length_take]; omega)]
  rfl

/-- Whether a pattern stands at a place. -/
def At (text p : List α) (i : Nat) : Prop := i ≤ text.length ∧ p.length ≤ text.length - i ∧ (text.drop i).take p.length = p
instance (text p : List α) (i : Nat) : Decidable (At text p i) := inferInstanceAs (Decidable (_ ∧ _ ∧ _))
/-- All places. -/
def places (text p : List α) : List Nat := (List.range (text.length + 1)).filter (fun i => decide (At text p i))
/-- A pattern stands where its end is seen. -/
theorem at_ends {text p : List α} {i : Nat} (hi : i + p.length ≤ text.length) : At text p i ↔ longest (text.take (i + p.length)) p = p.length := by
  have hl : (text.take (i + p.length)).length = i + p.length := by rw [List.length_take]; omega
  have key : At text p i ↔ Suf (text.take (i + p.length)) p p.length := by
    unfold At Suf
    rw [hl, show i + p.length - p.length = i by omega, List.take_length, List.drop_take, show i + p.length - i = p.length by omega]
    exact ⟨fun h => ⟨Nat.le_refl _, by omega, h.2.2⟩, fun h => ⟨by omega, by omega, h.2.2⟩⟩
  rw [key]
  exact ⟨fun h => longest_is h fun j hj => hj.1, fun h => by have := longest_suf (text.take (i + p.length)) p; rwa [h] at this⟩
end
end Go.Proofs.YtcipljpalohjiaaDoor
