/-
  Ends and pieces of a text, and texts in a stream, over plain lists.
  Conditions: none.
-/
import Derived.Test.YtialecghpekcnaaKmpMath
namespace Go.Proofs.Ytialecghpekcnaa
section
variable {α : Type} [DecidableEq α]

omit [DecidableEq α] in
theorem At.le {t p : List α} {i : Nat} (h : At t p i) : i + p.length ≤ t.length := by have h1 := h.1; have h2 := h.2.1; omega
omit [DecidableEq α] in
theorem At.mk' {t p : List α} {i : Nat} (h : i + p.length ≤ t.length) (k : (t.drop i).take p.length = p) : At t p i := ⟨by omega, by omega, k⟩
omit [DecidableEq α] in
/-- A place in a beginning is a place in the whole. -/
theorem at_take {t p : List α} {i k : Nat} (hk : k ≤ t.length) : At (t.take k) p i ↔ i + p.length ≤ k ∧ At t p i := by
  have hl : (t.take k).length = k := by rw [List.length_take]; omega
  constructor
  · intro h
    have := h.le
    rw [hl] at this
    refine ⟨this, At.mk' (by omega) ?_⟩
    have e := h.2.2
    rwa [List.drop_take, List.take_take, Nat.min_eq_left (by omega)] at e
  · rintro ⟨h1, h2⟩
    refine At.mk' (by omega) ?_
    rw [List.drop_take, List.take_take, Nat.min_eq_left (by omega)]
    exact h2.2.2
omit [DecidableEq α] in
theorem at_app {t p m : List α} {i : Nat} (h : i + p.length ≤ t.length) : At (t ++ m) p i ↔ At t p i := by
  have := at_take (t := t ++ m) (p := p) (i := i) (k := t.length) (by simp)
  rw [List.take_left] at this
  exact ⟨fun k => this.2 ⟨h, k⟩, fun k => (this.1 k).2⟩
omit [DecidableEq α] in
theorem at_drop {t p : List α} {i k : Nat} (hk : k ≤ t.length) : At (t.drop k) p i ↔ At t p (k + i) := by
  unfold At
  rw [List.length_drop, List.drop_drop]
  constructor
  · rintro ⟨h1, h2, h3⟩; exact ⟨by omega, by omega, h3⟩
  · rintro ⟨h1, h2, h3⟩; exact ⟨by omega, by omega, h3⟩

/-- The first place that is no less than from, within n steps. -/
def find (t p : List α) : Nat → Nat → Option Nat
  | 0, _ => none
  | n + 1, i => if At t p i then some i else find t p n (i + 1)
theorem find_some {t p : List α} : ∀ {n i j : Nat}, find t p n i = some j → i ≤ j ∧ At t p j ∧ ∀ k, i ≤ k → k < j → ¬ At t p k
  | 0, _, _, h => by simp [find] at h
  | n + 1, i, j, h => by
    unfold find at h
    split at h
    · next ha => obtain rfl := Option.some.inj h; exact ⟨Nat.le_refl _, ha, fun k h1 h2 => by omega⟩
    · next ha =>
      obtain ⟨h1, h2, h3⟩ := find_some h
      refine ⟨by omega, h2, fun k k1 k2 => ?_⟩
      by_cases e : k = i
      · subst e; exact ha
      · exact h3 k (by omega) k2
theorem find_none {t p : List α} : ∀ {n i : Nat}, find t p n i = none → ∀ k, i ≤ k → k < i + n → ¬ At t p k
  | 0, _, _, k, h1, h2 => by omega
  | n + 1, i, h, k, h1, h2 => by
    unfold find at h
    split at h
    · simp at h
    · next ha =>
      by_cases e : k = i
      · subst e; exact ha
      · exact find_none h k (by omega) (by omega)
/-- The first place from a place on. -/
def first (t p : List α) (i : Nat) : Option Nat := find t p (t.length + 1 - i) i
theorem first_is {t p : List α} {i j : Nat} : first t p i = some j ↔ i ≤ j ∧ At t p j ∧ ∀ k, i ≤ k → k < j → ¬ At t p k := by
  constructor
  · exact find_some
  · rintro ⟨h1, h2, h3⟩
    cases e : first t p i with
    | none => exact absurd h2 (find_none e j h1 (by have := h2.1; omega))
    | some k =>
      obtain ⟨k1, k2, k3⟩ := find_some e
      congr 1
      rcases Nat.lt_trichotomy k j with h | h | h
      · exact absurd k2 (h3 k k1 h)
      · exact h
      · exact absurd h2 (k3 j h1 h)
theorem first_no {t p : List α} {i : Nat} : first t p i = none ↔ ∀ k, i ≤ k → ¬ At t p k := by
  constructor
  · intro e k hk ha
    exact find_none e k hk (by have := ha.1; omega) ha
  · intro h
    cases e : first t p i with
    | none => rfl
    | some k => obtain ⟨k1, k2, -⟩ := find_some e; exact absurd k2 (h k k1)
/-- Texts one behind the other. -/
def factors (t : List α) : List (List α) → Nat → Option Nat
  | [], i => some i
  | p :: l, i => match first t p i with
    | none => none
    | some j => factors t l (j + p.length)
theorem factors_append (t : List α) : ∀ (a b : List (List α)) (i : Nat), factors t (a ++ b) i = (factors t a i).bind (factors t b)
  | [], _, _ => rfl
  | p :: a, b, i => by
    show factors t (p :: (a ++ b)) i = _
    unfold factors
    cases first t p i with
    | none => rfl
    | some j => exact factors_append t a b _
theorem factors_ge (t : List α) : ∀ (l : List (List α)) (i e : Nat), factors t l i = some e → i ≤ e
  | [], i, e, h => by obtain rfl := Option.some.inj h; exact Nat.le_refl _
  | p :: l, i, e, h => by
    unfold factors at h
    cases hf : first t p i with
    | none => rw [hf] at h; cases h
    | some j => rw [hf] at h; have := factors_ge t l _ _ h; have := (first_is.1 hf).1; omega
theorem factors_le (t : List α) : ∀ (l : List (List α)) (i e : Nat), i ≤ t.length → factors t l i = some e → e ≤ t.length
  | [], i, e, hi, h => by obtain rfl := Option.some.inj h; exact hi
  | p :: l, i, e, hi, h => by
    unfold factors at h
    cases hf : first t p i with
    | none => rw [hf] at h; cases h
    | some j => rw [hf] at h; exact factors_le t l _ _ (first_is.1 hf).2.1.le h
/-- What stands in a beginning stands so in the whole. -/
theorem factors_take {t : List α} {k : Nat} (hk : k ≤ t.length) : ∀ (l : List (List α)) (i e : Nat), factors (t.take k) l i = some e → factors t l i = some e
  | [], _, _, h => h
  | p :: l, i, e, h => by
    unfold factors at h ⊢
    cases hf : first (t.take k) p i with
    | none => rw [hf] at h; cases h
    | some j =>
      rw [hf] at h
      obtain ⟨h1, h2, h3⟩ := first_is.1 hf
      obtain ⟨h4, h5⟩ := (at_take hk).1 h2
      have : first t p i = some j := first_is.2 ⟨h1, h5, fun m m1 m2 hm => h3 m m1 m2 ((at_take hk).2 ⟨by omega, hm⟩)⟩
      rw [this]
      exact factors_take hk l _ e h
theorem factors_drop {t : List α} {k : Nat} (hk : k ≤ t.length) : ∀ (l : List (List α)) (i : Nat), factors t l (k + i) = (factors (t.drop k) l i).map (k + ·)
  | [], i => rfl
  | p :: l, i => by
    unfold factors
    have : first t p (k + i) = (first (t.drop k) p i).map (k + ·) := by
      cases hf : first (t.drop k) p i with
      | none =>
        refine first_no.2 fun m hm ha => first_no.1 hf (m - k) (by omega) ((at_drop hk).2 (by rwa [show k + (m - k) = m by omega]))
      | some j =>
        obtain ⟨h1, h2, h3⟩ := first_is.1 hf
        refine first_is.2 ⟨by show k + i ≤ k + j; omega, (at_drop hk).1 h2, fun m m1 m2 ha => by
          have m3 : m < k + j := m2
          exact h3 (m - k) (by omega) (by omega) ((at_drop hk).2 (by rwa [show k + (m - k) = m by omega]))⟩
    rw [this]
    cases first (t.drop k) p i with
    | none => rfl
    | some j =>
      show factors t l (k + j + p.length) = _
      rw [Nat.add_assoc]
      exact factors_drop hk l _

/-- How often a text stands in another one, ahead of its end. -/
def count (t p : List α) : Nat := ((List.range t.length).filter (fun i => decide (At t p i))).length
/-- An end. -/
def tail (t : List α) (n : Nat) : List α := t.drop (t.length - n)
omit [DecidableEq α] in
theorem tail_len {t : List α} {n : Nat} (h : n ≤ t.length) : (tail t n).length = n := by unfold tail; rw [List.length_drop]; omega
omit [DecidableEq α] in
theorem tail_at {t : List α} {n : Nat} (h : n ≤ t.length) : At t (tail t n) (t.length - n) := by
  refine At.mk' (by rw [tail_len h]; omega) ?_
  unfold tail
  exact List.take_length
/-- An end stands once just if it stands nowhere ahead. -/
theorem count_one {t : List α} {n : Nat} (h1 : 1 ≤ n) (h : n ≤ t.length) : count t (tail t n) = 1 ↔ ∀ i, i < t.length - n → ¬ At t (tail t n) i := by
  have hin : t.length - n ∈ (List.range t.length).filter (fun i => decide (At t (tail t n) i)) := by
    simp only [List.mem_filter, List.mem_range, decide_eq_true_eq]
    exact ⟨by omega, tail_at h⟩
  have hnd : ((List.range t.length).filter (fun i => decide (At t (tail t n) i))).Nodup := List.Pairwise.filter _ List.nodup_range
  constructor
  · intro hc i hi ha
    have hin2 : i ∈ (List.range t.length).filter (fun i => decide (At t (tail t n) i)) := by
      simp only [List.mem_filter, List.mem_range, decide_eq_true_eq]
      exact ⟨by omega, ha⟩
    unfold count at hc
    obtain ⟨a, ha1⟩ := List.length_eq_one_iff.1 hc
    rw [ha1] at hin hin2
    simp at hin hin2
    omega
  · intro hn
    unfold count
    have : (List.range t.length).filter (fun i => decide (At t (tail t n) i)) = [t.length - n] := by
      have hall : ∀ i ∈ (List.range t.length).filter (fun i => decide (At t (tail t n) i)), i = t.length - n := by
        intro i hi
        simp only [List.mem_filter, List.mem_range, decide_eq_true_eq] at hi
        have := hi.2.le
        rw [tail_len h] at this
        rcases Nat.lt_or_ge i (t.length - n) with k | k
        · exact absurd hi.2 (hn i k)
        · omega
      generalize (List.range t.length).filter (fun i => decide (At t (tail t n) i)) = l at *
      cases l with
      | nil => simp at hin
      | cons a l =>
        cases l with
        | nil => rw [hall a (by simp)]
        | cons b l =>
          have e1 := hall a (by simp)
          have e2 := hall b (by simp)
          simp at hnd
          exact absurd (e1.trans e2.symm) hnd.1.1
    rw [this]; rfl

/-- The shortest end that stands once. -/
def short (t : List α) : Nat → Nat → Nat
  | 0, _ => 0
  | f + 1, n => if count t (tail t n) = 1 then n else short t f (n + 1)
def shortest (t : List α) : Nat := short t t.length 1
theorem short_is {t : List α} : ∀ {f n : Nat}, 1 ≤ n → (∃ m, n ≤ m ∧ m < n + f ∧ count t (tail t m) = 1) → n ≤ short t f n ∧ short t f n < n + f ∧ count t (tail t (short t f n)) = 1 ∧ ∀ k, n ≤ k → k < short t f n → count t (tail t k) ≠ 1
  | 0, n, _, ⟨m, h1, h2, _⟩ => by omega
  | f + 1, n, hn, ⟨m, h1, h2, h3⟩ => by
    unfold short
    split
    · next hc => exact ⟨Nat.le_refl _, by omega, hc, fun k k1 k2 => by omega⟩
    · next hc =>
      have hm : n ≠ m := fun e => hc (e ▸ h3)
      obtain ⟨k1, k2, k3, k4⟩ := short_is (t := t) (f := f) (n := n + 1) (by omega) ⟨m, by omega, by omega, h3⟩
      refine ⟨by omega, by omega, k3, fun k a1 a2 => ?_⟩
      by_cases e : k = n
      · subst e; exact hc
      · exact k4 k (by omega) a2
theorem shortest_is {t : List α} (h : 0 < t.length) : 1 ≤ shortest t ∧ shortest t ≤ t.length ∧ count t (tail t (shortest t)) = 1 ∧ ∀ k, 1 ≤ k → k < shortest t → count t (tail t k) ≠ 1 := by
  obtain ⟨h1, h2, h3, h4⟩ := short_is (t := t) (f := t.length) (n := 1) (by omega) ⟨t.length, h, by omega, (count_one h (Nat.le_refl _)).2 fun i hi => by omega⟩
  unfold shortest
  exact ⟨h1, by omega, h3, h4⟩

/-- Pieces. -/
def chunks (m : Nat) : Nat → List α → List (List α)
  | 0, t => [t]
  | f + 1, t => if m < t.length then t.take m :: chunks m f (t.drop m) else [t]
def pieces (t : List α) (m : Nat) : List (List α) := if shortest t = 0 then [] else if shortest t ≤ m then [tail t (shortest t)] else chunks m t.length t
omit [DecidableEq α] in
theorem chunks_ok {m : Nat} (hm : 1 ≤ m) : ∀ (f : Nat) (t : List α), t.length ≤ f → 0 < t.length → (chunks m f t).flatten = t ∧ ∀ p ∈ chunks m f t, 0 < p.length ∧ p.length ≤ m
  | 0, t, h1, h2 => by omega
  | f + 1, t, h1, h2 => by
    unfold chunks
    split
    · next h =>
      obtain ⟨k1, k2⟩ := chunks_ok hm f (t.drop m) (by rw [List.length_drop]; omega) (by rw [List.length_drop]; omega)
      refine ⟨by rw [List.flatten_cons, k1, List.take_append_drop], fun p hp => ?_⟩
      rcases List.mem_cons.1 hp with rfl | hp
      · rw [List.length_take]; omega
      · exact k2 p hp
    · next h => exact ⟨by simp, fun p hp => by simp at hp; subst hp; omega⟩
/-- Texts that are a text one behind the other stand so at its beginning, one just behind the other. -/
theorem factors_flat (s : List α) : ∀ (l : List (List α)) (i : Nat), (∃ m, s.drop i = l.flatten ++ m) → i ≤ s.length → factors s l i = some (i + l.flatten.length)
  | [], i, _, _ => rfl
  | p :: l, i, ⟨m, h⟩, hi => by
    have hlen := congrArg List.length h
    rw [List.length_drop, List.flatten_cons, List.append_assoc, List.length_append, List.length_append] at hlen
    have hat : At s p i := At.mk' (by omega) (by rw [h, List.flatten_cons, List.append_assoc, List.take_left])
    unfold factors
    rw [first_is.2 ⟨Nat.le_refl _, hat, fun k k1 k2 => by omega⟩]
    show factors s l (i + p.length) = _
    rw [factors_flat s l (i + p.length) ⟨m, by rw [← List.drop_drop, h, List.flatten_cons, List.append_assoc, List.drop_left]⟩ (by omega), List.flatten_cons, List.length_append, Nat.add_assoc]
/-- A text's pieces end just at its end, whatever follows. -/
theorem pieces_end {t more : List α} {m : Nat} (hm : 1 ≤ m) (ht : 0 < t.length) : factors (t ++ more) (pieces t m) 0 = some t.length := by
  obtain ⟨h1, h2, h3, h4⟩ := shortest_is ht
  unfold pieces
  rw [if_neg (by omega)]
  split
  · have hl := tail_len h2
    have : first (t ++ more) (tail t (shortest t)) 0 = some (t.length - shortest t) := by
      refine first_is.2 ⟨Nat.zero_le _, (at_app (by rw [hl]; omega)).2 (tail_at h2), fun k _ hk ha => ?_⟩
      exact (count_one h1 h2).1 h3 k hk ((at_app (by rw [hl]; omega)).1 ha)
    unfold factors
    rw [this]
    show some (t.length - shortest t + (tail t (shortest t)).length) = _
    rw [hl]; congr 1; omega
  · obtain ⟨k1, -⟩ := chunks_ok hm t.length t (Nat.le_refl _) ht
    rw [factors_flat (t ++ more) (chunks m t.length t) 0 ⟨more, by rw [k1]; rfl⟩ (Nat.zero_le _), k1, Nat.zero_add]
theorem pieces_early {t more : List α} {m k : Nat} (hm : 1 ≤ m) (ht : 0 < t.length) (hk : k < t.length) : factors ((t ++ more).take k) (pieces t m) 0 = none := by
  cases h : factors ((t ++ more).take k) (pieces t m) 0 with
  | none => rfl
  | some e =>
    have h1 := factors_take (by simp; omega) _ _ _ h
    rw [pieces_end hm ht] at h1
    obtain rfl := Option.some.inj h1
    have := factors_le _ _ _ _ (Nat.zero_le _) h
    rw [List.length_take, List.length_append] at this
    omega
theorem pieces_small {t : List α} {m : Nat} (hm : 1 ≤ m) : ∀ p ∈ pieces t m, 0 < p.length ∧ p.length ≤ m := by
  intro p hp
  unfold pieces at hp
  split at hp
  · simp at hp
  · next h0 =>
    have ht : 0 < t.length := by
      rcases Nat.eq_zero_or_pos t.length with h | h
      · unfold shortest at h0; rw [h] at h0; exact absurd rfl h0
      · exact h
    split at hp
    · next hs =>
      obtain ⟨h1, h2, -⟩ := shortest_is ht
      simp at hp; subst hp
      rw [tail_len h2]; omega
    · exact (chunks_ok hm t.length t (Nat.le_refl _) ht).2 p hp
end
end Go.Proofs.Ytialecghpekcnaa
