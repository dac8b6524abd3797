/-
  Branches in plain lists: what is wrong with them, the place from which a branch is hit, the hit behind some bytes, the first hit.
  Conditions: none.
-/
import Derived.Test.YtcipljpalohjiaaDoorGlPl
namespace Go.Proofs.YtcipljpalohjiaaDoor

/-- A branch: its kind and its pattern. -/
structure Brc where
  kind : Int
  pat : List Nat

/-- What is wrong with one branch. -/
def wrongB (x : Brc) : Nat := if x.kind < 0 ∨ 3 < x.kind then 2 else if x.kind = 1 then errS x.pat else 0
/-- What is wrong with the first one that is. -/
def wrongsB : List Brc → Nat
  | [] => 0
  | x :: l => if wrongB x = 0 then wrongsB l else wrongB x
def checkS (most : Int) (l : List Brc) : Nat := if most < 1 ∨ 1048576 < most then 3 else if 64 < l.length then 10 else wrongsB l

/-- Some bytes end with others. -/
def endsB (b p : List Nat) : Bool := decide (p.length ≤ b.length) && decide (b.drop (b.length - p.length) = p)
/-- The place from which a branch is hit behind some bytes. -/
def fromS (most : Int) (b : List Nat) (x : Brc) : Option Nat :=
  if x.kind = 0 then (if (x.pat.length : Int) ≤ most ∧ endsB b x.pat = true then some (b.length - x.pat.length) else none)
  else if x.kind = 1 then (match thingsS x.pat with | none => none | some t => spanS t b most) else none
/-- The hit: which branch, from where. -/
def hitFrom (most : Int) (b : List Nat) : List Brc → Nat → Option (Nat × Nat)
  | [], _ => none
  | x :: l, i => match fromS most b x with | some f => some (i, f) | none => hitFrom most b l (i + 1)
def hitS (most : Int) (b : List Nat) (l : List Brc) : Option (Nat × Nat) := hitFrom most b l 0
/-- The first hit: which branch, from where, to where. -/
def firstFrom (most : Int) (b : List Nat) (l : List Brc) : Nat → Nat → Option (Nat × Nat × Nat)
  | 0, _ => none
  | n + 1, e => match hitS most (b.take e) l with | some (i, f) => some (i, f, e) | none => firstFrom most b l n (e + 1)
def firstHit (most : Int) (b : List Nat) (l : List Brc) : Option (Nat × Nat × Nat) := firstFrom most b l (b.length + 1) 0

theorem wrongs_split (l m : List Brc) (h : wrongsB l = 0) : wrongsB (l ++ m) = wrongsB m := by
  induction l with
  | nil => rfl
  | cons x l ih =>
    rw [wrongsB] at h
    split at h
    · rw [List.cons_append, wrongsB, if_pos ‹_›, ih h]
    · omega
theorem wrongs_zero {l : List Brc} (h : wrongsB l = 0) : ∀ x ∈ l, wrongB x = 0 := by
  induction l with
  | nil => simp
  | cons x l ih =>
    rw [wrongsB] at h
    split at h
    · intro y hy
      rcases List.mem_cons.1 hy with rfl | hy
      · assumption
      · exact ih h y hy
    · omega
theorem wrongs_none {l : List Brc} (h : ∀ x ∈ l, wrongB x = 0) : wrongsB l = 0 := by
  induction l with
  | nil => rfl
  | cons x l ih => rw [wrongsB, if_pos (h x (by simp)), ih fun y hy => h y (by simp [hy])]
theorem wrongs_take {l : List Brc} {i : Nat} {x : Brc} (hx : l[i]? = some x) (h : wrongsB (l.take i) = 0) : wrongsB l = if wrongB x = 0 then wrongsB (l.drop (i + 1)) else wrongB x := by
  have hi := (List.getElem?_eq_some_iff.1 hx).1
  have e : l = l.take i ++ x :: l.drop (i + 1) := by
    conv => lhs; rw [← List.take_append_drop i l, List.drop_eq_getElem_cons hi, (List.getElem?_eq_some_iff.1 hx).2]
  conv => lhs; rw [e]
  rw [wrongs_split _ _ h, wrongsB]
theorem wrongs_next {l : List Brc} {i : Nat} {x : Brc} (hx : l[i]? = some x) (h : wrongsB (l.take i) = 0) (h2 : wrongB x = 0) : wrongsB (l.take (i + 1)) = 0 := by
  rw [List.take_add_one, hx, wrongs_split _ _ h]
  simp [wrongsB, h2]
theorem check_zero {most : Int} {l : List Brc} (h : checkS most l = 0) : 1 ≤ most ∧ most ≤ 1048576 ∧ l.length ≤ 64 ∧ ∀ x ∈ l, wrongB x = 0 := by
  unfold checkS at h
  split at h
  · omega
  · split at h
    · omega
    · exact ⟨by omega, by omega, by omega, wrongs_zero h⟩
theorem wrongB_small (x : Brc) : wrongB x ≤ 6 := by
  unfold wrongB errS
  repeat (first | omega | split)
theorem glob_right {x : Brc} (h : wrongB x = 0) (hk : x.kind = 1) : x.pat.length ≤ 1024 ∧ ∃ t, thingsS x.pat = some t := by
  unfold wrongB at h
  rw [if_neg (by omega), if_pos hk] at h
  unfold errS at h
  split at h
  · omega
  · cases ht : thingsS x.pat with
    | none => rw [ht] at h; simp at h
    | some t => exact ⟨by omega, t, rfl⟩

/-! ### The hit, step by step -/
theorem hit_skip {most : Int} {b : List Nat} {x : Brc} {l : List Brc} {i : Nat} (h : fromS most b x = none) : hitFrom most b (x :: l) i = hitFrom most b l (i + 1) := by rw [hitFrom, h]
theorem hit_here {most : Int} {b : List Nat} {x : Brc} {l : List Brc} {i f : Nat} (h : fromS most b x = some f) : hitFrom most b (x :: l) i = some (i, f) := by rw [hitFrom, h]
theorem hit_drop {most : Int} {b : List Nat} {l : List Brc} {i : Nat} {x : Brc} (hx : l[i]? = some x) : hitFrom most b (l.drop i) i = (match fromS most b x with | some f => some (i, f) | none => hitFrom most b (l.drop (i + 1)) (i + 1)) := by
  have hi := (List.getElem?_eq_some_iff.1 hx).1
  rw [List.drop_eq_getElem_cons hi, (List.getElem?_eq_some_iff.1 hx).2, hitFrom]
theorem span_bound {t : List Thg} {b : List Nat} {most : Int} {k : Nat} (h : spanS t b most = some k) : k ≤ b.length ∧ (b.length : Int) - k ≤ most ∧ likeS t (b.drop k) = true := by
  have gen : ∀ (n i : Nat), i + n = b.length + 1 → spanFrom t b most n i = some k → k ≤ b.length ∧ (b.length : Int) - k ≤ most ∧ likeS t (b.drop k) = true := by
    intro n
    induction n with
    | zero => intro i _ h; cases h
    | succ n ih =>
      intro i hi h
      rw [spanFrom] at h
      split at h
      · rename_i hc
        cases h
        exact ⟨by omega, hc.1, hc.2⟩
      · exact ih (i + 1) (by omega) h
  exact gen _ 0 (by omega) h
theorem from_bound {most : Int} {b : List Nat} {x : Brc} {f : Nat} (h : fromS most b x = some f) : f ≤ b.length ∧ (b.length : Int) - f ≤ most := by
  unfold fromS at h
  split at h
  · split at h
    · rename_i hc
      cases h
      have h2 := hc.2
      unfold endsB at h2
      rw [Bool.and_eq_true, decide_eq_true_eq] at h2
      omega
    · cases h
  · split at h
    · split at h
      · cases h
      · have := span_bound h; omega
    · cases h
theorem hit_bound {most : Int} {b : List Nat} {l : List Brc} {i f : Nat} (h : hitS most b l = some (i, f)) : i < l.length ∧ (∃ x, l[i]? = some x ∧ fromS most b x = some f) ∧ f ≤ b.length ∧ (b.length : Int) - f ≤ most := by
  have gen : ∀ (l : List Brc) (k : Nat), hitFrom most b l k = some (i, f) → k ≤ i ∧ i - k < l.length ∧ ∃ x, l[i - k]? = some x ∧ fromS most b x = some f := by
    intro l
    induction l with
    | nil => intro k h; cases h
    | cons x l ih =>
      intro k h
      rw [hitFrom] at h
      cases hx : fromS most b x with
      | some g =>
        rw [hx] at h
        simp only [Option.some.injEq, Prod.mk.injEq] at h
        obtain ⟨rfl, rfl⟩ := h
        exact ⟨by omega, by simp, x, by simp, hx⟩
      | none =>
        rw [hx] at h
        obtain ⟨h1, h2, y, h3, h4⟩ := ih (k + 1) h
        refine ⟨by omega, by rw [List.length_cons]; omega, y, ?_, h4⟩
        rw [show i - k = (i - (k + 1)) + 1 by omega, List.getElem?_cons_succ]
        exact h3
  obtain ⟨_, h2, x, h3, h4⟩ := gen l 0 h
  obtain ⟨h5, h6⟩ := from_bound h4
  exact ⟨by simpa using h2, ⟨x, by simpa using h3, h4⟩, h5, h6⟩
/-- The first hit: the least number of bytes. -/
theorem first_is {most : Int} {b : List Nat} {l : List Brc} {e i f : Nat} (he : e ≤ b.length) (h : hitS most (b.take e) l = some (i, f)) (hno : ∀ k, k < e → hitS most (b.take k) l = none) : firstHit most b l = some (i, f, e) := by
  have gen : ∀ (n k : Nat), k ≤ e → e < k + n → firstFrom most b l n k = some (i, f, e) := by
    intro n
    induction n with
    | zero => intro k h1 h2; omega
    | succ n ih =>
      intro k h1 h2
      rw [firstFrom]
      by_cases hk : k = e
      · subst hk; rw [h]
      · rw [hno k (by omega)]; exact ih (k + 1) (by omega) (by omega)
  exact gen _ 0 (by omega) (by omega)
theorem first_no {most : Int} {b : List Nat} {l : List Brc} (hno : ∀ k, k ≤ b.length → hitS most (b.take k) l = none) : firstHit most b l = none := by
  have gen : ∀ (n k : Nat), k + n = b.length + 1 → firstFrom most b l n k = none := by
    intro n
    induction n with
    | zero => intro k _; rfl
    | succ n ih =>
      intro k h
      rw [firstFrom, hno k (by omega)]
      exact ih (k + 1) (by omega)
  exact gen _ 0 (by omega)
theorem firstHit_cases (most : Int) (b : List Nat) (l : List Brc) : (∃ i f e, firstHit most b l = some (i, f, e) ∧ e ≤ b.length ∧ hitS most (b.take e) l = some (i, f) ∧ ∀ k, k < e → hitS most (b.take k) l = none) ∨ (firstHit most b l = none ∧ ∀ k, k ≤ b.length → hitS most (b.take k) l = none) := by
  by_cases h : ∃ e, e ≤ b.length ∧ hitS most (b.take e) l ≠ none
  · have hw : ∃ e, (e ≤ b.length ∧ hitS most (b.take e) l ≠ none) ∧ ∀ k, k < e → hitS most (b.take k) l = none := by
      obtain ⟨e0, h0⟩ := h
      induction e0 using Nat.strongRecOn with
      | _ e0 ih =>
        by_cases hj : ∃ k, k < e0 ∧ hitS most (b.take k) l ≠ none
        · obtain ⟨k, hk, hn⟩ := hj
          exact ih k hk ⟨by omega, hn⟩
        · exact ⟨e0, h0, fun k hk => by
            cases hx : hitS most (b.take k) l with
            | none => rfl
            | some p => exact absurd ⟨k, hk, by rw [hx]; simp⟩ hj⟩
    obtain ⟨e, ⟨he, hn⟩, hno⟩ := hw
    cases hx : hitS most (b.take e) l with
    | none => exact absurd hx hn
    | some p =>
      obtain ⟨i, f⟩ := p
      exact .inl ⟨i, f, e, first_is he hx hno, he, hx, hno⟩
  · have hno : ∀ k, k ≤ b.length → hitS most (b.take k) l = none := fun k hk => by
      cases hx : hitS most (b.take k) l with
      | none => rfl
      | some p => exact absurd ⟨k, hk, by rw [hx]; simp⟩ h
    exact .inr ⟨first_no hno, hno⟩
end Go.Proofs.YtcipljpalohjiaaDoor
