/-
  The way from behind, in plain lists: rows of things that are like one byte each, with any bytes between each two; the greatest place from which on rows fit to a text's end, row by row from the last one; the least place of the first.
  Conditions: none.
-/
import Derived.Test.YtcipljpalohjiaaDoorGlLs
namespace Go.Proofs.YtcipljpalohjiaaDoor

/-- Things out of rows: any bytes between each two. -/
def joinR : List (List Thg) → List Thg
  | [] => []
  | [r] => r
  | r :: s :: rs => r ++ starT :: joinR (s :: rs)
theorem joinR_one (r : List Thg) : joinR [r] = r := rfl
theorem joinR_cons (r : List Thg) {rs : List (List Thg)} (h : rs ≠ []) : joinR (r :: rs) = r ++ starT :: joinR rs := by
  cases rs with
  | nil => exact absurd rfl h
  | cons s rs => rfl
theorem joinR_snoc (ll : List (List Thg)) (r : List Thg) : joinR (ll ++ [r]) = (ll.flatMap fun s => s ++ [starT]) ++ r := by
  induction ll with
  | nil => rfl
  | cons s ll ih => rw [List.cons_append, joinR_cons s (by simp), ih, List.flatMap_cons]; simp
theorem joinR_star (ll : List (List Thg)) (r : List Thg) : joinR ((ll ++ [r]) ++ [[]]) = joinR (ll ++ [r]) ++ [starT] := by
  rw [joinR_snoc, joinR_snoc]; simp
theorem joinR_push (ll : List (List Thg)) (r : List Thg) (x : Thg) : joinR (ll ++ [r ++ [x]]) = joinR (ll ++ [r]) ++ [x] := by
  rw [joinR_snoc, joinR_snoc]; simp

/-- A row is like the bytes from a place on. -/
def sitB : List Thg → List Nat → Bool
  | [], _ => true
  | x :: r, c :: t => x.one c && sitB r t
  | _ :: _, [] => false
theorem sit_at : ∀ {r : List Thg} {t : List Nat}, r.length ≤ t.length → (sitB r t = true ↔ ∀ (j : Nat) (x : Thg), r[j]? = some x → x.one (t.getD j 0) = true)
  | [], t, _ => by simp [sitB]
  | x :: r, [], h => by simp at h
  | x :: r, c :: t, h => by
    rw [sitB, Bool.and_eq_true, sit_at (r := r) (t := t) (by simpa using h)]
    constructor
    · rintro ⟨h1, h2⟩ j y hj
      cases j with
      | zero => simp at hj; subst hj; simpa using h1
      | succ j => simpa using h2 j y (by simpa using hj)
    · intro h1
      exact ⟨by simpa using h1 0 x rfl, fun j y hj => by simpa using h1 (j + 1) y (by simpa using hj)⟩
theorem sit_len : ∀ {r : List Thg} {t : List Nat}, sitB r t = true → r.length ≤ t.length
  | [], _, _ => by simp
  | x :: r, [], h => by simp [sitB] at h
  | x :: r, c :: t, h => by
    rw [sitB, Bool.and_eq_true] at h
    have := sit_len h.2
    simpa using this
/-- A row of single things, and what stands behind. -/
theorem like_row : ∀ (r R : List Thg) (t : List Nat), (∀ x ∈ r, x.any = false) → (likeS (r ++ R) t = true ↔ sitB r t = true ∧ likeS R (t.drop r.length) = true)
  | [], R, t, _ => by simp [sitB]
  | x :: r, R, t, hs => by
    rw [List.cons_append, like_one (hs x (by simp))]
    cases t with
    | nil => simp [sitB]
    | cons c t =>
      rw [sitB, Bool.and_eq_true]
      have ih := like_row r R t fun y hy => hs y (by simp [hy])
      constructor
      · rintro ⟨d, u, e, h1, h2⟩
        cases e
        rw [ih] at h2
        exact ⟨⟨h1, h2.1⟩, by simpa using h2.2⟩
      · rintro ⟨⟨h1, h2⟩, h3⟩
        exact ⟨c, t, rfl, h1, ih.2 ⟨h2, by simpa using h3⟩⟩

/-- Rows fit from a place on to the text's end. -/
def Fits (rs : List (List Thg)) (t : List Nat) (k : Nat) : Prop := k ≤ t.length ∧ likeS (joinR rs) (t.drop k) = true
/-- The greatest such place. -/
structure Top (rs : List (List Thg)) (t : List Nat) (e : Nat) : Prop where
  fits : Fits rs t e
  most : ∀ k, Fits rs t k → k ≤ e
/-- Only single things. -/
def Sgl (rs : List (List Thg)) : Prop := ∀ r ∈ rs, ∀ x ∈ r, x.any = false

section
variable {r : List Thg} {rs : List (List Thg)} {t : List Nat} {k e : Nat}
theorem Sgl.tail (h : Sgl (r :: rs)) : Sgl rs := fun s hs => h s (by simp [hs])
theorem Sgl.head (h : Sgl (r :: rs)) : ∀ x ∈ r, x.any = false := h r (by simp)
theorem Sgl.drop (h : Sgl rs) (i : Nat) : Sgl (rs.drop i) := fun s hs => h s (List.mem_of_mem_drop hs)
theorem fits_one (h : ∀ x ∈ r, x.any = false) : Fits [r] t k ↔ k + r.length = t.length ∧ sitB r (t.drop k) = true := by
  unfold Fits
  rw [joinR_one, show r = r ++ [] by simp, like_row r [] _ h, like_nil, List.drop_drop, List.drop_eq_nil_iff]
  simp only [List.append_nil]
  constructor
  · rintro ⟨h1, h2, h3⟩
    have := sit_len h2
    rw [List.length_drop] at this
    exact ⟨by omega, h2⟩
  · rintro ⟨h1, h2⟩
    exact ⟨by omega, h2, by omega⟩
theorem fits_cons (h : ∀ x ∈ r, x.any = false) (hr : rs ≠ []) : Fits (r :: rs) t k ↔ k ≤ t.length ∧ sitB r (t.drop k) = true ∧ ∃ j, k + r.length ≤ j ∧ Fits rs t j := by
  unfold Fits
  rw [joinR_cons r hr, like_row r _ _ h, like_star_cons]
  constructor
  · rintro ⟨h1, h2, i, hi, h3⟩
    have := sit_len h2
    rw [List.length_drop] at this
    rw [List.drop_drop, List.length_drop] at hi
    rw [List.drop_drop, List.drop_drop, ← Nat.add_assoc] at h3
    exact ⟨h1, h2, k + r.length + i, by omega, by omega, h3⟩
  · rintro ⟨h1, h2, j, hj, hjl, h3⟩
    refine ⟨h1, h2, j - (k + r.length), ?_, ?_⟩
    · rw [List.drop_drop, List.length_drop]; omega
    · rw [List.drop_drop, List.drop_drop, show k + (r.length + (j - (k + r.length))) = j by omega]
      exact h3
theorem Top.cons (h : Top rs t e) (hs : ∀ x ∈ r, x.any = false) (hr : rs ≠ []) : Fits (r :: rs) t k ↔ sitB r (t.drop k) = true ∧ k + r.length ≤ e := by
  have he := h.fits.1
  rw [fits_cons hs hr]
  constructor
  · rintro ⟨h1, h2, j, hj, hf⟩
    exact ⟨h2, by have := h.most j hf; omega⟩
  · rintro ⟨h2, h3⟩
    exact ⟨by omega, h2, e, h3, h.fits⟩
/-- The last row. -/
theorem Top.last (hs : ∀ x ∈ r, x.any = false) (hk : k + r.length = t.length) (h : sitB r (t.drop k) = true) : Top [r] t k :=
  ⟨(fits_one hs).2 ⟨hk, h⟩, fun j hj => by have := ((fits_one hs).1 hj).1; omega⟩
theorem no_last (hs : ∀ x ∈ r, x.any = false) (h : t.length < r.length ∨ ∃ k, k + r.length = t.length ∧ sitB r (t.drop k) = false) : ∀ k, ¬ Fits [r] t k := by
  intro k hk
  obtain ⟨h1, h2⟩ := (fits_one hs).1 hk
  rcases h with h | ⟨j, hj, h⟩
  · omega
  · obtain rfl : j = k := by omega
    rw [h] at h2; cases h2
/-- A row more ahead, at the greatest place that lets be the others. -/
theorem Top.step (h : Top rs t e) (hs : ∀ x ∈ r, x.any = false) (hr : rs ≠ []) (hk : k + r.length ≤ e) (hf : sitB r (t.drop k) = true) (hno : ∀ j, k < j → j + r.length ≤ e → sitB r (t.drop j) = false) : Top (r :: rs) t k :=
  ⟨(h.cons hs hr).2 ⟨hf, hk⟩, fun j hj => by
    obtain ⟨h1, h2⟩ := (h.cons hs hr).1 hj
    rcases Nat.lt_or_ge k j with h3 | h3
    · rw [hno j h3 h2] at h1; cases h1
    · exact h3⟩
theorem Top.none (h : Top rs t e) (hs : ∀ x ∈ r, x.any = false) (hr : rs ≠ []) (hno : ∀ j, j + r.length ≤ e → sitB r (t.drop j) = false) : ∀ k, ¬ Fits (r :: rs) t k := by
  intro k hk
  obtain ⟨h1, h2⟩ := (h.cons hs hr).1 hk
  rw [hno k h2] at h1; cases h1
theorem no_more (hs : ∀ x ∈ r, x.any = false) (hr : rs ≠ []) (h : ∀ k, ¬ Fits rs t k) : ∀ k, ¬ Fits (r :: rs) t k := by
  intro k hk
  obtain ⟨_, _, j, _, hj⟩ := (fits_cons hs hr).1 hk
  exact h j hj
end
/-- No place for the last rows: none for all. -/
theorem no_drop {ll : List (List Thg)} {t : List Nat} (hs : Sgl ll) : ∀ {i : Nat}, i < ll.length → (∀ k, ¬ Fits (ll.drop i) t k) → ∀ k, ¬ Fits ll t k
  | 0, _, h => by simpa using h
  | i + 1, hi, h => by
    refine no_drop hs (i := i) (by omega) ?_
    rw [List.drop_eq_getElem_cons (by omega)]
    exact no_more (hs _ (List.getElem_mem _)) (by intro e; rw [List.drop_eq_nil_iff] at e; omega) h

/-! ### The first place -/
def firstS (l : List Thg) (t : List Nat) : Option Nat := spanS l t (t.length : Nat)
theorem spanFrom_no {l : List Thg} {t : List Nat} {most : Int} : ∀ {n i : Nat}, (∀ k, i ≤ k → k < i + n → ¬ ((t.length : Int) - k ≤ most ∧ likeS l (t.drop k) = true)) → spanFrom l t most n i = none
  | 0, _, _ => rfl
  | n + 1, i, h => by
    rw [spanFrom, if_neg (h i (Nat.le_refl _) (by omega))]
    exact spanFrom_no fun k hk hk2 => h k (by omega) (by omega)
theorem first_some {ll : List (List Thg)} {t : List Nat} {k : Nat} (h : Fits ll t k) (hno : ∀ j, j < k → ¬ Fits ll t j) : firstS (joinR ll) t = some k := by
  have := h.1
  exact spanFrom_first (by omega) (by omega) ⟨by omega, h.2⟩ fun j _ hj hf => hno j hj ⟨by omega, hf.2⟩
theorem first_none {ll : List (List Thg)} {t : List Nat} (h : ∀ k, ¬ Fits ll t k) : firstS (joinR ll) t = none :=
  spanFrom_no fun k _ hk hf => h k ⟨by omega, hf.2⟩
/-- What is told: either there is a first place, or none. -/
theorem first_cases (l : List Thg) (t : List Nat) : (∃ k, firstS l t = some k ∧ k ≤ t.length ∧ likeS l (t.drop k) = true ∧ ∀ j, j < k → likeS l (t.drop j) = false) ∨ (firstS l t = none ∧ ∀ k, k ≤ t.length → likeS l (t.drop k) = false) := by
  by_cases h : ∃ k, k ≤ t.length ∧ likeS l (t.drop k) = true
  · obtain ⟨k, hk, hno⟩ : ∃ k, (k ≤ t.length ∧ likeS l (t.drop k) = true) ∧ ∀ j, j < k → ¬ (j ≤ t.length ∧ likeS l (t.drop j) = true) := by
      obtain ⟨k0, h0⟩ := h
      induction k0 using Nat.strongRecOn with
      | _ k0 ih =>
        by_cases hj : ∃ j, j < k0 ∧ j ≤ t.length ∧ likeS l (t.drop j) = true
        · obtain ⟨j, hj, h1⟩ := hj
          exact ih j hj h1
        · exact ⟨k0, h0, fun j hj2 h1 => hj ⟨j, hj2, h1⟩⟩
    refine .inl ⟨k, spanFrom_first (by omega) (by omega) ⟨by omega, hk.2⟩ fun j _ hj hf => hno j hj ⟨by omega, hf.2⟩, hk.1, hk.2, fun j hj => ?_⟩
    rw [← Bool.not_eq_true]
    exact fun hf => hno j hj ⟨by omega, hf⟩
  · refine .inr ⟨spanFrom_no fun k _ hk hf => h ⟨k, by omega, hf.2⟩, fun k hk => ?_⟩
    rw [← Bool.not_eq_true]
    exact fun hf => h ⟨k, hk, hf⟩
/-- Of a text's last bytes. -/
theorem span_of_first {l : List Thg} {t : List Nat} {most : Int} (h0 : 0 ≤ most) {f : Nat} (hf : (f : Int) = max 0 ((t.length : Int) - most)) : spanS l t most = (firstS l (t.drop f)).map (f + ·) := by
  have hfl : f ≤ t.length := by omega
  rcases first_cases l (t.drop f) with ⟨k, e, hk, hl, hno⟩ | ⟨e, hno⟩
  · rw [e]
    rw [List.length_drop] at hk
    rw [List.drop_drop] at hl
    show spanS l t most = some (f + k)
    refine spanFrom_first (by omega) (by omega) ⟨by omega, hl⟩ fun j _ hj hp => ?_
    have := hno (j - f) (by omega)
    rw [List.drop_drop, show f + (j - f) = j by omega, hp.2] at this
    cases this
  · rw [e]
    refine spanFrom_no fun j _ hj hp => ?_
    have := hno (j - f) (by rw [List.length_drop]; omega)
    rw [List.drop_drop, show f + (j - f) = j by omega, hp.2] at this
    cases this
theorem span_neg {l : List Thg} {t : List Nat} {most : Int} (h0 : most < 0) : spanS l t most = none :=
  spanFrom_no fun k _ hk hp => by omega
/-- The whole text: its first place is 0. -/
theorem first_zero {l : List Thg} {t : List Nat} : firstS l t = some 0 ↔ likeS l t = true := by
  rcases first_cases l t with ⟨k, e, hk, hl, hno⟩ | ⟨e, hno⟩
  · rw [e]
    constructor
    · intro h; cases h; simpa using hl
    · intro h
      cases k with
      | zero => rfl
      | succ k => have := hno 0 (by omega); rw [List.drop_zero, h] at this; cases this
  · rw [e]
    have := hno 0 (by omega)
    rw [List.drop_zero] at this
    simp [this]

/-! ### How long rows are -/
theorem things_len : ∀ (n : Nat) (p : List Nat) (l : List Thg), p.length ≤ n → thingsS p = some l → l.length ≤ p.length := by
  intro n
  induction n with
  | zero =>
    intro p l hn h
    obtain rfl : p = [] := List.eq_nil_of_length_eq_zero (by omega)
    rw [things_nil] at h
    cases h
    simp
  | succ n ih =>
    intro p l hn h
    cases p with
    | nil => rw [things_nil] at h; cases h; simp
    | cons c r =>
      simp only [List.length_cons] at hn ⊢
      have fin : ∀ (x : Thg) (r' : List Nat), r'.length ≤ r.length → (thingsS r').map (x :: ·) = some l → l.length ≤ r.length + 1 := by
        intro x r' hr' h
        cases hm : thingsS r' with
        | none => rw [hm] at h; cases h
        | some m =>
          rw [hm] at h
          cases h
          have := ih r' m (by omega) hm
          simp
          omega
      rw [thingsS] at h
      split at h
      · exact fin _ _ (by omega) h
      split at h
      · exact fin _ _ (by omega) h
      split at h
      · split at h
        · cases h
        · exact fin _ _ (by rw [List.length_drop]; omega) h
      split at h
      · split at h
        · cases h
        · exact fin _ _ (by rw [List.length_drop]; omega) h
      exact fin _ _ (by omega) h
theorem joinR_len : ∀ (ll : List (List Thg)), ll.length ≤ (joinR ll).length + 1 ∧ ∀ r ∈ ll, r.length ≤ (joinR ll).length
  | [] => by simp [joinR]
  | [r] => by simp [joinR]
  | r :: s :: rs => by
    have ih := joinR_len (s :: rs)
    rw [joinR_cons r (by simp), List.length_append, List.length_cons (as := joinR (s :: rs))]
    refine ⟨by have := ih.1; simp only [List.length_cons] at *; omega, fun q hq => ?_⟩
    rcases List.mem_cons.1 hq with rfl | hq
    · omega
    · have := ih.2 q hq; omega

/-! ### What is answered -/
/-- A pattern's error. -/
def errS (p : List Nat) : Nat := if 1024 < p.length then 6 else if (thingsS p).isNone then 4 else 0
/-- Is a pattern right, and a text like it? -/
def okS (p t : List Nat) : Bool := decide (p.length ≤ 1024) && match thingsS p with | none => false | some l => likeS l t
/-- The first place. -/
def placeS (p t : List Nat) (most : Int) : Option Nat := if 1024 < p.length then none else match thingsS p with | none => none | some l => spanS l t most
end Go.Proofs.YtcipljpalohjiaaDoor
