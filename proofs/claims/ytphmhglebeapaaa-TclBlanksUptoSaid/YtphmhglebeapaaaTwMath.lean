/-
  How the program goes through a word, in plain lists: told, against the quoted and bare words of TclMath.
  Conditions: none.
-/
import Derived.Test.YtphmhglebeapaaaTRWord
import Derived.Test.YtphmhglebeapaaaTclLs
namespace Go.Proofs.Ytphmhglebeapaaa

/-- Parts up to a byte of a kind that no escape has. -/
def toldS (K : Nat → Bool) (l : List Nat) (i : Nat) (ps : List Prt) : Except (Nat × Nat) (List Prt × Nat) :=
  match l with
  | [] => .ok (ps, i)
  | c :: r =>
    if K c then .ok (ps, i)
    else match oneS (c :: r) i i ps with
      | .error e => .error e
      | .ok (ps', k) => toldS K (r.drop (k - 1)) (i + k) ps'
termination_by l.length
decreasing_by simp; omega
theorem bare_told : ∀ (n : Nat) (l : List Nat), l.length ≤ n → ∀ (i : Nat) (ps : List Prt), bareS l i ps = toldS (fun c => blankB c || endB c) l i ps := by
  intro n
  induction n with
  | zero =>
    intro l hl i ps
    obtain rfl : l = [] := List.length_eq_zero_iff.1 (by omega)
    rw [bareS, toldS]
  | succ n ih =>
    intro l hl i ps
    cases l with
    | nil => rw [bareS, toldS]
    | cons c r =>
      simp only [List.length_cons] at hl
      rw [bareS, toldS]
      split
      · rfl
      · cases ho : oneS (c :: r) i i ps with
        | error e => rfl
        | ok q =>
          obtain ⟨qs, k⟩ := q
          exact ih _ (by rw [List.length_drop]; omega) _ _
/-- Where a word's own place is told in an error, and where not. -/
theorem one_op {l : List Nat} (i op : Nat) (ps : List Prt) : (∀ q, oneS l i i ps = .ok q → oneS l i op ps = .ok q) ∧ (∀ p c, oneS l i i ps = .error (p, c) → p = i ∧ ((c = 5 ∧ oneS l i op ps = .error (op, 5)) ∨ (c ≠ 5 ∧ c ≠ 0 ∧ oneS l i op ps = .error (i, c)))) := by
  cases l with
  | nil => exact ⟨fun q h => h, fun p c h => by cases h⟩
  | cons c r =>
    unfold oneS
    dsimp only
    split
    · split
      · exact ⟨fun q h => (by cases h), fun p c h => by cases h; exact ⟨rfl, .inl ⟨rfl, rfl⟩⟩⟩
      · exact ⟨fun q h => h, fun p c h => by cases h⟩
    · split
      · exact ⟨fun q h => (by cases h), fun p c h => by cases h; exact ⟨rfl, .inr ⟨by omega, by omega, rfl⟩⟩⟩
      · split
        · exact ⟨fun q h => (by cases h), fun p c h => by cases h; exact ⟨rfl, .inr ⟨by omega, by omega, rfl⟩⟩⟩
        · split <;> exact ⟨fun q h => h, fun p c h => by cases h⟩
/-- A quoted word by what told tells. -/
def quotE (st n : Nat) : Except (Nat × Nat) (List Prt × Nat) → Except (Nat × Nat) (List Prt × Nat)
  | .ok (ps, j) => if j = n then .error (st, 5) else .ok (ps, j + 1)
  | .error (p, c) => if c = 5 then .error (st, 5) else .error (p, c)
theorem quot_told : ∀ (n st : Nat) (l : List Nat), l.length ≤ n → ∀ (i : Nat) (ps : List Prt), quotS st l i ps = quotE st (i + l.length) (toldS (fun c => decide (c = 34)) l i ps) := by
  intro n
  induction n with
  | zero =>
    intro st l hl i ps
    obtain rfl : l = [] := List.length_eq_zero_iff.1 (by omega)
    rw [quotS, toldS]; simp [quotE]
  | succ n ih =>
    intro st l hl i ps
    cases l with
    | nil => rw [quotS, toldS]; simp [quotE]
    | cons c r =>
      simp only [List.length_cons] at hl
      rw [quotS, toldS]
      by_cases hc : c = 34
      · rw [if_pos hc, if_pos (by simpa using hc)]; simp [quotE]
      · rw [if_neg hc, if_neg (by simpa using hc)]
        cases ho : oneS (c :: r) i i ps with
        | error e =>
          obtain ⟨p, x⟩ := e
          obtain ⟨rfl, h⟩ := (one_op i st ps).2 p x ho
          rcases h with ⟨rfl, h⟩ | ⟨h1, h2, h⟩
          · rw [h]; simp [quotE]
          · rw [h]; simp [quotE, h1]
        | ok q =>
          obtain ⟨qs, k⟩ := q
          rw [(one_op i st ps).1 _ ho]
          dsimp only
          have hp := oneS_pos ho (by simp)
          simp only [List.length_cons] at hp
          rw [ih st _ (by rw [List.length_drop]; omega), List.length_drop, List.length_cons, show i + k + (r.length - (k - 1)) = i + (r.length + 1) by omega]
/-- How far told goes, and what it finds there. -/
theorem told_le : ∀ (n : Nat) (K : Nat → Bool) (l : List Nat), l.length ≤ n → ∀ (i : Nat) (ps ps' : List Prt) (j : Nat), toldS K l i ps = .ok (ps', j) → i ≤ j ∧ j ≤ i + l.length := by
  intro n
  induction n with
  | zero =>
    intro K l hl i ps ps' j h
    obtain rfl : l = [] := List.length_eq_zero_iff.1 (by omega)
    rw [toldS] at h; cases h; simp
  | succ n ih =>
    intro K l hl i ps ps' j h
    cases l with
    | nil => rw [toldS] at h; cases h; simp
    | cons c r =>
      simp only [List.length_cons] at hl
      rw [toldS] at h
      split at h
      · cases h; simp
      · cases ho : oneS (c :: r) i i ps with
        | error e => rw [ho] at h; cases h
        | ok q =>
          obtain ⟨qs, k⟩ := q
          rw [ho] at h
          dsimp only at h
          have hp := oneS_pos ho (by simp)
          have := ih K _ (by rw [List.length_drop]; omega) _ _ _ _ h
          rw [List.length_drop] at this
          simp only [List.length_cons] at hp ⊢
          omega
theorem told_out {K : Nat → Bool} {l : List Nat} {i : Nat} (h : l.length ≤ i) (ps : List Prt) : toldS K (l.drop i) i ps = .ok (ps, i) := by
  rw [List.drop_of_length_le h, toldS]
theorem told_end {K : Nat → Bool} {l : List Nat} {i c : Nat} (h : l[i]? = some c) (h1 : K c = true) (ps : List Prt) : toldS K (l.drop i) i ps = .ok (ps, i) := by
  rw [dropc h, toldS, if_pos h1]
theorem told_bad {K : Nat → Bool} {l : List Nat} {i c : Nat} (h : l[i]? = some c) (h1 : K c = false) {ps : List Prt} {e : Nat × Nat} (ho : oneS (l.drop i) i i ps = .error e) : toldS K (l.drop i) i ps = .error e := by
  rw [dropc h] at ho ⊢
  rw [toldS, if_neg (by simp [h1]), ho]
theorem told_step {K : Nat → Bool} {l : List Nat} {i c : Nat} (h : l[i]? = some c) (h1 : K c = false) {k : Nat} {ps qs : List Prt} (ho : oneS (l.drop i) i i ps = .ok (qs, k)) : toldS K (l.drop i) i ps = toldS K (l.drop (i + k)) (i + k) qs := by
  have hk := oneS_pos ho (by rw [dropc h]; simp)
  rw [dropc h] at ho ⊢
  rw [toldS, if_neg (by simp [h1]), ho]
  dsimp only
  rw [List.drop_drop, show i + 1 + (k - 1) = i + k by omega]

/-- Parts that are gathered: a list that ends in no text, and the text that goes on yet. -/
def flatG (ps : List Prt) (row : List Nat) : List Prt := if row = [] then ps else ps ++ [⟨false, row⟩]
theorem flatG_nil (ps : List Prt) : flatG ps [] = ps := rfl
theorem flatG_add {ps : List Prt} (h : openP ps) (row : List Nat) (c : Nat) : addP (flatG ps row) c = flatG ps (row ++ [c]) := by
  unfold flatG
  rw [if_neg (by simp : ¬ row ++ [c] = [])]
  by_cases hr : row = []
  · rw [if_pos hr, addP_open h, hr, List.nil_append]
  · rw [if_neg hr, addP_text]
end Go.Proofs.Ytphmhglebeapaaa
