/-
  Quotes in plain lists of bytes: what is plain, the octal digits, what an escape tells, what is quoted and unquoted; that one undoes the other.
  Conditions: none.
-/
import Init
namespace Go.Proofs.Yteapcahpkapbbaa

/-- A plain byte; a name's byte. -/
def plain (c : Nat) : Bool := decide (32 ≤ c ∧ c ≤ 126 ∧ c ≠ 34 ∧ c ≠ 35 ∧ c ≠ 36 ∧ c ≠ 59 ∧ c ≠ 91 ∧ c ≠ 92 ∧ c ≠ 93 ∧ c ≠ 123 ∧ c ≠ 125)
def nameB (c : Nat) : Bool := decide (65 ≤ c ∧ c ≤ 90 ∨ 97 ≤ c ∧ c ≤ 122 ∨ 48 ≤ c ∧ c ≤ 57 ∨ c = 95)
/-- A backslash and three digits. -/
def octs (c : Nat) : List Nat := [92, 48 + c / 64, 48 + c / 8 % 8, 48 + c % 8]
/-- An octal digit. -/
def octd (c : Nat) : Bool := decide (48 ≤ c ∧ c ≤ 55)
/-- What digits tell, up to n of them, and how many. -/
def digs : Nat → Nat → List Nat → Nat × Nat
  | 0, x, _ => (x, 0)
  | _ + 1, x, [] => (x, 0)
  | n + 1, x, c :: r => if octd c then ((digs n (8 * x + (c - 48)) r).1, (digs n (8 * x + (c - 48)) r).2 + 1) else (x, 0)
/-- The byte of a letter behind a backslash. -/
def letter (c : Nat) : Nat := if c = 110 then 10 else if c = 116 then 9 else if c = 114 then 13 else c
/-- What stands behind a backslash: the byte, and how many it takes. -/
def escL (r : List Nat) : Nat × Nat :=
  if (digs 3 0 r).2 = 0 then (letter (r.headD 0), 1) else ((digs 3 0 r).1 % 256, (digs 3 0 r).2)
/-- Escape: the byte, the place, the error. -/
def escape (l : List Nat) (at_ : Int) : Nat × Nat × Nat :=
  if 0 ≤ at_ ∧ at_ < l.length ∧ l[at_.toNat]? = some 92 then
    if at_.toNat + 1 = l.length then (0, 0, 5) else ((escL (l.drop (at_.toNat + 1))).1, at_.toNat + 1 + (escL (l.drop (at_.toNat + 1))).2, 0)
  else (0, 0, 3)
/-- What a byte is between quotes. -/
def qb (c : Nat) : List Nat := if plain c then [c] else octs c
def quoteL (b : List Nat) : List Nat := [34] ++ b.flatMap qb ++ [34]
/-- A name's byte comes first. -/
def nameNext : List Nat → Bool
  | [] => false
  | d :: _ => nameB d
/-- What stands behind the first quote, from place i on, with what was told ahead. -/
def unS (l : List Nat) (i : Nat) (out : List Nat) : List Nat × Nat × Nat :=
  match l with
  | [] => ([], 0, 5)
  | c :: r =>
    if c = 34 then (if r = [] then (out, 0, 0) else ([], i + 1, 4))
    else if c = 91 then ([], i, 4)
    else if c = 36 ∧ nameNext r = true then ([], i, 4)
    else if c = 92 then (if r = [] then ([], 0, 5) else unS (r.drop (escL r).2) (i + 1 + (escL r).2) (out ++ [(escL r).1]))
    else unS r (i + 1) (out ++ [c])
termination_by l.length
decreasing_by
  · simp; omega
  · simp
def unquoteL (l : List Nat) : List Nat × Nat × Nat :=
  match l with
  | [] => ([], 0, 4)
  | c :: r => if c = 34 then unS r 1 [] else ([], 0, 4)

theorem octs_len (c : Nat) : (octs c).length = 4 := rfl
theorem octs_byte {c : Nat} (h : c < 256) : ∀ x ∈ octs c, x < 256 := by
  intro x hx
  simp only [octs, List.mem_cons, List.not_mem_nil, or_false] at hx
  omega
theorem qb_len (c : Nat) : 1 ≤ (qb c).length ∧ (qb c).length ≤ 4 := by unfold qb; split <;> simp [octs]
theorem qb_byte {c : Nat} (h : c < 256) : ∀ x ∈ qb c, x < 256 := by
  unfold qb
  split
  · intro x hx; rw [List.mem_singleton.1 hx]; exact h
  · exact octs_byte h
theorem flat_len (b : List Nat) : b.length ≤ (b.flatMap qb).length ∧ (b.flatMap qb).length ≤ 4 * b.length := by
  induction b with
  | nil => simp
  | cons c b ih =>
    have := qb_len c
    rw [List.flatMap_cons, List.length_append, List.length_cons]
    omega
theorem flat_byte {b : List Nat} (h : ∀ c ∈ b, c < 256) : ∀ x ∈ b.flatMap qb, x < 256 := by
  intro x hx
  obtain ⟨c, hc, hx⟩ := List.mem_flatMap.1 hx
  exact qb_byte (h c hc) x hx
theorem quoteL_len (b : List Nat) : (quoteL b).length = (b.flatMap qb).length + 2 := by simp [quoteL]
theorem quoteL_byte {b : List Nat} (h : ∀ c ∈ b, c < 256) : ∀ x ∈ quoteL b, x < 256 := by
  intro x hx
  simp only [quoteL, List.mem_append, List.mem_singleton] at hx
  rcases hx with (rfl | hx) | rfl
  · omega
  · exact flat_byte h x hx
  · omega
theorem digs_le : ∀ (n x : Nat) (l : List Nat), (digs n x l).2 ≤ n ∧ (digs n x l).2 ≤ l.length
  | 0, _, _ => by simp [digs]
  | _ + 1, _, [] => by simp [digs]
  | n + 1, x, c :: r => by
    unfold digs
    split
    · have := digs_le n (8 * x + (c - 48)) r
      simp only [List.length_cons]; omega
    · simp
theorem letter_byte {c : Nat} (h : c < 256) : letter c < 256 := by unfold letter; split <;> (try split) <;> (try split) <;> omega
theorem escL_byte {r : List Nat} (h : ∀ c ∈ r, c < 256) : (escL r).1 < 256 := by
  unfold escL
  split
  · cases r with
    | nil => simp [letter]
    | cons c r => exact letter_byte (h c (by simp))
  · dsimp only; omega
theorem escL_pos (r : List Nat) : 1 ≤ (escL r).2 ∧ (escL r).2 ≤ 3 := by
  unfold escL
  have := digs_le 3 0 r
  split <;> dsimp only <;> omega
theorem escL_fits {r : List Nat} (h : r ≠ []) : (escL r).2 ≤ r.length := by
  have h1 := List.length_pos_iff.2 h
  unfold escL
  have := digs_le 3 0 r
  split <;> dsimp only <;> omega
theorem octd_digit (x : Nat) : octd (48 + x % 8) = true := by simp [octd]; omega
/-- Octal digits tell their byte. -/
theorem escL_octs {c : Nat} (h : c < 256) (r : List Nat) : escL ((octs c).tail ++ r) = (c, 3) := by
  have h1 : octd (48 + c / 64) = true := by simp [octd]; omega
  have h2 : octd (48 + c / 8 % 8) = true := octd_digit _
  have h3 : octd (48 + c % 8) = true := octd_digit _
  have e : digs 3 0 ((octs c).tail ++ r) = (8 * (8 * (8 * 0 + (48 + c / 64 - 48)) + (48 + c / 8 % 8 - 48)) + (48 + c % 8 - 48), 3) := by
    simp only [octs, List.tail_cons, List.cons_append, List.nil_append, digs, h1, h2, h3, if_true]
  unfold escL
  rw [e]
  simp only [Nat.reduceEqDiff, if_false]
  congr 1
  omega
theorem octs_eq (c : Nat) : octs c = 92 :: (octs c).tail := rfl
theorem plain_not {c : Nat} (h : plain c = true) : c ≠ 34 ∧ c ≠ 91 ∧ c ≠ 36 ∧ c ≠ 92 := by
  simp only [plain, decide_eq_true_eq] at h
  omega
theorem unS_plain {c : Nat} (h : c ≠ 34 ∧ c ≠ 91 ∧ c ≠ 36 ∧ c ≠ 92) (r : List Nat) (i : Nat) (out : List Nat) : unS (c :: r) i out = unS r (i + 1) (out ++ [c]) := by
  rw [unS, if_neg h.1, if_neg h.2.1, if_neg (fun e => h.2.2.1 e.1), if_neg h.2.2.2]
theorem unS_octs {c : Nat} (h : c < 256) (r : List Nat) (i : Nat) (out : List Nat) : unS (octs c ++ r) i out = unS r (i + 4) (out ++ [c]) := by
  rw [octs_eq, List.cons_append, unS, if_neg (by omega), if_neg (by omega), if_neg (fun e => by omega), if_pos rfl, if_neg (by simp [octs]), escL_octs h]
  rfl
theorem unS_qb {c : Nat} (h : c < 256) (r : List Nat) (i : Nat) (out : List Nat) : ∃ j, unS (qb c ++ r) i out = unS r j (out ++ [c]) := by
  unfold qb
  by_cases hp : plain c = true
  · rw [if_pos hp]; exact ⟨i + 1, unS_plain (plain_not hp) r i out⟩
  · rw [if_neg hp]; exact ⟨i + 4, unS_octs h r i out⟩
theorem unS_flat : ∀ (b : List Nat), (∀ c ∈ b, c < 256) → ∀ (i : Nat) (out : List Nat), unS (b.flatMap qb ++ [34]) i out = (out ++ b, 0, 0)
  | [], _, i, out => by simp [unS]
  | c :: b, h, i, out => by
    obtain ⟨j, hj⟩ := unS_qb (h c (by simp)) (b.flatMap qb ++ [34]) i out
    rw [List.flatMap_cons, List.append_assoc, hj, unS_flat b (fun x hx => h x (List.mem_cons_of_mem _ hx))]
    simp
/-- What is quoted is unquoted. -/
theorem unquote_quote {b : List Nat} (h : ∀ c ∈ b, c < 256) : unquoteL (quoteL b) = (b, 0, 0) := by
  show unS (b.flatMap qb ++ [34]) 1 [] = _
  rw [unS_flat b h]; rfl
/-- Between the quotes stand plain bytes and backslashes alone. -/
theorem quote_inside {b : List Nat} (h : ∀ c ∈ b, c < 256) : ∀ x ∈ b.flatMap qb, x = 92 ∨ plain x = true := by
  intro x hx
  obtain ⟨c, hc, hx⟩ := List.mem_flatMap.1 hx
  have hcb := h c hc
  unfold qb at hx
  split at hx
  · rw [List.mem_singleton.1 hx]; exact .inr ‹_›
  · simp only [octs, List.mem_cons, List.not_mem_nil, or_false] at hx
    rcases hx with rfl | rfl | rfl | rfl
    · exact .inl rfl
    · right; simp only [plain, decide_eq_true_eq]; omega
    · right; simp only [plain, decide_eq_true_eq]; omega
    · right; simp only [plain, decide_eq_true_eq]; omega
theorem quote_join (a b : List Nat) : quoteL (a ++ b) = (quoteL a).take ((quoteL a).length - 1) ++ (quoteL b).drop 1 := by
  have e1 : (quoteL a).take ((quoteL a).length - 1) = [34] ++ a.flatMap qb := by
    unfold quoteL
    rw [List.take_append_of_le_length (by simp)]
    rw [List.take_of_length_le (by simp)]
  have e2 : (quoteL b).drop 1 = b.flatMap qb ++ [34] := rfl
  rw [e1, e2]
  simp [quoteL]
/-- Bytes without a meaning tell themselves. -/
theorem unS_none : ∀ (s r : List Nat), (∀ c ∈ s, c ≠ 34 ∧ c ≠ 91 ∧ c ≠ 36 ∧ c ≠ 92) → ∀ (i : Nat) (out : List Nat), unS (s ++ r) i out = unS r (i + s.length) (out ++ s)
  | [], r, _, i, out => by simp
  | c :: s, r, h, i, out => by
    rw [List.cons_append, unS_plain (h c (by simp)), unS_none s r (fun x hx => h x (List.mem_cons_of_mem _ hx))]
    congr 1
    · simp only [List.length_cons]; omega
    · simp
theorem unS_byte : ∀ (n : Nat) (l : List Nat), l.length ≤ n → ∀ (i : Nat) (out : List Nat), (∀ c ∈ l, c < 256) → (∀ c ∈ out, c < 256) → ∀ c ∈ (unS l i out).1, c < 256 := by
  intro n
  induction n with
  | zero =>
    intro l hl i out _ _ c hc
    have : l = [] := List.length_eq_zero_iff.1 (by omega)
    subst this
    simp [unS] at hc
  | succ n ih =>
    intro l hl i out h1 h2 c hc
    cases l with
    | nil => simp [unS] at hc
    | cons d r =>
      have hr : ∀ c ∈ r, c < 256 := fun x hx => h1 x (List.mem_cons_of_mem _ hx)
      simp only [List.length_cons] at hl
      rw [unS] at hc
      split at hc
      · split at hc
        · exact h2 c hc
        · cases hc
      · split at hc
        · cases hc
        · split at hc
          · cases hc
          · split at hc
            · split at hc
              · cases hc
              · refine ih _ (by rw [List.length_drop]; omega) _ _ (fun x hx => hr x (List.mem_of_mem_drop hx)) (fun x hx => ?_) c hc
                rcases List.mem_append.1 hx with hx | hx
                · exact h2 x hx
                · rw [List.mem_singleton.1 hx]; exact escL_byte hr
            · refine ih r (by omega) _ _ hr (fun x hx => ?_) c hc
              rcases List.mem_append.1 hx with hx | hx
              · exact h2 x hx
              · rw [List.mem_singleton.1 hx]; exact h1 d (by simp)
theorem unquote_byte {l : List Nat} (h : ∀ c ∈ l, c < 256) : ∀ c ∈ (unquoteL l).1, c < 256 := by
  cases l with
  | nil => simp [unquoteL]
  | cons d r =>
    unfold unquoteL
    dsimp only
    split
    · exact unS_byte r.length r (Nat.le_refl _) 1 [] (fun x hx => h x (List.mem_cons_of_mem _ hx)) (by simp)
    · simp
end Go.Proofs.Yteapcahpkapbbaa
