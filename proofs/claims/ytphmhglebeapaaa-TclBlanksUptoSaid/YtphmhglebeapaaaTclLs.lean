/-
  A script's commands in plain lists of bytes: how they are parsed and printed, what is wrong with a text, and that one undoes the other.
  Conditions: those of each theorem.
-/
import Derived.Test.YtphmhglebeapaaaQMath
namespace Go.Proofs.Ytphmhglebeapaaa

/-- A part: a text, or a variable's name; a word; a command. -/
structure Prt where
  var : Bool
  s : List Nat
structure Wrd where
  at_ : Int
  kind : Int
  parts : List Prt
structure Cmd where
  at_ : Int
  words : List Wrd
theorem Prt.ext_ {a b : Prt} (h1 : a.var = b.var) (h2 : a.s = b.s) : a = b := by cases a; cases b; simp_all

def blankB (c : Nat) : Bool := decide (c = 9 ∨ c = 32)
def endB (c : Nat) : Bool := decide (c = 10 ∨ c = 59)
/-- No byte, a blank or an end comes next. -/
def stops : List Nat → Bool
  | [] => true
  | c :: _ => blankB c || endB c
/-- A name's bytes from the front on. -/
def nameRun (l : List Nat) : List Nat := l.takeWhile nameB
/-- A byte more of the last text. -/
def addP (ps : List Prt) (c : Nat) : List Prt :=
  match ps.getLast? with
  | none => [⟨false, [c]⟩]
  | some p => if p.var then ps ++ [⟨false, [c]⟩] else ps.dropLast ++ [⟨false, p.s ++ [c]⟩]

/-- A braced word from place st on, at place i, so deep: the place behind it. -/
def braceS (st : Nat) (l : List Nat) (i deep : Nat) : Except (Nat × Nat) Nat :=
  match l with
  | [] => .error (st, 5)
  | c :: r =>
    if c = 92 then (if r = [] then .error (st, 5) else braceS st (r.drop 1) (i + 2) deep)
    else if c = 123 then (if 64 < deep + 1 then .error (i, 7) else braceS st r (i + 1) (deep + 1))
    else if c = 125 then (if deep = 1 then .ok (i + 1) else braceS st r (i + 1) (deep - 1))
    else braceS st r (i + 1) deep
termination_by l.length
decreasing_by
  · simp; omega
  · simp
  · simp
  · simp
/-- What stands at a place of a quoted or bare word: the parts with it, and how many bytes. -/
def oneS (l : List Nat) (i op : Nat) (ps : List Prt) : Except (Nat × Nat) (List Prt × Nat) :=
  match l with
  | [] => .ok (ps, 1)
  | c :: r =>
    if c = 92 then (if r = [] then .error (op, 5) else .ok (addP ps (escL r).1, 1 + (escL r).2))
    else if c = 91 then .error (i, 4)
    else if c = 36 ∧ 64 < (nameRun r).length then .error (i, 6)
    else if c = 36 ∧ nameRun r ≠ [] then .ok (ps ++ [⟨true, nameRun r⟩], 1 + (nameRun r).length)
    else .ok (addP ps c, 1)
/-- A quoted word, behind its first byte. -/
def quotS (st : Nat) (l : List Nat) (i : Nat) (ps : List Prt) : Except (Nat × Nat) (List Prt × Nat) :=
  match l with
  | [] => .error (st, 5)
  | c :: r =>
    if c = 34 then .ok (ps, i + 1)
    else match oneS (c :: r) i st ps with
      | .error e => .error e
      | .ok (ps', k) => quotS st (r.drop (k - 1)) (i + k) ps'
termination_by l.length
decreasing_by simp; omega
/-- A bare word. -/
def bareS (l : List Nat) (i : Nat) (ps : List Prt) : Except (Nat × Nat) (List Prt × Nat) :=
  match l with
  | [] => .ok (ps, i)
  | c :: r =>
    if blankB c || endB c then .ok (ps, i)
    else match oneS (c :: r) i i ps with
      | .error e => .error e
      | .ok (ps', k) => bareS (r.drop (k - 1)) (i + k) ps'
termination_by l.length
decreasing_by simp; omega
/-- A word, and the place behind it. -/
def wordS (l : List Nat) (i : Nat) : Except (Nat × Nat) (Wrd × Nat) :=
  match l with
  | [] => .ok (⟨i, 0, []⟩, i)
  | c :: r =>
    if c = 123 then
      match braceS i (c :: r) i 0 with
      | .error e => .error e
      | .ok j => if stops ((c :: r).drop (j - i)) then .ok (⟨i, 2, if r.take (j - i - 2) = [] then [] else [⟨false, r.take (j - i - 2)⟩]⟩, j) else .error (j, 4)
    else if c = 34 then
      match quotS i r (i + 1) [] with
      | .error e => .error e
      | .ok (ps, j) => if stops ((c :: r).drop (j - i)) then .ok (⟨i, 1, ps⟩, j) else .error (j, 4)
    else
      match bareS (c :: r) i [] with
      | .error e => .error e
      | .ok (ps, j) => .ok (⟨i, 0, ps⟩, j)
/-- A command's words, in so many steps. -/
def wordsF : Nat → List Nat → Nat → List Wrd → Except (Nat × Nat) (List Wrd × Nat)
  | 0, _, i, ws => .ok (ws, i)
  | _ + 1, [], i, ws => .ok (ws, i)
  | n + 1, c :: r, i, ws =>
    if endB c then .ok (ws, i)
    else if blankB c then wordsF n r (i + 1) ws
    else match wordS (c :: r) i with
      | .error e => .error e
      | .ok (w, j) => wordsF n ((c :: r).drop (j - i)) j (ws ++ [w])
/-- A text's commands, in so many steps. -/
def parseF : Nat → List Nat → Nat → List Cmd → Except (Nat × Nat) (List Cmd)
  | 0, _, _, cs => .ok cs
  | _ + 1, [], _, cs => .ok cs
  | n + 1, c :: r, i, cs =>
    if blankB c || endB c then parseF n r (i + 1) cs
    else if c = 35 then parseF n ((c :: r).dropWhile (· != 10)) (i + ((c :: r).takeWhile (· != 10)).length) cs
    else match wordsF (r.length + 2) (c :: r) i [] with
      | .error e => .error e
      | .ok (ws, j) => parseF n ((c :: r).drop (j - i)) j (cs ++ [⟨i, ws⟩])

/-! ### How far each goes -/
theorem nameRun_le (l : List Nat) : (nameRun l).length ≤ l.length := by
  induction l with
  | nil => simp [nameRun]
  | cons c r ih => unfold nameRun at *; rw [List.takeWhile_cons]; split <;> simp; exact ih
theorem oneS_pos {l : List Nat} {i op : Nat} {ps ps' : List Prt} {k : Nat} (h : oneS l i op ps = .ok (ps', k)) (hl : l ≠ []) : 1 ≤ k ∧ k ≤ l.length := by
  cases l with
  | nil => exact absurd rfl hl
  | cons c r =>
    unfold oneS at h
    dsimp only at h
    split at h
    · split at h
      · cases h
      · rename_i hr
        injection h with h; injection h with _ h
        have := escL_fits hr; simp; omega
    · split at h
      · cases h
      · split at h
        · cases h
        · split at h
          · injection h with h; injection h with _ h; have := nameRun_le r; simp; omega
          · injection h with h; injection h with _ h; simp; omega
theorem braceS_le : ∀ (n st : Nat) (l : List Nat), l.length ≤ n → ∀ (i deep j : Nat), braceS st l i deep = .ok j → i < j ∧ j ≤ i + l.length := by
  intro n
  induction n with
  | zero =>
    intro st l hl i deep j h
    have : l = [] := List.length_eq_zero_iff.1 (by omega)
    subst this
    rw [braceS] at h; cases h
  | succ n ih =>
    intro st l hl i deep j h
    cases l with
    | nil => rw [braceS] at h; cases h
    | cons c r =>
      simp only [List.length_cons] at hl ⊢
      rw [braceS] at h
      split at h
      · split at h
        · cases h
        · rename_i hr
          have h1 := ih st (r.drop 1) (by rw [List.length_drop]; omega) _ _ _ h
          have h2 := List.length_pos_iff.2 hr
          rw [List.length_drop] at h1; omega
      · split at h
        · split at h
          · cases h
          · have h1 := ih st r (by omega) _ _ _ h; omega
        · split at h
          · split at h
            · injection h with h; omega
            · have h1 := ih st r (by omega) _ _ _ h; omega
          · have h1 := ih st r (by omega) _ _ _ h; omega
theorem quotS_le : ∀ (n st : Nat) (l : List Nat), l.length ≤ n → ∀ (i : Nat) (ps ps' : List Prt) (j : Nat), quotS st l i ps = .ok (ps', j) → i < j ∧ j ≤ i + l.length := by
  intro n
  induction n with
  | zero =>
    intro st l hl i ps ps' j h
    have : l = [] := List.length_eq_zero_iff.1 (by omega)
    subst this
    rw [quotS] at h; cases h
  | succ n ih =>
    intro st l hl i ps ps' j h
    cases l with
    | nil => rw [quotS] at h; cases h
    | cons c r =>
      simp only [List.length_cons] at hl
      rw [quotS] at h
      split at h
      · injection h with h; injection h with _ h; simp; omega
      · cases ho : oneS (c :: r) i st ps with
        | error e => rw [ho] at h; cases h
        | ok q =>
          obtain ⟨qs, k⟩ := q
          rw [ho] at h
          dsimp only at h
          have hp := oneS_pos ho (by simp)
          have h1 := ih st (r.drop (k - 1)) (by rw [List.length_drop]; omega) _ _ _ _ h
          rw [List.length_drop] at h1
          simp only [List.length_cons] at hp ⊢
          omega
theorem bareS_le : ∀ (n : Nat) (l : List Nat), l.length ≤ n → ∀ (i : Nat) (ps ps' : List Prt) (j : Nat), bareS l i ps = .ok (ps', j) → i ≤ j ∧ j ≤ i + l.length ∧ (stops l = false → i < j) := by
  intro n
  induction n with
  | zero =>
    intro l hl i ps ps' j h
    have : l = [] := List.length_eq_zero_iff.1 (by omega)
    subst this
    rw [bareS] at h; injection h with h; injection h with _ h; simp [stops]; omega
  | succ n ih =>
    intro l hl i ps ps' j h
    cases l with
    | nil => rw [bareS] at h; injection h with h; injection h with _ h; simp [stops]; omega
    | cons c r =>
      simp only [List.length_cons] at hl
      rw [bareS] at h
      split at h
      · rename_i hs
        injection h with h; injection h with _ h
        refine ⟨by omega, by simp; omega, fun hf => ?_⟩
        simp only [stops] at hf
        rw [hs] at hf; cases hf
      · cases ho : oneS (c :: r) i i ps with
        | error e => rw [ho] at h; cases h
        | ok q =>
          obtain ⟨qs, k⟩ := q
          rw [ho] at h
          dsimp only at h
          have hp := oneS_pos ho (by simp)
          have h1 := ih (r.drop (k - 1)) (by rw [List.length_drop]; omega) _ _ _ _ h
          rw [List.length_drop] at h1
          simp only [List.length_cons] at hp ⊢
          exact ⟨by omega, by omega, fun _ => by omega⟩
theorem wordS_le {l : List Nat} {i : Nat} {w : Wrd} {j : Nat} (h : wordS l i = .ok (w, j)) (hs : stops l = false) : i < j ∧ j ≤ i + l.length := by
  cases l with
  | nil => cases hs
  | cons c r =>
    unfold wordS at h
    dsimp only at h
    split at h
    · cases hb : braceS i (c :: r) i 0 with
      | error e => rw [hb] at h; cases h
      | ok m =>
        rw [hb] at h
        dsimp only at h
        split at h
        · injection h with h; injection h with _ h
          have := braceS_le _ _ _ (Nat.le_refl _) _ _ _ hb
          omega
        · cases h
    · split at h
      · cases hb : quotS i r (i + 1) [] with
        | error e => rw [hb] at h; cases h
        | ok m =>
          obtain ⟨ps, m⟩ := m
          rw [hb] at h
          dsimp only at h
          split at h
          · injection h with h; injection h with _ h
            have := quotS_le _ _ _ (Nat.le_refl _) _ _ _ _ hb
            simp; omega
          · cases h
      · cases hb : bareS (c :: r) i [] with
        | error e => rw [hb] at h; cases h
        | ok m =>
          obtain ⟨ps, m⟩ := m
          rw [hb] at h
          injection h with h; injection h with _ h
          have := bareS_le _ _ (Nat.le_refl _) _ _ _ _ hb
          have := this.2.2 hs
          omega

/-! ### As many steps as are wanted -/
theorem wordsF_any : ∀ (k : Nat) (l : List Nat), l.length ≤ k → ∀ (n m : Nat), l.length < n → l.length < m → ∀ (i : Nat) (ws : List Wrd), wordsF n l i ws = wordsF m l i ws := by
  intro k
  induction k with
  | zero =>
    intro l hl n m hn hm i ws
    obtain rfl : l = [] := List.length_eq_zero_iff.1 (by omega)
    cases n with
    | zero => omega
    | succ n => cases m with
      | zero => omega
      | succ m => rfl
  | succ k ih =>
    intro l hl n m hn hm i ws
    cases n with
    | zero => omega
    | succ n =>
      cases m with
      | zero => omega
      | succ m =>
        cases l with
        | nil => rfl
        | cons c r =>
          simp only [List.length_cons] at hl hn hm
          unfold wordsF
          split
          · rfl
          · rename_i he
            split
            · exact ih r (by omega) n m (by omega) (by omega) _ _
            · rename_i hb
              cases hw : wordS (c :: r) i with
              | error e => rfl
              | ok q =>
                obtain ⟨w, j⟩ := q
                dsimp only
                have h1 := wordS_le hw (by simp [stops, he, hb])
                simp only [List.length_cons] at h1
                exact ih _ (by rw [List.length_drop, List.length_cons]; omega) n m (by rw [List.length_drop, List.length_cons]; omega) (by rw [List.length_drop, List.length_cons]; omega) _ _
/-- A command's words. -/
def wordsL (l : List Nat) (i : Nat) (ws : List Wrd) : Except (Nat × Nat) (List Wrd × Nat) := wordsF (l.length + 1) l i ws
theorem wordsL_nil (i : Nat) (ws : List Wrd) : wordsL [] i ws = .ok (ws, i) := rfl
theorem wordsL_end {c : Nat} (h : endB c = true) (r : List Nat) (i : Nat) (ws : List Wrd) : wordsL (c :: r) i ws = .ok (ws, i) := by
  unfold wordsL wordsF; simp [h]
theorem wordsL_blank {c : Nat} (h : blankB c = true) (he : endB c = false) (r : List Nat) (i : Nat) (ws : List Wrd) : wordsL (c :: r) i ws = wordsL r (i + 1) ws := by
  show wordsF ((c :: r).length + 1) (c :: r) i ws = _
  unfold wordsF; simp [h, he]; rfl
theorem wordsL_bad {l : List Nat} (hs : stops l = false) {i : Nat} {e : Nat × Nat} (h : wordS l i = .error e) (ws : List Wrd) : wordsL l i ws = .error e := by
  cases l with
  | nil => cases hs
  | cons c r =>
    simp only [stops, Bool.or_eq_false_iff] at hs
    unfold wordsL wordsF; simp [hs.1, hs.2, h]
theorem wordsL_word {l : List Nat} (hs : stops l = false) {i j : Nat} {w : Wrd} (h : wordS l i = .ok (w, j)) (ws : List Wrd) : wordsL l i ws = wordsL (l.drop (j - i)) j (ws ++ [w]) := by
  cases l with
  | nil => cases hs
  | cons c r =>
    have h1 := wordS_le h hs
    simp only [stops, Bool.or_eq_false_iff] at hs
    simp only [List.length_cons] at h1
    show wordsF ((c :: r).length + 1) (c :: r) i ws = _
    unfold wordsF
    simp only [hs.1, hs.2, h, Bool.false_eq_true, if_false]
    exact wordsF_any _ _ (Nat.le_refl _) _ _ (by rw [List.length_drop, List.length_cons]; omega) (by omega) _ _
theorem stops_cases (l : List Nat) : l = [] ∨ (∃ c r, l = c :: r ∧ endB c = true) ∨ (∃ c r, l = c :: r ∧ blankB c = true ∧ endB c = false) ∨ stops l = false := by
  cases l with
  | nil => exact .inl rfl
  | cons c r =>
    by_cases he : endB c = true
    · exact .inr (.inl ⟨c, r, rfl, he⟩)
    · by_cases hb : blankB c = true
      · exact .inr (.inr (.inl ⟨c, r, rfl, hb, by simpa using he⟩))
      · exact .inr (.inr (.inr (by simp [stops, he, hb])))
theorem wordsL_le : ∀ (k : Nat) (l : List Nat), l.length ≤ k → ∀ (i : Nat) (ws ws' : List Wrd) (j : Nat), wordsL l i ws = .ok (ws', j) → i ≤ j ∧ j ≤ i + l.length ∧ (stops l = false → i < j) := by
  intro k
  induction k with
  | zero =>
    intro l hl i ws ws' j h
    obtain rfl : l = [] := List.length_eq_zero_iff.1 (by omega)
    rw [wordsL_nil] at h; injection h with h; injection h with _ h; simp [stops]; omega
  | succ k ih =>
    intro l hl i ws ws' j h
    rcases stops_cases l with rfl | ⟨c, r, rfl, he⟩ | ⟨c, r, rfl, hb, he⟩ | hs
    · rw [wordsL_nil] at h; injection h with h; injection h with _ h; simp [stops]; omega
    · rw [wordsL_end he] at h; injection h with h; injection h with _ h; simp [stops, he]; omega
    · rw [wordsL_blank hb he] at h
      simp only [List.length_cons] at hl ⊢
      have := ih r (by omega) _ _ _ _ h
      exact ⟨by omega, by omega, fun _ => by omega⟩
    · cases hw : wordS l i with
      | error e => rw [wordsL_bad hs hw] at h; cases h
      | ok q =>
        obtain ⟨w, m⟩ := q
        rw [wordsL_word hs hw] at h
        have h1 := wordS_le hw hs
        have h2 := ih (l.drop (m - i)) (by rw [List.length_drop]; omega) _ _ _ _ h
        rw [List.length_drop] at h2
        exact ⟨by omega, by omega, fun _ => by omega⟩
theorem run_hash (r : List Nat) : ((35 :: r).dropWhile (· != 10)).length ≤ r.length := by
  rw [List.dropWhile_cons]
  simp only [show ((35 : Nat) != 10) = true from rfl, if_true]
  have h1 := congrArg List.length (List.takeWhile_append_dropWhile (p := (· != 10)) (l := r))
  rw [List.length_append] at h1
  omega
theorem parseF_any : ∀ (k : Nat) (l : List Nat), l.length ≤ k → ∀ (n m : Nat), l.length < n → l.length < m → ∀ (i : Nat) (cs : List Cmd), parseF n l i cs = parseF m l i cs := by
  intro k
  induction k with
  | zero =>
    intro l hl n m hn hm i cs
    obtain rfl : l = [] := List.length_eq_zero_iff.1 (by omega)
    cases n with
    | zero => omega
    | succ n => cases m with
      | zero => omega
      | succ m => rfl
  | succ k ih =>
    intro l hl n m hn hm i cs
    cases n with
    | zero => omega
    | succ n =>
      cases m with
      | zero => omega
      | succ m =>
        cases l with
        | nil => rfl
        | cons c r =>
          simp only [List.length_cons] at hl hn hm
          unfold parseF
          split
          · exact ih r (by omega) n m (by omega) (by omega) _ _
          · rename_i hs
            split
            · rename_i hc
              subst hc
              have := run_hash r
              exact ih _ (by omega) n m (by omega) (by omega) _ _
            · cases hw : wordsF (r.length + 2) (c :: r) i [] with
              | error e => rfl
              | ok q =>
                obtain ⟨ws, j⟩ := q
                dsimp only
                have h1 := wordsL_le _ (c :: r) (Nat.le_refl _) i [] ws j hw
                have h2 := h1.2.2 (by simpa [stops] using hs)
                simp only [List.length_cons] at h1
                exact ih _ (by rw [List.length_drop, List.length_cons]; omega) n m (by rw [List.length_drop, List.length_cons]; omega) (by rw [List.length_drop, List.length_cons]; omega) _ _
/-- A text's commands. -/
def parseL (l : List Nat) (i : Nat) (cs : List Cmd) : Except (Nat × Nat) (List Cmd) := parseF (l.length + 1) l i cs
theorem parseL_nil (i : Nat) (cs : List Cmd) : parseL [] i cs = .ok cs := rfl
theorem parseL_stop {c : Nat} (h : (blankB c || endB c) = true) (r : List Nat) (i : Nat) (cs : List Cmd) : parseL (c :: r) i cs = parseL r (i + 1) cs := by
  show parseF ((c :: r).length + 1) (c :: r) i cs = _
  unfold parseF; rw [if_pos h]; rfl
theorem parseL_hash (r : List Nat) (i : Nat) (cs : List Cmd) : parseL (35 :: r) i cs = parseL ((35 :: r).dropWhile (· != 10)) (i + ((35 :: r).takeWhile (· != 10)).length) cs := by
  have h1 := run_hash r
  show parseF ((35 :: r).length + 1) (35 :: r) i cs = _
  unfold parseF
  rw [if_neg (by decide), if_pos rfl]
  exact parseF_any _ _ (Nat.le_refl _) _ _ (by simp only [List.length_cons]; omega) (by omega) _ _
theorem parseL_bad {c : Nat} {r : List Nat} (hs : stops (c :: r) = false) (hc : c ≠ 35) {i : Nat} {e : Nat × Nat} (h : wordsL (c :: r) i [] = .error e) (cs : List Cmd) : parseL (c :: r) i cs = .error e := by
  show parseF ((c :: r).length + 1) (c :: r) i cs = _
  unfold parseF
  rw [if_neg (by simpa [stops] using hs), if_neg hc]
  have h' : wordsF (r.length + 2) (c :: r) i [] = .error e := h
  rw [h']
theorem parseL_cmd {c : Nat} {r : List Nat} (hs : stops (c :: r) = false) (hc : c ≠ 35) {i j : Nat} {ws : List Wrd} (h : wordsL (c :: r) i [] = .ok (ws, j)) (cs : List Cmd) : parseL (c :: r) i cs = parseL ((c :: r).drop (j - i)) j (cs ++ [⟨i, ws⟩]) := by
  have h1 := wordsL_le _ (c :: r) (Nat.le_refl _) i [] ws j h
  have h2 := h1.2.2 hs
  show parseF ((c :: r).length + 1) (c :: r) i cs = _
  unfold parseF
  rw [if_neg (by simpa [stops] using hs), if_neg hc]
  have h' : wordsF (r.length + 2) (c :: r) i [] = .ok (ws, j) := h
  rw [h']
  simp only [List.length_cons] at h1
  exact parseF_any _ _ (Nat.le_refl _) _ _ (by rw [List.length_drop, List.length_cons]; omega) (by omega) _ _
/-- What Parse tells: the commands, the place, the error. -/
def parseR (l : List Nat) : List Cmd × Nat × Nat :=
  if 16777216 < l.length then ([], 0, 6) else match parseL l 0 [] with
    | .error e => ([], e.1, e.2)
    | .ok cs => (cs, 0, 0)
end Go.Proofs.Ytphmhglebeapaaa
namespace Go.Proofs.Ytphmhglebeapaaa

/-- A byte of a text, printed: kind 0 is a bare word; behind: a variable stands right ahead of it. -/
def tb (kind : Int) (behind : Bool) (c : Nat) : List Nat :=
  if plain c && !(decide (kind = 0) && blankB c) && !(behind && nameB c) then [c] else octs c
def textT (kind : Int) (behind : Bool) : List Nat → List Nat
  | [] => []
  | c :: t => tb kind behind c ++ t.flatMap (tb kind false)
def partT (kind : Int) (behind : Bool) (p : Prt) : List Nat := if p.var then 36 :: p.s else textT kind behind p.s
def partsT (kind : Int) (behind : Bool) : List Prt → List Nat
  | [] => []
  | p :: r => partT kind behind p ++ partsT kind true r
def wordT (w : Wrd) : List Nat :=
  if w.kind = 1 then [34] ++ partsT 1 false w.parts ++ [34] else if w.kind = 0 then partsT 0 false w.parts else [123] ++ w.parts.flatMap (·.s) ++ [125]
/-- Words with one blank between two. -/
def wordsT : List Wrd → List Nat
  | [] => []
  | [w] => wordT w
  | w :: v :: r => wordT w ++ [32] ++ wordsT (v :: r)
def cmdT (c : Cmd) : List Nat := wordsT c.words ++ [10]
def printT (l : List Cmd) : List Nat := l.flatMap cmdT

/-- What may be printed. -/
def nameOk (s : List Nat) : Prop := (∀ c ∈ s, nameB c = true) ∧ 1 ≤ s.length ∧ s.length ≤ 64
/-- Parts: no text behind a text (after: one stands right ahead). -/
def partsOk (after : Bool) : List Prt → Prop
  | [] => True
  | p :: r => if p.var then nameOk p.s ∧ partsOk false r else p.s ≠ [] ∧ after = false ∧ partsOk true r
def noVar (ps : List Prt) : Prop := ∀ p ∈ ps, p.var = false
def wordOk (w : Wrd) : Prop :=
  (w.kind = 0 ∧ w.parts ≠ [] ∧ partsOk false w.parts) ∨ (w.kind = 1 ∧ partsOk false w.parts) ∨
    (w.kind = 2 ∧ (w.parts = [] ∨ ∃ s, w.parts = [⟨false, s⟩] ∧ s ≠ []) ∧ braceS 0 ([123] ++ w.parts.flatMap (·.s) ++ [125]) 0 0 = .ok ((w.parts.flatMap (·.s)).length + 2))
def cmdOk (c : Cmd) : Prop := c.words ≠ [] ∧ ∀ w ∈ c.words, wordOk w
def bytesW (w : Wrd) : Prop := ∀ p ∈ w.parts, ∀ c ∈ p.s, c < 256
/-- The same, but for places. -/
def sameW (a b : Wrd) : Prop := a.kind = b.kind ∧ a.parts = b.parts
def samesW : List Wrd → List Wrd → Prop
  | [], [] => True
  | a :: l, b :: m => sameW a b ∧ samesW l m
  | _, _ => False
def sameC (a b : Cmd) : Prop := samesW a.words b.words
def samesC : List Cmd → List Cmd → Prop
  | [], [] => True
  | a :: l, b :: m => sameC a b ∧ samesC l m
  | _, _ => False

/-! ### One byte -/
theorem addP_nil (c : Nat) : addP [] c = [⟨false, [c]⟩] := rfl
theorem addP_var (p : List Prt) (s : List Nat) (c : Nat) : addP (p ++ [⟨true, s⟩]) c = p ++ [⟨true, s⟩] ++ [⟨false, [c]⟩] := by simp [addP]
theorem addP_text (p : List Prt) (s : List Nat) (c : Nat) : addP (p ++ [⟨false, s⟩]) c = p ++ [⟨false, s ++ [c]⟩] := by simp [addP]
/-- The last part isn't a text. -/
def openP (ps : List Prt) : Prop := ∀ p, ps.getLast? = some p → p.var = true
theorem addP_open {ps : List Prt} (h : openP ps) (c : Nat) : addP ps c = ps ++ [⟨false, [c]⟩] := by
  unfold addP
  cases hl : ps.getLast? with
  | none => have : ps = [] := List.getLast?_eq_none_iff.1 hl; simp [this]
  | some p => simp [h p hl]
theorem adds {ps : List Prt} (s : List Nat) : ∀ (t : List Nat), t.foldl addP (ps ++ [⟨false, s⟩]) = ps ++ [⟨false, s ++ t⟩] := by
  intro t
  induction t generalizing s with
  | nil => simp
  | cons c t ih => rw [List.foldl_cons, addP_text, ih]; simp
theorem adds_open {ps : List Prt} (h : openP ps) {t : List Nat} (ht : t ≠ []) : t.foldl addP ps = ps ++ [⟨false, t⟩] := by
  cases t with
  | nil => exact absurd rfl ht
  | cons c t => rw [List.foldl_cons, addP_open h, adds]; rfl
theorem tb_cases (kind : Int) (behind : Bool) (c : Nat) : (tb kind behind c = [c] ∧ plain c = true ∧ (kind = 0 → blankB c = false) ∧ (behind = true → nameB c = false)) ∨ tb kind behind c = octs c := by
  unfold tb
  by_cases h : (plain c && !(decide (kind = 0) && blankB c) && !(behind && nameB c)) = true
  · left
    rw [if_pos h]
    simp only [Bool.and_eq_true, Bool.not_eq_true', Bool.and_eq_false_iff, decide_eq_false_iff_not] at h
    exact ⟨rfl, h.1.1, fun e => h.1.2.resolve_left (fun k => k e), fun e => h.2.resolve_left (by simp [e])⟩
  · right; rw [if_neg h]
theorem tb_len (kind : Int) (behind : Bool) (c : Nat) : 1 ≤ (tb kind behind c).length ∧ (tb kind behind c).length ≤ 4 := by
  rcases tb_cases kind behind c with h | h
  · rw [h.1]; simp
  · rw [h]; simp [octs]
/-- The first byte of what is printed of a byte. -/
theorem tb_head (kind : Int) (behind : Bool) (c : Nat) : ∃ d t, tb kind behind c = d :: t ∧ d ≠ 34 ∧ d ≠ 35 ∧ d ≠ 123 ∧ endB d = false ∧ (kind = 0 → blankB d = false) ∧ (behind = true → nameB d = false) := by
  rcases tb_cases kind behind c with ⟨h, hp, hb, hn⟩ | h
  · refine ⟨c, [], h, ?_, ?_, ?_, ?_, hb, hn⟩
    · simp only [plain, decide_eq_true_eq] at hp; omega
    · simp only [plain, decide_eq_true_eq] at hp; omega
    · simp only [plain, decide_eq_true_eq] at hp; omega
    · simp only [plain, decide_eq_true_eq] at hp; simp only [endB, decide_eq_false_iff_not]; omega
  · refine ⟨92, _, h, by omega, by omega, by omega, by decide, fun _ => by decide, fun _ => by decide⟩
theorem one_tb {kind : Int} {behind : Bool} {c : Nat} (hc : c < 256) (r : List Nat) (i op : Nat) (ps : List Prt) : oneS (tb kind behind c ++ r) i op ps = .ok (addP ps c, (tb kind behind c).length) := by
  rcases tb_cases kind behind c with ⟨h, hp, -, -⟩ | h
  · rw [h]
    have := plain_not hp
    show oneS (c :: r) i op ps = _
    unfold oneS
    dsimp only
    rw [if_neg this.2.2.2, if_neg this.2.1, if_neg (fun e => this.2.2.1 e.1), if_neg (fun e => this.2.2.1 e.1)]
    rfl
  · rw [h]
    show oneS (92 :: ((octs c).tail ++ r)) i op ps = _
    unfold oneS
    dsimp only
    rw [if_pos rfl, if_neg (by simp [octs]), escL_octs hc]
    rfl
theorem nameRun_stop {s : List Nat} (hs : ∀ c ∈ s, nameB c = true) {r : List Nat} (hr : nameNext r = false) : nameRun (s ++ r) = s := by
  unfold nameRun
  induction s with
  | nil =>
    cases r with
    | nil => rfl
    | cons d r => simp only [nameNext] at hr; rw [List.nil_append, List.takeWhile_cons, hr]; rfl
  | cons c s ih => rw [List.cons_append, List.takeWhile_cons, hs c (by simp), if_pos rfl, ih fun x hx => hs x (List.mem_cons_of_mem _ hx)]
theorem one_var {s : List Nat} (hs : nameOk s) {r : List Nat} (hr : nameNext r = false) (i op : Nat) (ps : List Prt) : oneS (36 :: s ++ r) i op ps = .ok (ps ++ [⟨true, s⟩], 1 + s.length) := by
  show oneS (36 :: (s ++ r)) i op ps = _
  unfold oneS
  dsimp only
  rw [nameRun_stop hs.1 hr, if_neg (by omega), if_neg (by omega), if_neg (fun e => by have := hs.2.2; omega), if_pos ⟨rfl, fun e => by have := hs.2.1; rw [e] at this; simp at this⟩]

/-! ### A word's parts -/
/-- One step of either kind of word. -/
theorem quot_step {st : Nat} {x r : List Nat} {i : Nat} {ps ps' : List Prt} (hx : x ≠ []) (h34 : ∀ d t, x = d :: t → d ≠ 34) (h : oneS (x ++ r) i st ps = .ok (ps', x.length)) : quotS st (x ++ r) i ps = quotS st r (i + x.length) ps' := by
  cases x with
  | nil => exact absurd rfl hx
  | cons c t =>
    rw [List.cons_append] at h ⊢
    rw [quotS, if_neg (h34 c t rfl), h]
    dsimp only
    rw [List.length_cons, Nat.add_sub_cancel, List.drop_left]
theorem bare_step {x r : List Nat} {i : Nat} {ps ps' : List Prt} (hx : x ≠ []) (hs : ∀ d t, x = d :: t → (blankB d || endB d) = false) (h : oneS (x ++ r) i i ps = .ok (ps', x.length)) : bareS (x ++ r) i ps = bareS r (i + x.length) ps' := by
  cases x with
  | nil => exact absurd rfl hx
  | cons c t =>
    rw [List.cons_append] at h ⊢
    rw [bareS, hs c t rfl, h]
    simp only [Bool.false_eq_true, if_false]
    rw [List.length_cons, Nat.add_sub_cancel, List.drop_left]
theorem tb_ne (kind : Int) (behind : Bool) (c : Nat) : tb kind behind c ≠ [] := fun e => by have := (tb_len kind behind c).1; rw [e] at this; simp at this
theorem quot_byte {kind : Int} {behind : Bool} {c : Nat} (hc : c < 256) (st : Nat) (r : List Nat) (i : Nat) (ps : List Prt) : quotS st (tb kind behind c ++ r) i ps = quotS st r (i + (tb kind behind c).length) (addP ps c) := by
  refine quot_step (tb_ne _ _ _) (fun d t e => ?_) (one_tb hc r i st ps)
  obtain ⟨d', t', e', h, -⟩ := tb_head kind behind c
  rw [e'] at e; injection e with e; rw [← e]; exact h
theorem bare_byte {behind : Bool} {c : Nat} (hc : c < 256) (r : List Nat) (i : Nat) (ps : List Prt) : bareS (tb 0 behind c ++ r) i ps = bareS r (i + (tb 0 behind c).length) (addP ps c) := by
  refine bare_step (tb_ne _ _ _) (fun d t e => ?_) (one_tb hc r i i ps)
  obtain ⟨d', t', e', -, -, -, he, hb, -⟩ := tb_head 0 behind c
  rw [e'] at e; injection e with e; rw [← e, he, hb rfl]; rfl
theorem quot_flat (st : Nat) (r : List Nat) : ∀ (t : List Nat), (∀ c ∈ t, c < 256) → ∀ (i : Nat) (ps : List Prt), quotS st (t.flatMap (tb 1 false) ++ r) i ps = quotS st r (i + (t.flatMap (tb 1 false)).length) (t.foldl addP ps)
  | [], _, i, ps => by simp
  | c :: t, h, i, ps => by
    rw [List.flatMap_cons, List.append_assoc, quot_byte (h c (by simp)), quot_flat st r t (fun x hx => h x (List.mem_cons_of_mem _ hx)), List.foldl_cons, List.length_append, Nat.add_assoc]
theorem bare_flat (r : List Nat) : ∀ (t : List Nat), (∀ c ∈ t, c < 256) → ∀ (i : Nat) (ps : List Prt), bareS (t.flatMap (tb 0 false) ++ r) i ps = bareS r (i + (t.flatMap (tb 0 false)).length) (t.foldl addP ps)
  | [], _, i, ps => by simp
  | c :: t, h, i, ps => by
    rw [List.flatMap_cons, List.append_assoc, bare_byte (h c (by simp)), bare_flat r t (fun x hx => h x (List.mem_cons_of_mem _ hx)), List.foldl_cons, List.length_append, Nat.add_assoc]
theorem quot_text (st : Nat) (r : List Nat) (behind : Bool) {t : List Nat} (h : ∀ c ∈ t, c < 256) (i : Nat) (ps : List Prt) : quotS st (textT 1 behind t ++ r) i ps = quotS st r (i + (textT 1 behind t).length) (t.foldl addP ps) := by
  cases t with
  | nil => simp [textT]
  | cons c t =>
    show quotS st ((tb 1 behind c ++ t.flatMap (tb 1 false)) ++ r) i ps = _
    rw [List.append_assoc, quot_byte (h c (by simp)), quot_flat st r t (fun x hx => h x (List.mem_cons_of_mem _ hx)), List.foldl_cons]
    simp only [textT, List.length_append, Nat.add_assoc]
theorem bare_text (r : List Nat) (behind : Bool) {t : List Nat} (h : ∀ c ∈ t, c < 256) (i : Nat) (ps : List Prt) : bareS (textT 0 behind t ++ r) i ps = bareS r (i + (textT 0 behind t).length) (t.foldl addP ps) := by
  cases t with
  | nil => simp [textT]
  | cons c t =>
    show bareS ((tb 0 behind c ++ t.flatMap (tb 0 false)) ++ r) i ps = _
    rw [List.append_assoc, bare_byte (h c (by simp)), bare_flat r t (fun x hx => h x (List.mem_cons_of_mem _ hx)), List.foldl_cons]
    simp only [textT, List.length_append, Nat.add_assoc]
/-- What is printed of parts that stand behind something doesn't begin with a name's byte, if what follows doesn't. -/
theorem parts_next (kind : Int) : ∀ (ps : List Prt) (after : Bool), partsOk after ps → ∀ r, nameNext r = false → nameNext (partsT kind true ps ++ r) = false := by
  intro ps after h r hr
  cases ps with
  | nil => exact hr
  | cons p ps =>
    simp only [partsT, partT]
    by_cases hv : p.var = true
    · rw [if_pos hv]; simp [nameNext, nameB]
    · rw [if_neg hv]
      unfold partsOk at h
      rw [if_neg hv] at h
      cases hs : p.s with
      | nil => exact absurd hs h.1
      | cons c t =>
        obtain ⟨d, t', e, -, -, -, -, -, hn⟩ := tb_head kind true c
        simp only [textT, e, List.cons_append, nameNext]
        exact hn rfl
theorem openP_var (ps : List Prt) (s : List Nat) : openP (ps ++ [⟨true, s⟩]) := by intro p h; simp at h; rw [← h]
theorem quot_parts (st : Nat) (r : List Nat) (hr : nameNext r = false) : ∀ (ps : List Prt) (after behind : Bool) (acc : List Prt), partsOk after ps → (after = false → openP acc) → (∀ p ∈ ps, ∀ c ∈ p.s, c < 256) → ∀ i, quotS st (partsT 1 behind ps ++ r) i acc = quotS st r (i + (partsT 1 behind ps).length) (acc ++ ps)
  | [], _, _, acc, _, _, _, i => by simp [partsT]
  | p :: ps, after, behind, acc, h, ha, hb, i => by
    have hb' : ∀ q ∈ ps, ∀ c ∈ q.s, c < 256 := fun q hq => hb q (List.mem_cons_of_mem _ hq)
    unfold partsOk at h
    simp only [partsT, partT]
    by_cases hv : p.var = true
    · rw [if_pos hv] at h ⊢
      have hp : p = ⟨true, p.s⟩ := Prt.ext_ hv rfl
      rw [List.append_assoc, quot_step (x := 36 :: p.s) (ps' := acc ++ [p]) (by simp) (fun d t e => by injection e with e; omega) (by rw [one_var h.1 (parts_next 1 ps false h.2 r hr), ← hp, List.length_cons, Nat.add_comm]), quot_parts st r hr ps false true (acc ++ [p]) h.2 (fun _ => by rw [hp]; exact openP_var _ _) hb']
      simp only [List.append_assoc, List.length_append, List.singleton_append, Nat.add_assoc]
    · rw [if_neg hv] at h ⊢
      have hp : p = ⟨false, p.s⟩ := Prt.ext_ (by simpa using hv) rfl
      rw [List.append_assoc, quot_text st _ behind (hb p (by simp)), adds_open (ha h.2.1) h.1, ← hp, quot_parts st r hr ps true true (acc ++ [p]) h.2.2 (fun e => by cases e) hb']
      simp only [List.append_assoc, List.length_append, List.singleton_append, Nat.add_assoc]
theorem bare_parts (r : List Nat) (hr : nameNext r = false) : ∀ (ps : List Prt) (after behind : Bool) (acc : List Prt), partsOk after ps → (after = false → openP acc) → (∀ p ∈ ps, ∀ c ∈ p.s, c < 256) → ∀ i, bareS (partsT 0 behind ps ++ r) i acc = bareS r (i + (partsT 0 behind ps).length) (acc ++ ps)
  | [], _, _, acc, _, _, _, i => by simp [partsT]
  | p :: ps, after, behind, acc, h, ha, hb, i => by
    have hb' : ∀ q ∈ ps, ∀ c ∈ q.s, c < 256 := fun q hq => hb q (List.mem_cons_of_mem _ hq)
    unfold partsOk at h
    simp only [partsT, partT]
    by_cases hv : p.var = true
    · rw [if_pos hv] at h ⊢
      have hp : p = ⟨true, p.s⟩ := Prt.ext_ hv rfl
      rw [List.append_assoc, bare_step (x := 36 :: p.s) (ps' := acc ++ [p]) (by simp) (fun d t e => by injection e with e; rw [← e]; rfl) (by rw [one_var h.1 (parts_next 0 ps false h.2 r hr), ← hp, List.length_cons, Nat.add_comm]), bare_parts r hr ps false true (acc ++ [p]) h.2 (fun _ => by rw [hp]; exact openP_var _ _) hb']
      simp only [List.append_assoc, List.length_append, List.singleton_append, Nat.add_assoc]
    · rw [if_neg hv] at h ⊢
      have hp : p = ⟨false, p.s⟩ := Prt.ext_ (by simpa using hv) rfl
      rw [List.append_assoc, bare_text _ behind (hb p (by simp)), adds_open (ha h.2.1) h.1, ← hp, bare_parts r hr ps true true (acc ++ [p]) h.2.2 (fun e => by cases e) hb']
      simp only [List.append_assoc, List.length_append, List.singleton_append, Nat.add_assoc]
end Go.Proofs.Ytphmhglebeapaaa
namespace Go.Proofs.Ytphmhglebeapaaa

theorem next_of_stops {r : List Nat} (h : stops r = true) : nameNext r = false := by
  cases r with
  | nil => rfl
  | cons c r =>
    simp only [stops, blankB, endB, Bool.or_eq_true, decide_eq_true_eq] at h
    simp only [nameNext, nameB, decide_eq_false_iff_not]
    omega
theorem brace_more (r : List Nat) (k : Nat) : ∀ (n : Nat) (l : List Nat), l.length ≤ n → ∀ (st st' i deep j : Nat), braceS st l i deep = .ok j → braceS st' (l ++ r) (i + k) deep = .ok (j + k) := by
  intro n
  induction n with
  | zero =>
    intro l hl st st' i deep j h
    obtain rfl : l = [] := List.length_eq_zero_iff.1 (by omega)
    rw [braceS] at h; cases h
  | succ n ih =>
    intro l hl st st' i deep j h
    cases l with
    | nil => rw [braceS] at h; cases h
    | cons c t =>
      simp only [List.length_cons] at hl
      rw [List.cons_append, braceS]
      rw [braceS] at h
      split at h
      · rename_i hc
        rw [if_pos hc]
        split at h
        · cases h
        · rename_i ht
          rw [if_neg (by simp [ht])]
          have := ih (t.drop 1) (by rw [List.length_drop]; omega) st st' _ _ _ h
          have hl1 := List.length_pos_iff.2 ht
          rw [List.drop_append_of_le_length (by omega), show i + k + 2 = i + 2 + k by omega]
          exact this
      · rename_i hc
        rw [if_neg hc]
        split at h
        · rename_i h1
          rw [if_pos h1]
          split at h
          · cases h
          · rename_i h2
            rw [if_neg h2, show i + k + 1 = i + 1 + k by omega]
            exact ih t (by omega) st st' _ _ _ h
        · rename_i h1
          rw [if_neg h1]
          split at h
          · rename_i h2
            rw [if_pos h2]
            split at h
            · rename_i h3
              rw [if_pos h3]
              injection h with h
              rw [show i + k + 1 = j + k by omega]
            · rename_i h3
              rw [if_neg h3, show i + k + 1 = i + 1 + k by omega]
              exact ih t (by omega) st st' _ _ _ h
          · rename_i h2
            rw [if_neg h2, show i + k + 1 = i + 1 + k by omega]
            exact ih t (by omega) st st' _ _ _ h
theorem parts_first {ps : List Prt} (hne : ps ≠ []) (hok : partsOk false ps) : ∃ d t, partsT 0 false ps = d :: t ∧ d ≠ 34 ∧ d ≠ 35 ∧ d ≠ 123 ∧ (blankB d || endB d) = false := by
  cases ps with
  | nil => exact absurd rfl hne
  | cons p ps =>
    unfold partsOk at hok
    simp only [partsT, partT]
    by_cases hv : p.var = true
    · rw [if_pos hv]; exact ⟨36, _, rfl, by omega, by omega, by omega, rfl⟩
    · rw [if_neg hv] at hok ⊢
      cases hs : p.s with
      | nil => exact absurd hs hok.1
      | cons c t =>
        obtain ⟨d, t', e, h1, h2, h3, h4, h5, -⟩ := tb_head 0 false c
        exact ⟨d, _, by simp only [textT, e, List.cons_append]; rfl, h1, h2, h3, by rw [h4, h5 rfl]; rfl⟩
/-- How a word begins. -/
theorem word_first {w : Wrd} (h : wordOk w) : ∃ d t, wordT w = d :: t ∧ d ≠ 35 ∧ (blankB d || endB d) = false := by
  unfold wordT
  rcases h with ⟨hk, hne, hok⟩ | ⟨hk, -⟩ | ⟨hk, -⟩
  · rw [hk, if_neg (by omega), if_pos rfl]
    obtain ⟨d, t, e, -, h2, -, h4⟩ := parts_first hne hok
    exact ⟨d, t, e, h2, h4⟩
  · rw [hk, if_pos rfl]; exact ⟨34, _, rfl, by omega, by decide⟩
  · rw [hk, if_neg (by omega), if_neg (by omega)]; exact ⟨123, _, rfl, by omega, by decide⟩
theorem word_print {w : Wrd} (h : wordOk w) (hb : bytesW w) {r : List Nat} (hr : stops r = true) (i : Nat) : wordS (wordT w ++ r) i = .ok (⟨i, w.kind, w.parts⟩, i + (wordT w).length) := by
  have hn := next_of_stops hr
  unfold wordT
  rcases h with ⟨hk, hne, hok⟩ | ⟨hk, hok⟩ | ⟨hk, hp, hbr⟩
  · rw [hk, if_neg (by omega), if_pos rfl]
    obtain ⟨d, t, e, h34, -, h123, hst⟩ := parts_first hne hok
    have hbp := bare_parts r hn w.parts false false [] hok (fun _ => by intro p hp; simp at hp) hb i
    rw [e, List.cons_append] at hbp ⊢
    unfold wordS
    dsimp only
    rw [if_neg h123, if_neg h34, hbp]
    have : bareS r (i + (d :: t).length) ([] ++ w.parts) = .ok (w.parts, i + (d :: t).length) := by
      rw [List.nil_append]
      cases r with
      | nil => rw [bareS]
      | cons c r => rw [bareS, if_pos (by simpa [stops] using hr)]
    rw [this]
  · rw [hk, if_pos rfl]
    have hq := quot_parts i ([34] ++ r) (by rfl) w.parts false false [] hok (fun _ => by intro p hp; simp at hp) hb (i + 1)
    rw [List.nil_append] at hq
    have h3 : quotS i ([34] ++ r) (i + 1 + (partsT 1 false w.parts).length) w.parts = .ok (w.parts, i + 1 + (partsT 1 false w.parts).length + 1) := by
      rw [List.singleton_append, quotS, if_pos rfl]
    rw [h3] at hq
    show wordS (34 :: (partsT 1 false w.parts ++ [34] ++ r)) i = _
    rw [List.append_assoc]
    unfold wordS
    dsimp only
    rw [if_neg (by omega), if_pos rfl, hq]
    dsimp only
    have e1 : i + 1 + (partsT 1 false w.parts).length + 1 - i = (34 :: (partsT 1 false w.parts ++ [34])).length := by simp; omega
    have e2 : (34 :: (partsT 1 false w.parts ++ ([34] ++ r))).drop (i + 1 + (partsT 1 false w.parts).length + 1 - i) = r := by
      rw [e1, show 34 :: (partsT 1 false w.parts ++ ([34] ++ r)) = (34 :: (partsT 1 false w.parts ++ [34])) ++ r by simp, List.drop_left]
    rw [e2, if_pos hr]
    congr 2
    simp; omega
  · rw [hk, if_neg (by omega), if_neg (by omega)]
    obtain ⟨s, hs⟩ : ∃ s, s = w.parts.flatMap (·.s) := ⟨_, rfl⟩
    rw [← hs] at hbr ⊢
    have hm := brace_more r i _ _ (Nat.le_refl _) 0 i 0 0 _ hbr
    rw [Nat.zero_add] at hm
    have e0 : [123] ++ s ++ [125] ++ r = 123 :: (s ++ ([125] ++ r)) := by simp
    rw [e0] at hm ⊢
    unfold wordS
    dsimp only
    rw [if_pos rfl, hm]
    dsimp only
    have e1 : s.length + 2 + i - i = (123 :: (s ++ [125])).length := by simp
    have e2 : (123 :: (s ++ ([125] ++ r))).drop (s.length + 2 + i - i) = r := by
      rw [e1, show 123 :: (s ++ ([125] ++ r)) = (123 :: (s ++ [125])) ++ r by simp, List.drop_left]
    have e3 : (s ++ ([125] ++ r)).take (s.length + 2 + i - i - 2) = s := by
      rw [show s.length + 2 + i - i - 2 = s.length by omega, List.take_left]
    rw [e2, if_pos hr, e3]
    have e4 : (if s = [] then [] else [(⟨false, s⟩ : Prt)]) = w.parts := by
      rcases hp with hp | ⟨s', hp, hne⟩
      · rw [hp] at hs ⊢; simp at hs; rw [if_pos hs]
      · rw [hp] at hs ⊢; simp at hs; rw [hs, if_neg hne]
    rw [e4]
    congr 2
    simp; omega
/-- A command's words. -/
theorem words_print : ∀ (ws : List Wrd), (∀ w ∈ ws, wordOk w ∧ bytesW w) → ws ≠ [] → ∀ (r : List Nat), stops r = true → ∀ (i : Nat) (acc : List Wrd), ∃ ws', samesW ws ws' ∧ wordsL (wordsT ws ++ r) i acc = wordsL r (i + (wordsT ws).length) (acc ++ ws')
  | [], _, hne, _, _, _, _ => absurd rfl hne
  | [w], h, _, r, hr, i, acc => by
    obtain ⟨hok, hb⟩ := h w (by simp)
    obtain ⟨d, t, e, -, hst⟩ := word_first hok
    have hw := word_print hok hb hr i
    refine ⟨[⟨i, w.kind, w.parts⟩], ⟨⟨rfl, rfl⟩, trivial⟩, ?_⟩
    show wordsL (wordT w ++ r) i acc = _
    rw [wordsL_word (by rw [e]; exact hst) hw, Nat.add_sub_cancel_left, List.drop_left]
    rfl
  | w :: v :: ws, h, _, r, hr, i, acc => by
    obtain ⟨hok, hb⟩ := h w (by simp)
    obtain ⟨d, t, e, -, hst⟩ := word_first hok
    obtain ⟨ws', hs, hrest⟩ := words_print (v :: ws) (fun x hx => h x (List.mem_cons_of_mem _ hx)) (by simp) r hr (i + (wordT w).length + 1) (acc ++ [⟨i, w.kind, w.parts⟩])
    have hw := word_print (r := [32] ++ (wordsT (v :: ws) ++ r)) hok hb rfl i
    refine ⟨⟨i, w.kind, w.parts⟩ :: ws', ⟨⟨rfl, rfl⟩, hs⟩, ?_⟩
    have e1 : wordsT (w :: v :: ws) ++ r = wordT w ++ ([32] ++ (wordsT (v :: ws) ++ r)) := by simp [wordsT]
    rw [e1, wordsL_word (by rw [e]; exact hst) hw, Nat.add_sub_cancel_left, List.drop_left, List.singleton_append, wordsL_blank (by decide) (by decide), hrest]
    congr 1
    · simp [wordsT]; omega
    · simp
theorem blanks_words : ∀ (b : List Nat), (∀ c ∈ b, blankB c = true) → ∀ (e : Nat), endB e = true → ∀ (r : List Nat) (i : Nat) (ws : List Wrd), wordsL (b ++ e :: r) i ws = .ok (ws, i + b.length)
  | [], _, e, he, r, i, ws => wordsL_end he r i ws
  | c :: b, h, e, he, r, i, ws => by
    have hc := h c (by simp)
    have hne : endB c = false := by simp only [blankB, decide_eq_true_eq] at hc; simp only [endB, decide_eq_false_iff_not]; omega
    rw [List.cons_append, wordsL_blank hc hne, blanks_words b (fun x hx => h x (List.mem_cons_of_mem _ hx)) e he]
    simp only [List.length_cons]
    congr 2
    omega
/-- A command with blanks and an end behind. -/
theorem parse_cmd {ws : List Wrd} (h : ∀ w ∈ ws, wordOk w ∧ bytesW w) (hne : ws ≠ []) {b : List Nat} (hb : ∀ c ∈ b, blankB c = true) {e : Nat} (he : endB e = true) (r : List Nat) (i : Nat) (cs : List Cmd) :
    ∃ ws', samesW ws ws' ∧ parseL (wordsT ws ++ (b ++ e :: r)) i cs = parseL r (i + (wordsT ws).length + b.length + 1) (cs ++ [⟨i, ws'⟩]) := by
  have hst : stops (b ++ e :: r) = true := by
    cases b with
    | nil => simp [stops, he]
    | cons c b => simp [stops, hb c (by simp)]
  obtain ⟨ws', hs, hw⟩ := words_print ws h hne (b ++ e :: r) hst i []
  rw [blanks_words b hb e he, List.nil_append] at hw
  refine ⟨ws', hs, ?_⟩
  have hf : ∃ d t, wordsT ws = d :: t ∧ d ≠ 35 ∧ (blankB d || endB d) = false := by
    cases ws with
    | nil => exact absurd rfl hne
    | cons w ws =>
      obtain ⟨d, t, e1, h1, h2⟩ := word_first (h w (by simp)).1
      cases ws with
      | nil => exact ⟨d, t, e1, h1, h2⟩
      | cons v ws => exact ⟨d, t ++ [32] ++ wordsT (v :: ws), by simp [wordsT, e1], h1, h2⟩
  obtain ⟨d, t, e1, h1, h2⟩ := hf
  rw [e1, List.cons_append] at hw ⊢
  rw [parseL_cmd h2 h1 hw]
  have e2 : i + (d :: t).length + b.length - i = ((d :: t) ++ b).length := by simp; omega
  have e3 : (d :: (t ++ (b ++ e :: r))).drop (i + (d :: t).length + b.length - i) = e :: r := by
    rw [e2, show d :: (t ++ (b ++ e :: r)) = ((d :: t) ++ b) ++ e :: r by simp, List.drop_left]
  rw [e3, parseL_stop (by simp [he])]
theorem parse_print : ∀ (l : List Cmd), (∀ c ∈ l, cmdOk c ∧ ∀ w ∈ c.words, bytesW w) → ∀ (r : List Nat) (i : Nat) (cs : List Cmd), ∃ l', samesC l l' ∧ parseL (printT l ++ r) i cs = parseL r (i + (printT l).length) (cs ++ l')
  | [], _, r, i, cs => ⟨[], trivial, by simp [printT]⟩
  | c :: l, h, r, i, cs => by
    obtain ⟨hok, hb⟩ := h c (by simp)
    obtain ⟨ws', hs, h1⟩ := parse_cmd (fun w hw => ⟨hok.2 w hw, hb w hw⟩) hok.1 (b := []) (by simp) (e := 10) (by decide) (printT l ++ r) i cs
    obtain ⟨l', hs2, h2⟩ := parse_print l (fun x hx => h x (List.mem_cons_of_mem _ hx)) r (i + (wordsT c.words).length + 0 + 1) (cs ++ [⟨i, ws'⟩])
    refine ⟨⟨i, ws'⟩ :: l', ⟨hs, hs2⟩, ?_⟩
    have e1 : printT (c :: l) ++ r = wordsT c.words ++ ([] ++ 10 :: (printT l ++ r)) := by simp [printT, cmdT]
    rw [e1, h1]
    simp only [List.length_nil] at h2 ⊢
    rw [h2]
    congr 1
    · simp [printT, cmdT]; omega
    · simp
end Go.Proofs.Ytphmhglebeapaaa
namespace Go.Proofs.Ytphmhglebeapaaa

/-- Is the last part a text? -/
def lastText (after : Bool) (ps : List Prt) : Bool := match ps.getLast? with | none => after | some p => !p.var
theorem partsOk_snoc (q : Prt) : ∀ (ps : List Prt) (after : Bool), partsOk after (ps ++ [q]) ↔ partsOk after ps ∧ (if q.var then nameOk q.s else q.s ≠ [] ∧ lastText after ps = false)
  | [], after => by simp [partsOk, lastText]
  | p :: ps, after => by
    rw [List.cons_append]
    unfold partsOk
    by_cases hv : p.var = true
    · rw [if_pos hv, if_pos hv, partsOk_snoc q ps false]
      have e : lastText after (p :: ps) = lastText false ps := by
        cases ps with
        | nil => simp [lastText, hv]
        | cons b ps =>
          unfold lastText
          rw [List.getLast?_cons_cons]
          cases hg : (b :: ps).getLast? with
          | none => simp at hg
          | some x => rfl
      rw [e, and_assoc]
    · rw [if_neg hv, if_neg hv, partsOk_snoc q ps true]
      have e : lastText after (p :: ps) = lastText true ps := by
        cases ps with
        | nil => simp [lastText, hv]
        | cons b ps =>
          unfold lastText
          rw [List.getLast?_cons_cons]
          cases hg : (b :: ps).getLast? with
          | none => simp at hg
          | some x => rfl
      rw [e, and_assoc, and_assoc]
/-- Parts as they are gathered: right, of bytes, and so heavy. -/
def weight (ps : List Prt) : Nat := (ps.map fun p => 1 + p.s.length).sum
theorem weight_snoc (ps : List Prt) (q : Prt) : weight (ps ++ [q]) = weight ps + (1 + q.s.length) := by simp [weight]
def bytesP (ps : List Prt) : Prop := ∀ p ∈ ps, ∀ c ∈ p.s, c < 256
theorem bytesP_snoc {ps : List Prt} {q : Prt} : bytesP (ps ++ [q]) ↔ bytesP ps ∧ ∀ c ∈ q.s, c < 256 := by
  unfold bytesP
  constructor
  · intro h; exact ⟨fun p hp => h p (List.mem_append_left _ hp), h q (by simp)⟩
  · intro h p hp
    rcases List.mem_append.1 hp with hp | hp
    · exact h.1 p hp
    · rw [List.mem_singleton.1 hp]; exact h.2
theorem snoc_of (ps : List Prt) : ps = [] ∨ ∃ p q, ps = p ++ [q] := by
  rcases List.eq_nil_or_concat ps with h | ⟨p, q, h⟩
  · exact .inl h
  · exact .inr ⟨p, q, by rw [h, List.concat_eq_append]⟩
theorem addP_ok {ps : List Prt} (h : partsOk false ps) (hb : bytesP ps) {c : Nat} (hc : c < 256) : partsOk false (addP ps c) ∧ bytesP (addP ps c) ∧ addP ps c ≠ [] ∧ weight (addP ps c) ≤ weight ps + 2 := by
  rcases snoc_of ps with rfl | ⟨p, q, rfl⟩
  · exact ⟨by simp [addP_nil, partsOk], by rw [addP_nil]; intro p hp; rw [List.mem_singleton.1 hp]; simpa using hc, by simp [addP_nil], by simp [addP_nil, weight]⟩
  · obtain ⟨v, s⟩ := q
    cases v with
    | true =>
      rw [addP_var]
      refine ⟨(partsOk_snoc _ _ _).2 ⟨h, ?_⟩, bytesP_snoc.2 ⟨hb, by simpa using hc⟩, by simp, by have e := weight_snoc (p ++ [(⟨true, s⟩ : Prt)]) ⟨false, [c]⟩; rw [e]; simp⟩
      simp [lastText]
    | false =>
      rw [addP_text]
      have h1 := (partsOk_snoc _ _ _).1 h
      simp only [Bool.false_eq_true, if_false] at h1
      have hb1 := bytesP_snoc.1 hb
      refine ⟨(partsOk_snoc _ _ _).2 ⟨h1.1, ?_⟩, bytesP_snoc.2 ⟨hb1.1, ?_⟩, by simp, ?_⟩
      · simp [h1.2.2]
      · intro x hx
        rcases List.mem_append.1 hx with hx | hx
        · exact hb1.2 x hx
        · rw [List.mem_singleton.1 hx]; exact hc
      · rw [weight_snoc, weight_snoc]; simp; omega
theorem nameRun_byte {l : List Nat} (h : ∀ c ∈ l, c < 256) : ∀ c ∈ nameRun l, c < 256 := fun c hc => h c ((List.takeWhile_sublist _).subset hc)
theorem nameRun_name (l : List Nat) : ∀ c ∈ nameRun l, nameB c = true := by
  unfold nameRun
  induction l with
  | nil => simp
  | cons c r ih =>
    intro x hx
    rw [List.takeWhile_cons] at hx
    split at hx
    · rcases List.mem_cons.1 hx with rfl | hx
      · assumption
      · exact ih x hx
    · cases hx
theorem one_ok {l : List Nat} (hl : l ≠ []) (hbl : ∀ c ∈ l, c < 256) {i op : Nat} {ps ps' : List Prt} {k : Nat} (h : oneS l i op ps = .ok (ps', k)) (hp : partsOk false ps) (hb : bytesP ps) : partsOk false ps' ∧ bytesP ps' ∧ ps' ≠ [] ∧ weight ps' ≤ weight ps + 2 * k := by
  cases l with
  | nil => exact absurd rfl hl
  | cons c r =>
    have hr : ∀ c ∈ r, c < 256 := fun x hx => hbl x (List.mem_cons_of_mem _ hx)
    unfold oneS at h
    dsimp only at h
    split at h
    · split at h
      · cases h
      · injection h with h; injection h with h1 h2
        have := addP_ok hp hb (escL_byte hr)
        have hpos := (escL_pos r).1
        rw [← h1, ← h2]; exact ⟨this.1, this.2.1, this.2.2.1, by omega⟩
    · split at h
      · cases h
      · split at h
        · cases h
        · rename_i hlong
          split at h
          · rename_i hname
            injection h with h; injection h with h1 h2
            rw [← h1, ← h2]
            have hlen : 1 ≤ (nameRun r).length := List.length_pos_iff.2 hname.2
            refine ⟨(partsOk_snoc _ _ _).2 ⟨hp, ?_⟩, bytesP_snoc.2 ⟨hb, nameRun_byte hr⟩, by simp, ?_⟩
            · simp only [if_true]
              exact ⟨nameRun_name r, hlen, by have := hname.1; omega⟩
            · rw [weight_snoc]; simp only; omega
          · injection h with h; injection h with h1 h2
            have := addP_ok hp hb (hbl c (by simp))
            rw [← h1, ← h2]; exact ⟨this.1, this.2.1, this.2.2.1, by omega⟩
theorem quot_ok : ∀ (n st : Nat) (l : List Nat), l.length ≤ n → (∀ c ∈ l, c < 256) → ∀ (i : Nat) (ps ps' : List Prt) (j : Nat), quotS st l i ps = .ok (ps', j) → partsOk false ps → bytesP ps → partsOk false ps' ∧ bytesP ps' ∧ weight ps' ≤ weight ps + 2 * (j - i) := by
  intro n
  induction n with
  | zero =>
    intro st l hl _ i ps ps' j h
    obtain rfl : l = [] := List.length_eq_zero_iff.1 (by omega)
    rw [quotS] at h; cases h
  | succ n ih =>
    intro st l hl hbl i ps ps' j h hp hb
    cases l with
    | nil => rw [quotS] at h; cases h
    | cons c r =>
      simp only [List.length_cons] at hl
      rw [quotS] at h
      split at h
      · injection h with h; injection h with h1 h2; rw [← h1]; exact ⟨hp, hb, by omega⟩
      · cases ho : oneS (c :: r) i st ps with
        | error e => rw [ho] at h; cases h
        | ok q =>
          obtain ⟨qs, k⟩ := q
          rw [ho] at h
          dsimp only at h
          have h1 := one_ok (by simp) hbl ho hp hb
          have h2 := oneS_pos ho (by simp)
          have h3 := quotS_le _ _ _ (Nat.le_refl _) _ _ _ _ h
          have h4 := ih st (r.drop (k - 1)) (by rw [List.length_drop]; omega) (fun x hx => hbl x (List.mem_cons_of_mem _ (List.mem_of_mem_drop hx))) _ _ _ _ h h1.1 h1.2.1
          exact ⟨h4.1, h4.2.1, by omega⟩
theorem bare_ok : ∀ (n : Nat) (l : List Nat), l.length ≤ n → (∀ c ∈ l, c < 256) → ∀ (i : Nat) (ps ps' : List Prt) (j : Nat), bareS l i ps = .ok (ps', j) → partsOk false ps → bytesP ps → partsOk false ps' ∧ bytesP ps' ∧ (stops l = false ∨ ps ≠ [] → ps' ≠ []) ∧ weight ps' ≤ weight ps + 2 * (j - i) := by
  intro n
  induction n with
  | zero =>
    intro l hl _ i ps ps' j h hp hb
    obtain rfl : l = [] := List.length_eq_zero_iff.1 (by omega)
    rw [bareS] at h; injection h with h; injection h with h1 h2
    rw [← h1]; exact ⟨hp, hb, by simp [stops], by omega⟩
  | succ n ih =>
    intro l hl hbl i ps ps' j h hp hb
    cases l with
    | nil => rw [bareS] at h; injection h with h; injection h with h1 h2; rw [← h1]; exact ⟨hp, hb, by simp [stops], by omega⟩
    | cons c r =>
      simp only [List.length_cons] at hl
      rw [bareS] at h
      split at h
      · rename_i hs
        injection h with h; injection h with h1 h2; rw [← h1]
        refine ⟨hp, hb, fun hh => hh.elim (fun e => ?_) id, by omega⟩
        simp only [stops] at e; rw [hs] at e; cases e
      · cases ho : oneS (c :: r) i i ps with
        | error e => rw [ho] at h; cases h
        | ok q =>
          obtain ⟨qs, k⟩ := q
          rw [ho] at h
          dsimp only at h
          have h1 := one_ok (by simp) hbl ho hp hb
          have h2 := oneS_pos ho (by simp)
          have h3 := bareS_le _ _ (Nat.le_refl _) _ _ _ _ h
          have h4 := ih (r.drop (k - 1)) (by rw [List.length_drop]; omega) (fun x hx => hbl x (List.mem_cons_of_mem _ (List.mem_of_mem_drop hx))) _ _ _ _ h h1.1 h1.2.1
          exact ⟨h4.1, h4.2.1, fun _ => h4.2.2.1 (.inr h1.2.2.1), by omega⟩
/-- A braced word alone. -/
theorem brace_take : ∀ (n : Nat) (l : List Nat), l.length ≤ n → ∀ (st st' i i' deep j : Nat), braceS st l i deep = .ok j → braceS st' (l.take (j - i)) i' deep = .ok (i' + (j - i)) ∧ l[j - i - 1]? = some 125 := by
  intro n
  induction n with
  | zero =>
    intro l hl st st' i i' deep j h
    obtain rfl : l = [] := List.length_eq_zero_iff.1 (by omega)
    rw [braceS] at h; cases h
  | succ n ih =>
    intro l hl st st' i i' deep j h
    cases l with
    | nil => rw [braceS] at h; cases h
    | cons c r =>
      have hle := braceS_le _ _ _ (Nat.le_refl _) _ _ _ h
      simp only [List.length_cons] at hl hle
      obtain ⟨m, hm⟩ : ∃ m, j - i = m + 1 := ⟨j - i - 1, by omega⟩
      rw [hm, List.take_succ_cons, braceS]
      rw [braceS] at h
      split at h
      · rename_i hc
        rw [if_pos hc]
        split at h
        · cases h
        · rename_i hr
          have hr1 := List.length_pos_iff.2 hr
          have h1 := braceS_le _ _ _ (Nat.le_refl _) _ _ _ h
          rw [List.length_drop] at h1
          have h2 := ih (r.drop 1) (by rw [List.length_drop]; omega) st st' _ (i' + 2) _ _ h
          have e1 : (r.take m).drop 1 = (r.drop 1).take (j - (i + 2)) := by rw [List.drop_take]; congr 1; omega
          rw [if_neg (by intro e; have := congrArg List.length e; rw [List.length_take, List.length_nil] at this; omega), e1, h2.1]
          refine ⟨by congr 1; omega, ?_⟩
          have h3 := h2.2
          rw [List.getElem?_drop] at h3
          rw [show m + 1 - 1 = (1 + (j - (i + 2) - 1)) + 1 by omega, List.getElem?_cons_succ]
          exact h3
      · rename_i hc
        rw [if_neg hc]
        have next : ∀ d, braceS st r (i + 1) d = .ok j → braceS st' (r.take m) (i' + 1) d = .ok (i' + (m + 1)) ∧ (c :: r)[m + 1 - 1]? = some 125 := by
          intro d hd
          have h1 := braceS_le _ _ _ (Nat.le_refl _) _ _ _ hd
          have h2 := ih r (by omega) st st' _ (i' + 1) _ _ hd
          rw [show j - (i + 1) = m by omega] at h2
          refine ⟨by rw [h2.1]; congr 1; omega, ?_⟩
          rw [show m + 1 - 1 = (m - 1) + 1 by omega, List.getElem?_cons_succ]
          exact h2.2
        split at h
        · rename_i h1
          rw [if_pos h1]
          split at h
          · cases h
          · rename_i h2
            rw [if_neg h2]; exact next _ h
        · rename_i h1
          rw [if_neg h1]
          split at h
          · rename_i h2
            rw [if_pos h2]
            split at h
            · rename_i h3
              injection h with h
              obtain rfl : m = 0 := by omega
              rw [if_pos h3]
              exact ⟨rfl, by simp [h2]⟩
            · rename_i h3
              rw [if_neg h3]; exact next _ h
          · rename_i h2
            rw [if_neg h2]; exact next _ h
theorem word_ok {l : List Nat} (hs : stops l = false) (hbl : ∀ c ∈ l, c < 256) {i j : Nat} {w : Wrd} (h : wordS l i = .ok (w, j)) : wordOk w ∧ bytesW w ∧ weight w.parts ≤ 2 * (j - i) := by
  have hle := wordS_le h hs
  cases l with
  | nil => cases hs
  | cons c r =>
    have hr : ∀ c ∈ r, c < 256 := fun x hx => hbl x (List.mem_cons_of_mem _ hx)
    unfold wordS at h
    dsimp only at h
    split at h
    · rename_i hc
      subst hc
      cases hb : braceS i (123 :: r) i 0 with
      | error e => rw [hb] at h; cases h
      | ok m =>
        rw [hb] at h
        dsimp only at h
        split at h
        · injection h with h; injection h with h1 h2
          subst h2
          have ht := brace_take _ _ (Nat.le_refl _) i 0 i 0 0 m hb
          have hl1 := braceS_le _ _ _ (Nat.le_refl _) _ _ _ hb
          simp only [List.length_cons] at hl1 hle
          have h2m : 2 ≤ m - i := by
            rcases Nat.lt_or_ge (m - i) 2 with h2 | h2
            · have h3 := ht.2
              rw [show m - i - 1 = 0 by omega] at h3
              simp at h3
            · exact h2
          obtain ⟨k, hk⟩ : ∃ k, m - i = k + 2 := ⟨m - i - 2, by omega⟩
          obtain ⟨T, hT⟩ : ∃ T, T = r.take k := ⟨_, rfl⟩
          have hTl : T.length = k := by rw [hT, List.length_take]; omega
          rw [show m - i - 2 = k by omega, ← hT] at h1
          have e1 : (123 :: r).take (m - i) = [123] ++ T ++ [125] := by
            have h3 := ht.2
            rw [hk] at h3 ⊢
            rw [show k + 2 - 1 = k + 1 by omega, List.getElem?_cons_succ] at h3
            obtain ⟨hlt, hget⟩ := List.getElem?_eq_some_iff.1 h3
            rw [List.take_succ_cons, List.take_succ_eq_append_getElem hlt, hget, hT]; simp
          have hbr : braceS 0 ([123] ++ T ++ [125]) 0 0 = .ok (T.length + 2) := by
            rw [← e1, ht.1]; congr 1; omega
          have hTb : ∀ c ∈ T, c < 256 := fun x hx => hr x (by rw [hT] at hx; exact List.mem_of_mem_take hx)
          by_cases hT0 : T = []
          · rw [if_pos hT0] at h1
            subst h1
            refine ⟨.inr (.inr ⟨rfl, .inl rfl, ?_⟩), (by intro p hp; cases hp), by simp [weight]⟩
            rw [hT0] at hbr; simpa using hbr
          · rw [if_neg hT0] at h1
            subst h1
            refine ⟨.inr (.inr ⟨rfl, .inr ⟨T, rfl, hT0⟩, ?_⟩), by intro p hp; rw [List.mem_singleton.1 hp]; exact hTb, by simp [weight]; omega⟩
            simpa using hbr
        · cases h
    · split at h
      · cases hb : quotS i r (i + 1) [] with
        | error e => rw [hb] at h; cases h
        | ok m =>
          obtain ⟨ps, m⟩ := m
          rw [hb] at h
          dsimp only at h
          split at h
          · injection h with h; injection h with h1 h2
            subst h1 h2
            have := quot_ok _ _ _ (Nat.le_refl _) hr _ _ _ _ hb trivial (by intro p hp; cases hp)
            exact ⟨.inr (.inl ⟨rfl, this.1⟩), this.2.1, by have := this.2.2; simp only [weight, List.map_nil, List.sum_nil] at this ⊢; omega⟩
          · cases h
      · cases hb : bareS (c :: r) i [] with
        | error e => rw [hb] at h; cases h
        | ok m =>
          obtain ⟨ps, m⟩ := m
          rw [hb] at h
          injection h with h; injection h with h1 h2
          subst h1 h2
          have := bare_ok _ _ (Nat.le_refl _) hbl _ _ _ _ hb trivial (by intro p hp; cases hp)
          exact ⟨.inl ⟨rfl, this.2.2.1 (.inl hs), this.1⟩, this.2.1, by have := this.2.2.2; simp only [weight, List.map_nil, List.sum_nil] at this ⊢; omega⟩
/-- How heavy words and commands are. -/
def weightW (ws : List Wrd) : Nat := (ws.map fun w => 3 + weight w.parts).sum
def weightC (cs : List Cmd) : Nat := (cs.map fun c => 1 + weightW c.words).sum
theorem weightW_snoc (ws : List Wrd) (w : Wrd) : weightW (ws ++ [w]) = weightW ws + (3 + weight w.parts) := by simp [weightW]
theorem weightC_snoc (cs : List Cmd) (c : Cmd) : weightC (cs ++ [c]) = weightC cs + (1 + weightW c.words) := by simp [weightC]
def wordsOk (ws : List Wrd) : Prop := ∀ w ∈ ws, wordOk w ∧ bytesW w
theorem wordsOk_snoc {ws : List Wrd} {w : Wrd} (h : wordsOk ws) (hw : wordOk w ∧ bytesW w) : wordsOk (ws ++ [w]) := by
  intro x hx
  rcases List.mem_append.1 hx with hx | hx
  · exact h x hx
  · rw [List.mem_singleton.1 hx]; exact hw
theorem words_ok : ∀ (n : Nat) (l : List Nat), l.length ≤ n → (∀ c ∈ l, c < 256) → ∀ (i : Nat) (ws ws' : List Wrd) (j : Nat), wordsL l i ws = .ok (ws', j) → wordsOk ws → wordsOk ws' ∧ (stops l = false ∨ ws ≠ [] → ws' ≠ []) ∧ weightW ws' ≤ weightW ws + 5 * (j - i) := by
  intro n
  induction n with
  | zero =>
    intro l hl _ i ws ws' j h hw
    obtain rfl : l = [] := List.length_eq_zero_iff.1 (by omega)
    rw [wordsL_nil] at h; injection h with h; injection h with h1 h2; rw [← h1]; exact ⟨hw, by simp [stops], by omega⟩
  | succ n ih =>
    intro l hl hbl i ws ws' j h hw
    rcases stops_cases l with rfl | ⟨c, r, rfl, he⟩ | ⟨c, r, rfl, hb, he⟩ | hs
    · rw [wordsL_nil] at h; injection h with h; injection h with h1 h2; rw [← h1]; exact ⟨hw, by simp [stops], by omega⟩
    · rw [wordsL_end he] at h; injection h with h; injection h with h1 h2; rw [← h1]; exact ⟨hw, by simp [stops, he], by omega⟩
    · rw [wordsL_blank hb he] at h
      simp only [List.length_cons] at hl
      have hle := wordsL_le _ _ (Nat.le_refl _) _ _ _ _ h
      have h1 := ih r (by omega) (fun x hx => hbl x (List.mem_cons_of_mem _ hx)) _ _ _ _ h hw
      refine ⟨h1.1, fun hh => h1.2.1 (.inr (hh.elim (fun e => ?_) id)), by omega⟩
      simp [stops, hb] at e
    · cases hwd : wordS l i with
      | error e => rw [wordsL_bad hs hwd] at h; cases h
      | ok q =>
        obtain ⟨w, m⟩ := q
        rw [wordsL_word hs hwd] at h
        have h1 := wordS_le hwd hs
        have h2 := word_ok hs hbl hwd
        have hle := wordsL_le _ _ (Nat.le_refl _) _ _ _ _ h
        have h3 := ih (l.drop (m - i)) (by rw [List.length_drop]; omega) (fun x hx => hbl x (List.mem_of_mem_drop hx)) _ _ _ _ h (wordsOk_snoc hw ⟨h2.1, h2.2.1⟩)
        refine ⟨h3.1, fun _ => h3.2.1 (.inr (by simp)), ?_⟩
        rw [weightW_snoc] at h3
        omega
def cmdsOk (cs : List Cmd) : Prop := ∀ c ∈ cs, cmdOk c ∧ ∀ w ∈ c.words, bytesW w
theorem parse_ok : ∀ (n : Nat) (l : List Nat), l.length ≤ n → (∀ c ∈ l, c < 256) → ∀ (i : Nat) (cs cs' : List Cmd), parseL l i cs = .ok cs' → cmdsOk cs → cmdsOk cs' ∧ weightC cs' ≤ weightC cs + 6 * l.length := by
  intro n
  induction n with
  | zero =>
    intro l hl _ i cs cs' h hc
    obtain rfl : l = [] := List.length_eq_zero_iff.1 (by omega)
    rw [parseL_nil] at h; injection h with h; rw [← h]; exact ⟨hc, by omega⟩
  | succ n ih =>
    intro l hl hbl i cs cs' h hc
    cases l with
    | nil => rw [parseL_nil] at h; injection h with h; rw [← h]; exact ⟨hc, by omega⟩
    | cons c r =>
      simp only [List.length_cons] at hl ⊢
      have hr : ∀ c ∈ r, c < 256 := fun x hx => hbl x (List.mem_cons_of_mem _ hx)
      by_cases hs : (blankB c || endB c) = true
      · rw [parseL_stop hs] at h
        have := ih r (by omega) hr _ _ _ h hc
        exact ⟨this.1, by omega⟩
      · by_cases h35 : c = 35
        · subst h35
          rw [parseL_hash] at h
          have hl2 := run_hash r
          have := ih _ (by omega) (fun x hx => hbl x ((List.dropWhile_sublist _).subset hx)) _ _ _ h hc
          exact ⟨this.1, by omega⟩
        · have hs' : stops (c :: r) = false := by simpa [stops] using hs
          cases hw : wordsL (c :: r) i [] with
          | error e => rw [parseL_bad hs' h35 hw] at h; cases h
          | ok q =>
            obtain ⟨ws, j⟩ := q
            rw [parseL_cmd hs' h35 hw] at h
            have h1 := wordsL_le _ _ (Nat.le_refl _) _ _ _ _ hw
            have h2 := words_ok _ _ (Nat.le_refl _) hbl _ _ _ _ hw (by intro x hx; cases hx)
            have h1' := h1.2.2 hs'
            simp only [List.length_cons] at h1
            have hcs : cmdsOk (cs ++ [⟨i, ws⟩]) := by
              intro x hx
              rcases List.mem_append.1 hx with hx | hx
              · exact hc x hx
              · rw [List.mem_singleton.1 hx]
                exact ⟨⟨h2.2.1 (.inl hs'), fun w hw => (h2.1 w hw).1⟩, fun w hw => (h2.1 w hw).2⟩
            have h3 := ih ((c :: r).drop (j - i)) (by rw [List.length_drop, List.length_cons]; omega) (fun x hx => hbl x (List.mem_of_mem_drop hx)) _ _ _ h hcs
            rw [weightC_snoc, List.length_drop, List.length_cons] at h3
            have h4 := h2.2.2
            simp only [weightW, List.map_nil, List.sum_nil] at h4 h3
            exact ⟨h3.1, by omega⟩
end Go.Proofs.Ytphmhglebeapaaa
namespace Go.Proofs.Ytphmhglebeapaaa

/-! ### With a line's end and anything behind -/
section
variable {x : List Nat}
theorem digs_more (x : List Nat) : ∀ (n v : Nat) (l : List Nat), digs n v (l ++ 10 :: x) = digs n v l
  | 0, _, _ => rfl
  | n + 1, v, [] => by simp [digs, octd]
  | n + 1, v, c :: l => by
    rw [List.cons_append]
    unfold digs
    split
    · rw [digs_more x n]
    · rfl
theorem escL_more {l : List Nat} (h : l ≠ []) : escL (l ++ 10 :: x) = escL l := by
  unfold escL
  rw [digs_more]
  cases l with
  | nil => exact absurd rfl h
  | cons c l => rfl
theorem nameRun_more (l : List Nat) : nameRun (l ++ 10 :: x) = nameRun l := by
  unfold nameRun
  induction l with
  | nil => rw [List.nil_append, List.takeWhile_cons]; rfl
  | cons c l ih => rw [List.cons_append, List.takeWhile_cons, List.takeWhile_cons, ih]
theorem one_more {l : List Nat} (hl : l ≠ []) {i op i' op' : Nat} {ps : List Prt} {q : List Prt × Nat} (h : oneS l i op ps = .ok q) : oneS (l ++ 10 :: x) i' op' ps = .ok q ∧ oneS l i' op' ps = .ok q := by
  cases l with
  | nil => exact absurd rfl hl
  | cons c r =>
    rw [List.cons_append]
    unfold oneS at h ⊢
    dsimp only at h ⊢
    split at h
    · rename_i hc
      rw [if_pos hc, if_pos hc]
      split at h
      · cases h
      · rename_i hr
        rw [if_neg (by simp), if_neg hr, escL_more hr]
        exact ⟨h, h⟩
    · rename_i hc
      rw [if_neg hc, if_neg hc]
      split at h
      · cases h
      · rename_i h91
        rw [if_neg h91, if_neg h91, nameRun_more]
        split at h
        · cases h
        · rename_i hlong
          rw [if_neg hlong]
          split at h
          · rename_i hn
            rw [if_pos hn]
            exact ⟨h, h⟩
          · rename_i hn
            rw [if_neg hn]
            exact ⟨h, h⟩
theorem quot_more : ∀ (n st st' : Nat) (l : List Nat), l.length ≤ n → ∀ (i d : Nat) (ps ps' : List Prt) (j : Nat), quotS st l i ps = .ok (ps', j) → quotS st' (l ++ 10 :: x) (i + d) ps = .ok (ps', j + d) ∧ quotS st' l (i + d) ps = .ok (ps', j + d) := by
  intro n
  induction n with
  | zero =>
    intro st st' l hl i d ps ps' j h
    obtain rfl : l = [] := List.length_eq_zero_iff.1 (by omega)
    rw [quotS] at h; cases h
  | succ n ih =>
    intro st st' l hl i d ps ps' j h
    cases l with
    | nil => rw [quotS] at h; cases h
    | cons c r =>
      simp only [List.length_cons] at hl
      rw [quotS] at h
      rw [List.cons_append, quotS, quotS]
      split at h
      · rename_i hc
        rw [if_pos hc, if_pos hc]
        injection h with h; injection h with h1 h2
        rw [h1, ← h2, show i + 1 + d = i + d + 1 by omega]
        exact ⟨rfl, rfl⟩
      · rename_i hc
        rw [if_neg hc, if_neg hc]
        cases ho : oneS (c :: r) i st ps with
        | error e => rw [ho] at h; cases h
        | ok q =>
          obtain ⟨qs, k⟩ := q
          rw [ho] at h
          dsimp only at h
          have hk := oneS_pos ho (by simp)
          obtain ⟨o1, o2⟩ := one_more (x := x) (i' := i + d) (op' := st') (by simp) ho
          rw [List.cons_append] at o1
          rw [o1, o2]
          dsimp only
          have h1 := ih st st' (r.drop (k - 1)) (by rw [List.length_drop]; omega) (i + k) d _ _ _ h
          simp only [List.length_cons] at hk
          rw [List.drop_append_of_le_length (by omega), show i + d + k = i + k + d by omega]
          exact h1
theorem bare_more : ∀ (n : Nat) (l : List Nat), l.length ≤ n → ∀ (i d : Nat) (ps ps' : List Prt) (j : Nat), bareS l i ps = .ok (ps', j) → bareS (l ++ 10 :: x) (i + d) ps = .ok (ps', j + d) ∧ bareS l (i + d) ps = .ok (ps', j + d) := by
  intro n
  induction n with
  | zero =>
    intro l hl i d ps ps' j h
    obtain rfl : l = [] := List.length_eq_zero_iff.1 (by omega)
    rw [bareS] at h; injection h with h; injection h with h1 h2
    rw [List.nil_append, bareS, bareS, if_pos (by decide), h1, h2]; exact ⟨rfl, rfl⟩
  | succ n ih =>
    intro l hl i d ps ps' j h
    cases l with
    | nil =>
      rw [bareS] at h; injection h with h; injection h with h1 h2
      rw [List.nil_append, bareS, bareS, if_pos (by decide), h1, h2]; exact ⟨rfl, rfl⟩
    | cons c r =>
      simp only [List.length_cons] at hl
      rw [bareS] at h
      rw [List.cons_append, bareS, bareS]
      split at h
      · rename_i hc
        rw [if_pos hc, if_pos hc]
        injection h with h; injection h with h1 h2
        rw [h1, h2]; exact ⟨rfl, rfl⟩
      · rename_i hc
        rw [if_neg hc, if_neg hc]
        cases ho : oneS (c :: r) i i ps with
        | error e => rw [ho] at h; cases h
        | ok q =>
          obtain ⟨qs, k⟩ := q
          rw [ho] at h
          dsimp only at h
          have hk := oneS_pos ho (by simp)
          obtain ⟨o1, o2⟩ := one_more (x := x) (i' := i + d) (op' := i + d) (by simp) ho
          rw [List.cons_append] at o1
          rw [o1, o2]
          dsimp only
          have h1 := ih (r.drop (k - 1)) (by rw [List.length_drop]; omega) (i + k) d _ _ _ h
          simp only [List.length_cons] at hk
          rw [List.drop_append_of_le_length (by omega), show i + d + k = i + k + d by omega]
          exact h1
/-- A word, a command so much further on. -/
def shW (d : Nat) (w : Wrd) : Wrd := ⟨w.at_ + d, w.kind, w.parts⟩
def shC (d : Nat) (c : Cmd) : Cmd := ⟨c.at_ + d, c.words.map (shW d)⟩
theorem stops_more {l : List Nat} {k : Nat} (hk : k ≤ l.length) (h : stops (l.drop k) = true) : stops ((l ++ 10 :: x).drop k) = true := by
  rw [List.drop_append_of_le_length hk]
  cases hd : l.drop k with
  | nil => rfl
  | cons c r => rw [hd] at h; exact h
theorem word_more {l : List Nat} (hs : stops l = false) {i d j : Nat} {w : Wrd} (h : wordS l i = .ok (w, j)) : wordS (l ++ 10 :: x) (i + d) = .ok (shW d w, j + d) ∧ wordS l (i + d) = .ok (shW d w, j + d) := by
  have hle := wordS_le h hs
  cases l with
  | nil => cases hs
  | cons c r =>
    rw [List.cons_append]
    unfold wordS at h ⊢
    dsimp only at h ⊢
    split at h
    · rename_i hc
      rw [if_pos hc, if_pos hc]
      cases hb : braceS i (c :: r) i 0 with
      | error e => rw [hb] at h; cases h
      | ok m =>
        rw [hb] at h
        dsimp only at h
        split at h
        · rename_i hst
          injection h with h; injection h with h1 h2
          subst h2
          have b1 := brace_more (10 :: x) d _ _ (Nat.le_refl _) i (i + d) i 0 _ hb
          have b2 := brace_more [] d _ _ (Nat.le_refl _) i (i + d) i 0 _ hb
          rw [List.append_nil] at b2
          rw [List.cons_append] at b1
          rw [b1, b2]
          dsimp only
          have e1 : m + d - (i + d) = m - i := by omega
          rw [e1, if_pos hst, if_pos (by have := stops_more (x := x) (l := c :: r) (k := m - i) (by omega) hst; rwa [List.cons_append] at this)]
          simp only [List.length_cons] at hle
          rw [List.take_append_of_le_length (by omega), ← h1]
          refine ⟨?_, ?_⟩ <;> (unfold shW; simp)
        · cases h
    · rename_i hc
      rw [if_neg hc, if_neg hc]
      split at h
      · rename_i hq
        rw [if_pos hq, if_pos hq]
        cases hb : quotS i r (i + 1) [] with
        | error e => rw [hb] at h; cases h
        | ok m =>
          obtain ⟨ps, m⟩ := m
          rw [hb] at h
          dsimp only at h
          split at h
          · rename_i hst
            injection h with h; injection h with h1 h2
            subst h2
            obtain ⟨b1, b2⟩ := quot_more (x := x) _ i (i + d) r (Nat.le_refl _) (i + 1) d _ _ _ hb
            rw [show i + 1 + d = i + d + 1 by omega] at b1 b2
            rw [b1, b2]
            dsimp only
            have e1 : m + d - (i + d) = m - i := by omega
            rw [e1, if_pos hst, if_pos (by have := stops_more (x := x) (l := c :: r) (k := m - i) (by omega) hst; rwa [List.cons_append] at this), ← h1]
            refine ⟨?_, ?_⟩ <;> (unfold shW; simp)
          · cases h
      · rename_i hq
        rw [if_neg hq, if_neg hq]
        cases hb : bareS (c :: r) i [] with
        | error e => rw [hb] at h; cases h
        | ok m =>
          obtain ⟨ps, m⟩ := m
          rw [hb] at h
          injection h with h; injection h with h1 h2
          obtain ⟨b1, b2⟩ := bare_more (x := x) _ _ (Nat.le_refl _) i d _ _ _ hb
          rw [List.cons_append] at b1
          rw [b1, b2, ← h1, ← h2]
          refine ⟨?_, ?_⟩ <;> (unfold shW; simp)
theorem stops_app {l : List Nat} (h : stops l = false) (y : List Nat) : stops (l ++ y) = false := by
  cases l with
  | nil => cases h
  | cons c r => exact h
theorem words_more : ∀ (n : Nat) (l : List Nat), l.length ≤ n → ∀ (i d : Nat) (ws ws' pre : List Wrd) (j : Nat), wordsL l i ws = .ok (ws', j) →
    wordsL (l ++ 10 :: x) (i + d) (pre ++ ws.map (shW d)) = .ok (pre ++ ws'.map (shW d), j + d) ∧ wordsL l (i + d) (pre ++ ws.map (shW d)) = .ok (pre ++ ws'.map (shW d), j + d) := by
  intro n
  induction n with
  | zero =>
    intro l hl i d ws ws' pre j h
    obtain rfl : l = [] := List.length_eq_zero_iff.1 (by omega)
    rw [wordsL_nil] at h; injection h with h; injection h with h1 h2
    rw [List.nil_append, wordsL_end (by decide), wordsL_nil, h1, h2]; exact ⟨rfl, rfl⟩
  | succ n ih =>
    intro l hl i d ws ws' pre j h
    rcases stops_cases l with rfl | ⟨c, r, rfl, he⟩ | ⟨c, r, rfl, hb, he⟩ | hs
    · rw [wordsL_nil] at h; injection h with h; injection h with h1 h2
      rw [List.nil_append, wordsL_end (by decide), wordsL_nil, h1, h2]; exact ⟨rfl, rfl⟩
    · rw [wordsL_end he] at h; injection h with h; injection h with h1 h2
      rw [List.cons_append, wordsL_end he, wordsL_end he, h1, h2]; exact ⟨rfl, rfl⟩
    · rw [wordsL_blank hb he] at h
      simp only [List.length_cons] at hl
      rw [List.cons_append, wordsL_blank hb he, wordsL_blank hb he, show i + d + 1 = i + 1 + d by omega]
      exact ih r (by omega) _ d _ _ _ _ h
    · cases hw : wordS l i with
      | error e => rw [wordsL_bad hs hw] at h; cases h
      | ok q =>
        obtain ⟨w, m⟩ := q
        rw [wordsL_word hs hw] at h
        have h1 := wordS_le hw hs
        obtain ⟨w1, w2⟩ := word_more (x := x) (d := d) hs hw
        rw [wordsL_word (stops_app hs _) w1, wordsL_word hs w2, show m + d - (i + d) = m - i by omega, List.drop_append_of_le_length (by omega)]
        have := ih (l.drop (m - i)) (by rw [List.length_drop]; omega) m d _ _ pre _ h
        rw [List.map_append, ← List.append_assoc] at this
        exact this
theorem drop_hash (x : List Nat) : ∀ (l : List Nat), (l ++ 10 :: x).dropWhile (· != 10) = l.dropWhile (· != 10) ++ 10 :: x ∧ (l ++ 10 :: x).takeWhile (· != 10) = l.takeWhile (· != 10)
  | [] => by simp
  | c :: l => by
    rw [List.cons_append, List.dropWhile_cons, List.dropWhile_cons, List.takeWhile_cons, List.takeWhile_cons]
    split
    · have := drop_hash x l; exact ⟨this.1, by rw [this.2]⟩
    · exact ⟨rfl, rfl⟩
theorem parse_more : ∀ (n : Nat) (l : List Nat), l.length ≤ n → ∀ (i d : Nat) (cs cs' pre : List Cmd), parseL l i cs = .ok cs' →
    parseL (l ++ 10 :: x) (i + d) (pre ++ cs.map (shC d)) = parseL x (i + d + l.length + 1) (pre ++ cs'.map (shC d)) ∧ parseL l (i + d) (pre ++ cs.map (shC d)) = .ok (pre ++ cs'.map (shC d)) := by
  intro n
  induction n with
  | zero =>
    intro l hl i d cs cs' pre h
    obtain rfl : l = [] := List.length_eq_zero_iff.1 (by omega)
    rw [parseL_nil] at h; injection h with h
    rw [List.nil_append, parseL_stop (by decide), parseL_nil, h]; exact ⟨by simp, rfl⟩
  | succ n ih =>
    intro l hl i d cs cs' pre h
    cases l with
    | nil =>
      rw [parseL_nil] at h; injection h with h
      rw [List.nil_append, parseL_stop (by decide), parseL_nil, h]; exact ⟨by simp, rfl⟩
    | cons c r =>
      simp only [List.length_cons] at hl ⊢
      by_cases hs : (blankB c || endB c) = true
      · rw [parseL_stop hs] at h
        rw [List.cons_append, parseL_stop hs, parseL_stop hs, show i + d + 1 = i + 1 + d by omega, show i + d + (r.length + 1) + 1 = i + 1 + d + r.length + 1 by omega]
        exact ih r (by omega) _ d _ _ _ h
      · by_cases h35 : c = 35
        · subst h35
          rw [parseL_hash] at h
          have hl2 := run_hash r
          have hk := congrArg List.length (List.takeWhile_append_dropWhile (p := (· != 10)) (l := 35 :: r))
          rw [List.length_append, List.length_cons] at hk
          obtain ⟨e1, e2⟩ := drop_hash x (35 :: r)
          rw [List.cons_append] at e1 e2
          rw [List.cons_append, parseL_hash, parseL_hash, e1, e2]
          have := ih _ (by omega) _ d _ _ pre h
          rw [show i + d + ((35 :: r).takeWhile (· != 10)).length = i + ((35 :: r).takeWhile (· != 10)).length + d by omega]
          rw [show i + d + (r.length + 1) + 1 = i + ((35 :: r).takeWhile (· != 10)).length + d + ((35 :: r).dropWhile (· != 10)).length + 1 by omega]
          exact this
        · have hs' : stops (c :: r) = false := by simpa [stops] using hs
          cases hw : wordsL (c :: r) i [] with
          | error e => rw [parseL_bad hs' h35 hw] at h; cases h
          | ok q =>
            obtain ⟨ws, j⟩ := q
            rw [parseL_cmd hs' h35 hw] at h
            have h1 := wordsL_le _ _ (Nat.le_refl _) _ _ _ _ hw
            have h1' := h1.2.2 hs'
            simp only [List.length_cons] at h1
            obtain ⟨w1, w2⟩ := words_more (x := x) _ _ (Nat.le_refl _) i d [] ws [] j hw
            rw [List.map_nil, List.nil_append, List.nil_append] at w1 w2
            rw [List.cons_append] at w1
            rw [List.cons_append, parseL_cmd (show stops (c :: (r ++ 10 :: x)) = false from hs') h35 w1, parseL_cmd hs' h35 w2, show j + d - (i + d) = j - i by omega]
            rw [← List.cons_append, List.drop_append_of_le_length (by rw [List.length_cons]; omega)]
            have := ih ((c :: r).drop (j - i)) (by rw [List.length_drop, List.length_cons]; omega) j d _ _ pre h
            rw [List.length_drop, List.length_cons, List.map_append, ← List.append_assoc] at this
            rw [show i + d + (r.length + 1) + 1 = j + d + (r.length + 1 - (j - i)) + 1 by omega]
            have e3 : pre ++ cs.map (shC d) ++ [(⟨((i + d : Nat) : Int), ws.map (shW d)⟩ : Cmd)] = pre ++ cs.map (shC d) ++ [⟨i, ws⟩].map (shC d) := by simp [shC]
            rw [e3]
            exact this
end
theorem shC_zero (cs : List Cmd) : cs.map (shC 0) = cs := by
  have hw : ∀ w : Wrd, shW 0 w = w := fun w => by cases w; simp [shW]
  have hc : ∀ c : Cmd, shC 0 c = c := fun c => by
    cases c with
    | mk a ws =>
      have : ws.map (shW 0) = ws := by rw [List.map_congr_left (fun w _ => hw w), List.map_id']
      simp [shC, this]
  rw [List.map_congr_left (fun c _ => hc c), List.map_id']
/-- Two texts with a line's end between. -/
theorem parse_join {s t : List Nat} {a b : List Cmd} (ha : parseL s 0 [] = .ok a) (hb : parseL t 0 [] = .ok b) : parseL (s ++ 10 :: t) 0 [] = .ok (a ++ b.map (shC (s.length + 1))) := by
  have h1 := (parse_more (x := t) _ s (Nat.le_refl _) 0 0 [] a [] ha).1
  have h2 := (parse_more (x := []) _ t (Nat.le_refl _) 0 (s.length + 1) [] b a hb).2
  simp only [List.map_nil, List.nil_append, Nat.zero_add, shC_zero, List.append_nil] at h1 h2
  rw [h1, h2]
end Go.Proofs.Ytphmhglebeapaaa
namespace Go.Proofs.Ytphmhglebeapaaa

/-! ### How long -/
theorem flat_tb_len (kind : Int) (b : Bool) (t : List Nat) : (t.flatMap (tb kind b)).length ≤ 4 * t.length := by
  induction t with
  | nil => simp
  | cons c t ih => have := (tb_len kind b c).2; rw [List.flatMap_cons, List.length_append, List.length_cons]; omega
theorem textT_len (kind : Int) (b : Bool) (t : List Nat) : (textT kind b t).length ≤ 4 * t.length := by
  cases t with
  | nil => simp [textT]
  | cons c t =>
    have := (tb_len kind b c).2
    have := flat_tb_len kind false t
    simp only [textT, List.length_append, List.length_cons]; omega
theorem weight_cons (p : Prt) (ps : List Prt) : weight (p :: ps) = 1 + p.s.length + weight ps := by simp [weight]
theorem partsT_len (kind : Int) : ∀ (ps : List Prt) (b : Bool), (partsT kind b ps).length ≤ 4 * weight ps
  | [], b => by simp [partsT]
  | p :: ps, b => by
    have h1 := partsT_len kind ps true
    rw [weight_cons]
    simp only [partsT, partT, List.length_append]
    by_cases hv : p.var = true
    · rw [if_pos hv, List.length_cons]; omega
    · rw [if_neg hv]; have := textT_len kind b p.s; omega
theorem flat_s_len (ps : List Prt) : (ps.flatMap (·.s)).length ≤ weight ps := by
  induction ps with
  | nil => simp
  | cons p ps ih => rw [List.flatMap_cons, List.length_append, weight_cons]; omega
theorem wordT_len (w : Wrd) : (wordT w).length ≤ 4 * weight w.parts + 2 := by
  unfold wordT
  split
  · have := partsT_len 1 w.parts false; simp; omega
  · split
    · have := partsT_len 0 w.parts false; omega
    · have := flat_s_len w.parts
      rw [List.length_append, List.length_append, List.length_singleton, List.length_singleton]; omega
theorem weightW_cons (w : Wrd) (ws : List Wrd) : weightW (w :: ws) = 3 + weight w.parts + weightW ws := by simp [weightW]
theorem wordsT_len : ∀ ws : List Wrd, (wordsT ws).length ≤ 4 * weightW ws
  | [] => by simp [wordsT]
  | [w] => by have := wordT_len w; rw [weightW_cons]; simp only [wordsT]; omega
  | w :: v :: ws => by
    have h1 := wordT_len w
    have h2 := wordsT_len (v :: ws)
    rw [weightW_cons]
    simp only [wordsT, List.length_append, List.length_singleton]; omega
theorem printT_len (l : List Cmd) : (printT l).length ≤ 4 * weightC l := by
  induction l with
  | nil => simp [printT]
  | cons c l ih =>
    have h1 := wordsT_len c.words
    have e : weightC (c :: l) = 1 + weightW c.words + weightC l := by simp [weightC]
    rw [e]
    simp only [printT, List.flatMap_cons, List.length_append, cmdT, List.length_singleton] at ih ⊢
    omega

/-! ### A command at the text's end -/
theorem words_head {ws : List Wrd} (h : ∀ w ∈ ws, wordOk w) (hne : ws ≠ []) : ∃ d t, wordsT ws = d :: t ∧ d ≠ 35 ∧ (blankB d || endB d) = false := by
  cases ws with
  | nil => exact absurd rfl hne
  | cons w ws =>
    obtain ⟨d, t, e1, h1, h2⟩ := word_first (h w (by simp))
    cases ws with
    | nil => exact ⟨d, t, e1, h1, h2⟩
    | cons v ws => exact ⟨d, t ++ [32] ++ wordsT (v :: ws), by simp [wordsT, e1], h1, h2⟩
theorem parse_last {ws : List Wrd} (h : ∀ w ∈ ws, wordOk w ∧ bytesW w) (hne : ws ≠ []) (i : Nat) (cs : List Cmd) : ∃ ws', samesW ws ws' ∧ parseL (wordsT ws) i cs = .ok (cs ++ [⟨i, ws'⟩]) := by
  obtain ⟨ws', hs, hw⟩ := words_print ws h hne [] rfl i []
  rw [List.append_nil, wordsL_nil, List.nil_append] at hw
  obtain ⟨d, t, e1, h1, h2⟩ := words_head (fun w hw => (h w hw).1) hne
  refine ⟨ws', hs, ?_⟩
  rw [e1] at hw ⊢
  rw [parseL_cmd h2 h1 hw]
  have e3 : (d :: t).drop (i + (d :: t).length - i) = [] := by rw [Nat.add_sub_cancel_left, List.drop_length]
  rw [e3, parseL_nil]

/-! ### Blanks and remarks around a command -/
/-- A command's text, with something around it. -/
def piece (how : Nat) (ws : List Wrd) : List Nat :=
  if how = 0 then [32, 32, 9] ++ (wordsT ws ++ [10]) ++ [10, 59, 59, 10]
  else if how = 1 then [35, 32, 115, 101, 110, 100, 32, 123, 34, 91, 10] ++ (wordsT ws ++ [10])
  else if how = 2 then wordsT ws ++ [9, 32, 59]
  else [59] ++ (wordsT ws ++ [10]) ++ [32, 9, 10]
theorem parse_stops : ∀ (b : List Nat), (∀ c ∈ b, (blankB c || endB c) = true) → ∀ (r : List Nat) (i : Nat) (cs : List Cmd), parseL (b ++ r) i cs = parseL r (i + b.length) cs
  | [], _, r, i, cs => rfl
  | c :: b, h, r, i, cs => by
    rw [List.cons_append, parseL_stop (h c (by simp)), parse_stops b (fun x hx => h x (List.mem_cons_of_mem _ hx)), List.length_cons, show i + 1 + b.length = i + (b.length + 1) by omega]
theorem piece_parse {ws : List Wrd} (h : ∀ w ∈ ws, wordOk w ∧ bytesW w) (hne : ws ≠ []) (how : Nat) (r : List Nat) (i : Nat) (cs : List Cmd) : ∃ j ws', samesW ws ws' ∧ parseL (piece how ws ++ r) i cs = parseL r (i + (piece how ws).length) (cs ++ [⟨j, ws'⟩]) := by
  unfold piece
  split
  · obtain ⟨ws', hs, hp⟩ := parse_cmd h hne (b := []) (by simp) (e := 10) (by decide) ([10, 59, 59, 10] ++ r) (i + 3) cs
    refine ⟨((i + 3 : Nat) : Int), ws', hs, ?_⟩
    have e : [32, 32, 9] ++ (wordsT ws ++ [10]) ++ [10, 59, 59, 10] ++ r = [32, 32, 9] ++ (wordsT ws ++ ([] ++ 10 :: ([10, 59, 59, 10] ++ r))) := by simp
    rw [e, parse_stops [32, 32, 9] (by decide), show [32, 32, 9].length = 3 from rfl, hp, parse_stops [10, 59, 59, 10] (by decide)]
    congr 1
    simp; omega
  · split
    · obtain ⟨ws', hs, hp⟩ := parse_cmd h hne (b := []) (by simp) (e := 10) (by decide) r (i + 11) cs
      refine ⟨((i + 11 : Nat) : Int), ws', hs, ?_⟩
      have e : [35, 32, 115, 101, 110, 100, 32, 123, 34, 91, 10] ++ (wordsT ws ++ [10]) ++ r = 35 :: ([32, 115, 101, 110, 100, 32, 123, 34, 91] ++ 10 :: (wordsT ws ++ ([] ++ 10 :: r))) := by simp
      rw [e, parseL_hash]
      have d := drop_hash (wordsT ws ++ ([] ++ 10 :: r)) [35, 32, 115, 101, 110, 100, 32, 123, 34, 91]
      rw [show [35, 32, 115, 101, 110, 100, 32, 123, 34, 91] ++ 10 :: (wordsT ws ++ ([] ++ 10 :: r)) = 35 :: ([32, 115, 101, 110, 100, 32, 123, 34, 91] ++ 10 :: (wordsT ws ++ ([] ++ 10 :: r))) from rfl] at d
      rw [d.1, d.2, show ([35, 32, 115, 101, 110, 100, 32, 123, 34, 91] : List Nat).dropWhile (· != 10) = [] from rfl, show (([35, 32, 115, 101, 110, 100, 32, 123, 34, 91] : List Nat).takeWhile (· != 10)).length = 10 from rfl, List.nil_append, parseL_stop (by decide), show i + 10 + 1 = i + 11 by omega, hp]
      congr 1
      simp; omega
    · split
      · obtain ⟨ws', hs, hp⟩ := parse_cmd h hne (b := [9, 32]) (by decide) (e := 59) (by decide) r i cs
        refine ⟨((i : Nat) : Int), ws', hs, ?_⟩
        have e : wordsT ws ++ [9, 32, 59] ++ r = wordsT ws ++ ([9, 32] ++ 59 :: r) := by simp
        rw [e, hp]
        congr 1
        simp; omega
      · obtain ⟨ws', hs, hp⟩ := parse_cmd h hne (b := []) (by simp) (e := 10) (by decide) ([32, 9, 10] ++ r) (i + 1) cs
        refine ⟨((i + 1 : Nat) : Int), ws', hs, ?_⟩
        have e : [59] ++ (wordsT ws ++ [10]) ++ [32, 9, 10] ++ r = [59] ++ (wordsT ws ++ ([] ++ 10 :: ([32, 9, 10] ++ r))) := by simp
        rw [e, parse_stops [59] (by decide), show [59].length = 1 from rfl, hp, parse_stops [32, 9, 10] (by decide)]
        congr 1
        simp; omega

/-! ### Braces within braces -/
theorem braces_in (st : Nat) (r : List Nat) : ∀ (m i d : Nat), d + m ≤ 64 → braceS st (List.replicate m 123 ++ r) i d = braceS st r (i + m) (d + m)
  | 0, i, d, _ => rfl
  | m + 1, i, d, h => by
    rw [List.replicate_succ, List.cons_append, braceS, if_neg (by omega), if_pos rfl, if_neg (by omega), braces_in st r m (i + 1) (d + 1) (by omega), show i + 1 + m = i + (m + 1) by omega, show d + 1 + m = d + (m + 1) by omega]
theorem braces_out (st : Nat) (r : List Nat) : ∀ (m i : Nat), braceS st (List.replicate (m + 1) 125 ++ r) i (m + 1) = .ok (i + (m + 1))
  | 0, i => by rw [List.replicate_succ, List.cons_append, braceS, if_neg (by omega), if_neg (by omega), if_pos rfl, if_pos rfl]
  | m + 1, i => by
    rw [List.replicate_succ, List.cons_append, braceS, if_neg (by omega), if_neg (by omega), if_pos rfl, if_neg (by omega), show m + 1 + 1 - 1 = m + 1 by omega, braces_out st r m (i + 1), show i + 1 + (m + 1) = i + (m + 1 + 1) by omega]
/-- So many braces, and as many back. -/
def deepT (a k : Nat) : List Nat := List.replicate a 32 ++ (List.replicate k 123 ++ List.replicate k 125)
theorem deep_none (a : Nat) : parseL (deepT a 0) 0 [] = .ok [] := by
  have := parse_stops (List.replicate a 32) (fun c hc => by rw [List.eq_of_mem_replicate hc]; decide) [] 0 []
  exact this.trans (parseL_nil _ _)
theorem deep_word {k : Nat} (h1 : 1 ≤ k) (h2 : k ≤ 64) (i : Nat) : ∃ ps, wordS (List.replicate k 123 ++ List.replicate k 125) i = .ok (⟨i, 2, ps⟩, i + 2 * k) := by
  obtain ⟨m, rfl⟩ : ∃ m, k = m + 1 := ⟨k - 1, by omega⟩
  have hb : braceS i (List.replicate (m + 1) 123 ++ List.replicate (m + 1) 125) i 0 = .ok (i + 2 * (m + 1)) := by
    have h3 := braces_out i [] m (i + (m + 1))
    rw [List.append_nil] at h3
    rw [braces_in i _ (m + 1) i 0 (by omega), Nat.zero_add, h3, show i + (m + 1) + (m + 1) = i + 2 * (m + 1) by omega]
  rw [List.replicate_succ, List.cons_append] at hb ⊢
  unfold wordS
  dsimp only
  rw [if_pos rfl, hb]
  dsimp only
  have hd : (123 :: (List.replicate m 123 ++ List.replicate (m + 1) 125)).drop (i + 2 * (m + 1) - i) = [] := by
    apply List.drop_eq_nil_of_le
    simp; omega
  rw [hd, if_pos (show stops [] = true from rfl)]
  exact ⟨_, rfl⟩
theorem deep_some {a k : Nat} (h1 : 1 ≤ k) (h2 : k ≤ 64) : ∃ ps, parseL (deepT a k) 0 [] = .ok [⟨a, [⟨a, 2, ps⟩]⟩] := by
  obtain ⟨ps, hw⟩ := deep_word h1 h2 a
  refine ⟨ps, ?_⟩
  unfold deepT
  rw [parse_stops (List.replicate a 32) (fun c hc => by rw [List.eq_of_mem_replicate hc]; decide), List.length_replicate, Nat.zero_add]
  obtain ⟨m, rfl⟩ : ∃ m, k = m + 1 := ⟨k - 1, by omega⟩
  have hd : (List.replicate (m + 1) 123 ++ List.replicate (m + 1) 125).drop (a + 2 * (m + 1) - a) = [] := by
    apply List.drop_eq_nil_of_le
    simp; omega
  have hl : wordsL (List.replicate (m + 1) 123 ++ List.replicate (m + 1) 125) a [] = .ok ([⟨a, 2, ps⟩], a + 2 * (m + 1)) := by
    rw [wordsL_word (by rw [List.replicate_succ, List.cons_append]; rfl) hw, hd, wordsL_nil]; rfl
  rw [List.replicate_succ, List.cons_append] at hl hd ⊢
  rw [parseL_cmd (by rfl) (by omega) hl, hd, parseL_nil]
  rfl
theorem deep_over {a k : Nat} (h : 64 < k) : parseL (deepT a k) 0 [] = .error (a + 64, 7) := by
  unfold deepT
  rw [parse_stops (List.replicate a 32) (fun c hc => by rw [List.eq_of_mem_replicate hc]; decide), List.length_replicate, Nat.zero_add]
  obtain ⟨m, rfl⟩ : ∃ m, k = 64 + (m + 1) := ⟨k - 65, by omega⟩
  obtain ⟨R, hR⟩ : ∃ R, R = List.replicate (64 + (m + 1)) 125 := ⟨_, rfl⟩
  rw [← hR]
  have hb : braceS a (List.replicate (64 + (m + 1)) 123 ++ R) a 0 = .error (a + 64, 7) := by
    rw [← List.replicate_append_replicate, List.append_assoc, braces_in a _ 64 a 0 (by omega), Nat.zero_add, List.replicate_succ, List.cons_append, braceS, if_neg (by omega), if_pos rfl, if_pos (by omega)]
  have e : List.replicate (64 + (m + 1)) 123 ++ R = 123 :: (List.replicate (64 + m) 123 ++ R) := by
    rw [show 64 + (m + 1) = (64 + m) + 1 by omega, List.replicate_succ, List.cons_append]
  rw [e] at hb ⊢
  have hw : wordS (123 :: (List.replicate (64 + m) 123 ++ R)) a = .error (a + 64, 7) := by
    unfold wordS
    dsimp only
    rw [if_pos rfl, hb]
  exact parseL_bad (by rfl) (by omega) (wordsL_bad (by rfl) hw []) []
end Go.Proofs.Ytphmhglebeapaaa
namespace Go.Proofs.Ytphmhglebeapaaa

/-! ### An error's place lies in the text -/
def Err (hi : Nat) (q : Nat × Nat) : Prop := q.1 ≤ hi ∧ 4 ≤ q.2 ∧ q.2 ≤ 7
theorem Err.mono {hi hi' : Nat} {q : Nat × Nat} (h : Err hi q) (hh : hi ≤ hi') : Err hi' q := ⟨Nat.le_trans h.1 hh, h.2⟩
theorem brace_err : ∀ (n st : Nat) (l : List Nat), l.length ≤ n → ∀ (i deep : Nat) (q : Nat × Nat), st ≤ i + l.length → braceS st l i deep = .error q → Err (i + l.length) q := by
  intro n
  induction n with
  | zero =>
    intro st l hl i deep q hst h
    obtain rfl : l = [] := List.length_eq_zero_iff.1 (by omega)
    rw [braceS] at h; injection h with h; rw [← h]; exact ⟨hst, by simp, by simp⟩
  | succ n ih =>
    intro st l hl i deep q hst h
    cases l with
    | nil => rw [braceS] at h; injection h with h; rw [← h]; exact ⟨hst, by simp, by simp⟩
    | cons c r =>
      simp only [List.length_cons] at hl hst ⊢
      rw [braceS] at h
      split at h
      · split at h
        · injection h with h; rw [← h]; exact ⟨hst, by simp, by simp⟩
        · rename_i hr
          have hr1 := List.length_pos_iff.2 hr
          have := ih st (r.drop 1) (by rw [List.length_drop]; omega) (i + 2) deep q (by rw [List.length_drop]; omega) h
          rw [List.length_drop] at this
          exact this.mono (by omega)
      · split at h
        · split at h
          · injection h with h; rw [← h]; exact ⟨by dsimp only; omega, by simp, by simp⟩
          · exact (ih st r (by omega) _ _ q (by omega) h).mono (by omega)
        · split at h
          · split at h
            · cases h
            · exact (ih st r (by omega) _ _ q (by omega) h).mono (by omega)
          · exact (ih st r (by omega) _ _ q (by omega) h).mono (by omega)
theorem one_err {l : List Nat} {i op : Nat} {ps : List Prt} {q : Nat × Nat} (hop : op ≤ i + l.length) (h : oneS l i op ps = .error q) : Err (i + l.length) q := by
  cases l with
  | nil => cases h
  | cons c r =>
    unfold oneS at h
    dsimp only at h
    split at h
    · split at h
      · injection h with h; rw [← h]; exact ⟨hop, by simp, by simp⟩
      · cases h
    · split at h
      · injection h with h; rw [← h]; exact ⟨by simp, by simp, by simp⟩
      · split at h
        · injection h with h; rw [← h]; exact ⟨by simp, by simp, by simp⟩
        · split at h <;> cases h
theorem quot_err : ∀ (n st : Nat) (l : List Nat), l.length ≤ n → ∀ (i : Nat) (ps : List Prt) (q : Nat × Nat), st ≤ i + l.length → quotS st l i ps = .error q → Err (i + l.length) q := by
  intro n
  induction n with
  | zero =>
    intro st l hl i ps q hst h
    obtain rfl : l = [] := List.length_eq_zero_iff.1 (by omega)
    rw [quotS] at h; injection h with h; rw [← h]; exact ⟨hst, by simp, by simp⟩
  | succ n ih =>
    intro st l hl i ps q hst h
    cases l with
    | nil => rw [quotS] at h; injection h with h; rw [← h]; exact ⟨hst, by simp, by simp⟩
    | cons c r =>
      rw [quotS] at h
      split at h
      · cases h
      · cases ho : oneS (c :: r) i st ps with
        | error e => rw [ho] at h; injection h with h; rw [← h]; exact one_err hst ho
        | ok x =>
          obtain ⟨qs, k⟩ := x
          rw [ho] at h
          dsimp only at h
          have hk := oneS_pos ho (by simp)
          simp only [List.length_cons] at hl hst hk ⊢
          have := ih st (r.drop (k - 1)) (by rw [List.length_drop]; omega) (i + k) qs q (by rw [List.length_drop]; omega) h
          rw [List.length_drop] at this
          exact this.mono (by omega)
theorem bare_err : ∀ (n : Nat) (l : List Nat), l.length ≤ n → ∀ (i : Nat) (ps : List Prt) (q : Nat × Nat), bareS l i ps = .error q → Err (i + l.length) q := by
  intro n
  induction n with
  | zero =>
    intro l hl i ps q h
    obtain rfl : l = [] := List.length_eq_zero_iff.1 (by omega)
    rw [bareS] at h; cases h
  | succ n ih =>
    intro l hl i ps q h
    cases l with
    | nil => rw [bareS] at h; cases h
    | cons c r =>
      rw [bareS] at h
      split at h
      · cases h
      · cases ho : oneS (c :: r) i i ps with
        | error e => rw [ho] at h; injection h with h; rw [← h]; exact one_err (by omega) ho
        | ok x =>
          obtain ⟨qs, k⟩ := x
          rw [ho] at h
          dsimp only at h
          have hk := oneS_pos ho (by simp)
          simp only [List.length_cons] at hl hk ⊢
          have := ih (r.drop (k - 1)) (by rw [List.length_drop]; omega) (i + k) qs q h
          rw [List.length_drop] at this
          exact this.mono (by omega)
theorem word_err {l : List Nat} {i : Nat} {q : Nat × Nat} (h : wordS l i = .error q) : Err (i + l.length) q := by
  cases l with
  | nil => cases h
  | cons c r =>
    unfold wordS at h
    dsimp only at h
    split at h
    · cases hb : braceS i (c :: r) i 0 with
      | error e => rw [hb] at h; injection h with h; rw [← h]; exact brace_err _ _ _ (Nat.le_refl _) _ _ _ (by omega) hb
      | ok m =>
        rw [hb] at h
        dsimp only at h
        split at h
        · cases h
        · injection h with h; rw [← h]
          have := braceS_le _ _ _ (Nat.le_refl _) _ _ _ hb
          exact ⟨this.2, by simp, by simp⟩
    · split at h
      · cases hb : quotS i r (i + 1) [] with
        | error e =>
          rw [hb] at h; injection h with h; rw [← h]
          exact (quot_err _ _ _ (Nat.le_refl _) _ _ _ (by omega) hb).mono (by simp; omega)
        | ok m =>
          obtain ⟨ps, m⟩ := m
          rw [hb] at h
          dsimp only at h
          split at h
          · cases h
          · injection h with h; rw [← h]
            have := quotS_le _ _ _ (Nat.le_refl _) _ _ _ _ hb
            exact ⟨by simp; omega, by simp, by simp⟩
      · cases hb : bareS (c :: r) i [] with
        | error e => rw [hb] at h; injection h with h; rw [← h]; exact bare_err _ _ (Nat.le_refl _) _ _ _ hb
        | ok m => obtain ⟨ps, m⟩ := m; rw [hb] at h; cases h
theorem words_err : ∀ (n : Nat) (l : List Nat), l.length ≤ n → ∀ (i : Nat) (ws : List Wrd) (q : Nat × Nat), wordsL l i ws = .error q → Err (i + l.length) q := by
  intro n
  induction n with
  | zero =>
    intro l hl i ws q h
    obtain rfl : l = [] := List.length_eq_zero_iff.1 (by omega)
    rw [wordsL_nil] at h; cases h
  | succ n ih =>
    intro l hl i ws q h
    rcases stops_cases l with rfl | ⟨c, r, rfl, he⟩ | ⟨c, r, rfl, hb, he⟩ | hs
    · rw [wordsL_nil] at h; cases h
    · rw [wordsL_end he] at h; cases h
    · rw [wordsL_blank hb he] at h
      simp only [List.length_cons] at hl ⊢
      exact (ih r (by omega) _ _ _ h).mono (by omega)
    · cases hw : wordS l i with
      | error e => rw [wordsL_bad hs hw] at h; injection h with h; rw [← h]; exact word_err hw
      | ok x =>
        obtain ⟨w, m⟩ := x
        rw [wordsL_word hs hw] at h
        have h1 := wordS_le hw hs
        have := ih (l.drop (m - i)) (by rw [List.length_drop]; omega) _ _ _ h
        rw [List.length_drop] at this
        exact this.mono (by omega)
theorem parse_err : ∀ (n : Nat) (l : List Nat), l.length ≤ n → ∀ (i : Nat) (cs : List Cmd) (q : Nat × Nat), parseL l i cs = .error q → Err (i + l.length) q := by
  intro n
  induction n with
  | zero =>
    intro l hl i cs q h
    obtain rfl : l = [] := List.length_eq_zero_iff.1 (by omega)
    rw [parseL_nil] at h; cases h
  | succ n ih =>
    intro l hl i cs q h
    cases l with
    | nil => rw [parseL_nil] at h; cases h
    | cons c r =>
      simp only [List.length_cons] at hl ⊢
      by_cases hs : (blankB c || endB c) = true
      · rw [parseL_stop hs] at h
        exact (ih r (by omega) _ _ _ h).mono (by omega)
      · by_cases h35 : c = 35
        · subst h35
          rw [parseL_hash] at h
          have hl2 := run_hash r
          have hk := congrArg List.length (List.takeWhile_append_dropWhile (p := (· != 10)) (l := 35 :: r))
          rw [List.length_append, List.length_cons] at hk
          exact (ih _ (by omega) _ _ _ h).mono (by omega)
        · have hs' : stops (c :: r) = false := by simpa [stops] using hs
          cases hw : wordsL (c :: r) i [] with
          | error e =>
            rw [parseL_bad hs' h35 hw] at h; injection h with h; rw [← h]
            have := words_err _ _ (Nat.le_refl _) _ _ _ hw
            simpa using this
          | ok x =>
            obtain ⟨ws, j⟩ := x
            rw [parseL_cmd hs' h35 hw] at h
            have h1 := wordsL_le _ _ (Nat.le_refl _) _ _ _ _ hw
            have h1' := h1.2.2 hs'
            simp only [List.length_cons] at h1
            have := ih ((c :: r).drop (j - i)) (by rw [List.length_drop, List.length_cons]; omega) _ _ _ h
            rw [List.length_drop, List.length_cons] at this
            exact this.mono (by omega)
/-- What is told: commands, or an error at a place in the text. -/
theorem parseR_cases (l : List Nat) : (∃ cs, parseR l = (cs, 0, 0) ∧ parseL l 0 [] = .ok cs) ∨ ∃ p e, parseR l = ([], p, e) ∧ p ≤ l.length ∧ 4 ≤ e ∧ e ≤ 7 := by
  unfold parseR
  split
  · exact .inr ⟨0, 6, rfl, by omega, by omega, by omega⟩
  · cases h : parseL l 0 [] with
    | error q =>
      have := parse_err _ l (Nat.le_refl _) 0 [] q h
      rw [Nat.zero_add] at this
      exact .inr ⟨q.1, q.2, rfl, this⟩
    | ok cs => exact .inl ⟨cs, rfl, rfl⟩
theorem parseR_ok {l : List Nat} (hl : l.length ≤ 16777216) {cs : List Cmd} (h : parseL l 0 [] = .ok cs) : parseR l = (cs, 0, 0) := by
  unfold parseR; rw [if_neg (by omega), h]
theorem parseR_bad {l : List Nat} (hl : l.length ≤ 16777216) {q : Nat × Nat} (h : parseL l 0 [] = .error q) : parseR l = ([], q.1, q.2) := by
  unfold parseR; rw [if_neg (by omega), h]

/-! ### Names -/
/-- A byte that stands for itself behind a name. -/
def aside (e : Nat) : Prop := plain e = true ∧ blankB e = false ∧ nameB e = false
theorem tb_aside {e : Nat} (h : aside e) (kind : Int) (b : Bool) : tb kind b e = [e] := by
  unfold tb
  rw [if_pos (by simp [h.1, h.2.1, h.2.2])]
def sendW : Wrd := ⟨0, 0, [⟨false, [115, 101, 110, 100]⟩]⟩
def nameW (quoted : Bool) (s : List Nat) (e : Nat) : Wrd := ⟨0, if quoted then 1 else 0, [⟨false, [97]⟩, ⟨true, s⟩, ⟨false, [e]⟩]⟩
/-- The text: send a, a $, a name's bytes, one more; quoted, or not. -/
def nameT (quoted : Bool) (s : List Nat) (e : Nat) : List Nat :=
  [115, 101, 110, 100, 32] ++ (if quoted then [34, 97, 36] ++ s ++ [e, 34] else [97, 36] ++ s ++ [e])
theorem sendW_ok : wordOk sendW ∧ bytesW sendW := by
  refine ⟨.inl ⟨rfl, by simp [sendW], by simp [sendW, partsOk]⟩, ?_⟩
  intro p hp c hc
  simp only [sendW, List.mem_singleton] at hp
  subst hp
  simp only [List.mem_cons, List.not_mem_nil, or_false] at hc
  omega
theorem name_byte {c : Nat} (h : nameB c = true) : c < 256 := by simp only [nameB, decide_eq_true_eq] at h; omega
theorem nameW_ok (quoted : Bool) {s : List Nat} (hs : nameOk s) {e : Nat} (he : e < 256) : wordOk (nameW quoted s e) ∧ bytesW (nameW quoted s e) := by
  have hp : partsOk false (nameW quoted s e).parts := by simp [nameW, partsOk, hs]
  refine ⟨?_, ?_⟩
  · cases quoted with
    | true => exact .inr (.inl ⟨rfl, hp⟩)
    | false => exact .inl ⟨rfl, by simp [nameW], hp⟩
  · intro p hp c hc
    simp only [nameW, List.mem_cons, List.not_mem_nil, or_false] at hp
    rcases hp with rfl | rfl | rfl
    · simp only [List.mem_singleton] at hc; omega
    · exact name_byte (hs.1 c hc)
    · simp only [List.mem_singleton] at hc; omega
theorem nameT_words (quoted : Bool) (s : List Nat) {e : Nat} (he : aside e) : nameT quoted s e = wordsT [sendW, nameW quoted s e] := by
  have e1 : wordT sendW = [115, 101, 110, 100] := by decide
  have e2 : textT 0 false [97] = [97] := by decide
  have e3 : textT 1 false [97] = [97] := by decide
  have t0 : textT 0 true [e] = [e] := by simp [textT, tb_aside he]
  have t1 : textT 1 true [e] = [e] := by simp [textT, tb_aside he]
  cases quoted with
  | true =>
    have : wordT (nameW true s e) = [34] ++ ([97] ++ (36 :: s ++ [e])) ++ [34] := by simp [wordT, nameW, partsT, partT, e3, t1]
    simp [nameT, wordsT, e1, this]
  | false =>
    have : wordT (nameW false s e) = [97] ++ (36 :: s ++ [e]) := by simp [wordT, nameW, partsT, partT, e2, t0]
    simp [nameT, wordsT, e1, this]
/-- A name of one byte to sixty-four. -/
theorem name_some (quoted : Bool) {s : List Nat} (hs : nameOk s) {e : Nat} (he : aside e) : ∃ w1 w2, parseL (nameT quoted s e) 0 [] = .ok [⟨0, [w1, w2]⟩] ∧ w2.parts = [⟨false, [97]⟩, ⟨true, s⟩, ⟨false, [e]⟩] := by
  have heb : e < 256 := by have := he.1; simp only [plain, decide_eq_true_eq] at this; omega
  obtain ⟨ws', hsm, hp⟩ := parse_last (ws := [sendW, nameW quoted s e]) (fun w hw => by
    rcases List.mem_cons.1 hw with rfl | hw
    · exact sendW_ok
    · rw [List.mem_singleton.1 hw]; exact nameW_ok quoted hs heb) (by simp) 0 []
  rw [← nameT_words quoted s he] at hp
  match ws', hsm with
  | [w1, w2], ⟨_, h2, _⟩ => exact ⟨w1, w2, hp, h2.2.symm⟩
end Go.Proofs.Ytphmhglebeapaaa
namespace Go.Proofs.Ytphmhglebeapaaa

theorem one_self {c : Nat} (h1 : c ≠ 92) (h2 : c ≠ 91) {r : List Nat} (h3 : c = 36 → nameRun r = []) (i op : Nat) (ps : List Prt) : oneS (c :: r) i op ps = .ok (addP ps c, 1) := by
  unfold oneS
  dsimp only
  rw [if_neg h1, if_neg h2]
  by_cases h : c = 36
  · rw [h3 h, if_neg (by simp), if_neg (by simp)]
  · rw [if_neg (fun e => h e.1), if_neg (fun e => h e.1)]
theorem one_long {s : List Nat} (hs : ∀ c ∈ s, nameB c = true) (hl : 64 < s.length) {r : List Nat} (hr : nameNext r = false) (i op : Nat) (ps : List Prt) : oneS (36 :: (s ++ r)) i op ps = .error (i, 6) := by
  unfold oneS
  dsimp only
  rw [nameRun_stop hs hr, if_neg (by omega), if_neg (by omega), if_pos ⟨rfl, hl⟩]
theorem bare_self {c : Nat} (hst : (blankB c || endB c) = false) (h1 : c ≠ 92) (h2 : c ≠ 91) {r : List Nat} (h3 : c = 36 → nameRun r = []) (i : Nat) (ps : List Prt) : bareS (c :: r) i ps = bareS r (i + 1) (addP ps c) := by
  rw [bareS, hst, one_self h1 h2 h3]
  rfl
theorem quot_self {c : Nat} (h0 : c ≠ 34) (h1 : c ≠ 92) (h2 : c ≠ 91) {r : List Nat} (h3 : c = 36 → nameRun r = []) (st i : Nat) (ps : List Prt) : quotS st (c :: r) i ps = quotS st r (i + 1) (addP ps c) := by
  rw [quotS, if_neg h0, one_self h1 h2 h3]
  rfl
theorem aside_not {e : Nat} (h : aside e) : e ≠ 34 ∧ e ≠ 92 ∧ e ≠ 91 ∧ e ≠ 36 ∧ (blankB e || endB e) = false := by
  have h1 := h.1
  simp only [plain, decide_eq_true_eq] at h1
  refine ⟨by omega, by omega, by omega, by omega, ?_⟩
  rw [h.2.1]
  simp only [endB, Bool.false_or, decide_eq_false_iff_not]; omega
/-- Behind 'send ' comes one word more. -/
theorem send_word {rest : List Nat} (hst : stops rest = false) : (∀ w j, wordS rest 5 = .ok (w, j) → rest.drop (j - 5) = [] → ∃ w1, parseL ([115, 101, 110, 100, 32] ++ rest) 0 [] = .ok [⟨0, [w1, w]⟩]) ∧ (∀ q, wordS rest 5 = .error q → parseL ([115, 101, 110, 100, 32] ++ rest) 0 [] = .error q) := by
  have e1 : wordT sendW = [115, 101, 110, 100] := by decide
  have hw := word_print (r := [32] ++ rest) sendW_ok.1 sendW_ok.2 rfl 0
  rw [e1] at hw
  have e2 : [115, 101, 110, 100] ++ ([32] ++ rest) = 115 :: ([101, 110, 100, 32] ++ rest) := rfl
  have e3 : [115, 101, 110, 100, 32] ++ rest = 115 :: ([101, 110, 100, 32] ++ rest) := rfl
  have hl : wordsL (115 :: ([101, 110, 100, 32] ++ rest)) 0 [] = wordsL rest 5 [⟨0, sendW.kind, sendW.parts⟩] := by
    rw [e2] at hw
    rw [wordsL_word (by rfl) hw]
    show wordsL (32 :: rest) 4 _ = _
    rw [wordsL_blank (by decide) (by decide)]
    rfl
  refine ⟨fun w j h hd => ⟨⟨0, sendW.kind, sendW.parts⟩, ?_⟩, fun q h => ?_⟩
  · rw [wordsL_word hst h, hd, wordsL_nil] at hl
    have hle := wordS_le h hst
    have hd2 : (115 :: ([101, 110, 100, 32] ++ rest)).drop (j - 0) = [] := by
      have hlen := congrArg List.length hd
      rw [List.length_drop, List.length_nil] at hlen
      apply List.drop_eq_nil_of_le
      simp; omega
    rw [e3, parseL_cmd (by rfl) (by omega) hl, hd2, parseL_nil]
    rfl
  · rw [wordsL_bad hst h] at hl
    rw [e3]
    exact parseL_bad (by rfl) (by omega) hl []
theorem name_none (quoted : Bool) {e : Nat} (he : aside e) : ∃ w1 w2, parseL (nameT quoted [] e) 0 [] = .ok [⟨0, [w1, w2]⟩] ∧ w2.parts = [⟨false, [97, 36, e]⟩] := by
  obtain ⟨h34, h92, h91, h36, hst⟩ := aside_not he
  have hnr : nameRun [e] = [] := by simp [nameRun, he.2.2]
  have hnr2 : nameRun [e, 34] = [] := by simp [nameRun, he.2.2]
  cases quoted with
  | false =>
    have hb : bareS [97, 36, e] 5 [] = .ok ([⟨false, [97, 36, e]⟩], 8) := by
      rw [bare_self (by decide) (by omega) (by omega) (by omega), bare_self (by decide) (by omega) (by omega) (fun _ => hnr), bare_self hst h92 h91 (fun x => absurd x h36), bareS]
      rfl
    have hw : wordS [97, 36, e] 5 = .ok (⟨5, 0, [⟨false, [97, 36, e]⟩]⟩, 8) := by
      unfold wordS
      dsimp only
      rw [if_neg (by omega), if_neg (by omega), hb]
      rfl
    obtain ⟨w1, hp⟩ := (send_word (rest := [97, 36, e]) (by rfl)).1 _ _ hw rfl
    exact ⟨w1, _, hp, rfl⟩
  | true =>
    have hb : quotS 5 [97, 36, e, 34] 6 [] = .ok ([⟨false, [97, 36, e]⟩], 10) := by
      rw [quot_self (by omega) (by omega) (by omega) (by omega), quot_self (by omega) (by omega) (by omega) (fun _ => hnr2), quot_self h34 h92 h91 (fun x => absurd x h36), quotS, if_pos rfl]
      rfl
    have hw : wordS [34, 97, 36, e, 34] 5 = .ok (⟨5, 1, [⟨false, [97, 36, e]⟩]⟩, 10) := by
      unfold wordS
      dsimp only
      rw [if_neg (by omega), if_pos rfl, hb]
      rfl
    obtain ⟨w1, hp⟩ := (send_word (rest := [34, 97, 36, e, 34]) (by rfl)).1 _ _ hw rfl
    exact ⟨w1, _, hp, rfl⟩
theorem name_long (quoted : Bool) {s : List Nat} (hs : ∀ c ∈ s, nameB c = true) (hl : 64 < s.length) {e : Nat} (he : aside e) : parseL (nameT quoted s e) 0 [] = .error (if quoted then 7 else 6, 6) := by
  cases quoted with
  | false =>
    have hb : bareS (97 :: 36 :: (s ++ [e])) 5 [] = .error (6, 6) := by
      rw [bare_self (by decide) (by omega) (by omega) (by omega), bareS, one_long hs hl (by simp [nameNext, he.2.2])]
      rfl
    have hw : wordS (97 :: 36 :: (s ++ [e])) 5 = .error (6, 6) := by
      unfold wordS
      dsimp only
      rw [if_neg (by omega), if_neg (by omega), hb]
    exact (send_word (rest := 97 :: 36 :: (s ++ [e])) (by rfl)).2 _ hw
  | true =>
    have hb : quotS 5 (97 :: 36 :: (s ++ [e, 34])) 6 [] = .error (7, 6) := by
      rw [quot_self (by omega) (by omega) (by omega) (by omega), quotS, if_neg (by omega), one_long hs hl (by simp [nameNext, he.2.2])]
    have hw : wordS (34 :: 97 :: 36 :: (s ++ [e, 34])) 5 = .error (7, 6) := by
      unfold wordS
      dsimp only
      rw [if_neg (by omega), if_pos rfl, hb]
    exact (send_word (rest := 34 :: 97 :: 36 :: (s ++ [e, 34])) (by rfl)).2 _ hw
end Go.Proofs.Ytphmhglebeapaaa
