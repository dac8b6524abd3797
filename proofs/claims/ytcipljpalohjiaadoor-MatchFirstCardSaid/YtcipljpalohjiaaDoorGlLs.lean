/-
  Glob patterns in plain lists: what a pattern's things are (thingsS), whether a text is like things (likeS), the first place from which on it is (spanS), and how these go with patterns side by side, escapes, sets, stars.
  Conditions: none.
-/
import Derived.Below
namespace Go.Proofs.YtcipljpalohjiaaDoor

/-- A thing: any bytes, or one byte of some. -/
structure Thg where
  any : Bool
  one : Nat → Bool

def starT : Thg := ⟨true, fun _ => false⟩
def allT : Thg := ⟨false, fun _ => true⟩
def oneT (d : Nat) : Thg := ⟨false, fun c => decide (c = d)⟩

/-- Of what stands between [ and ]. -/
def setS (s : List Nat) (c : Nat) : Bool :=
  match s with
  | [] => false
  | a :: r => if 2 ≤ r.length ∧ r[0]? = some 45 then decide (a ≤ c ∧ c ≤ r.getD 1 0) || setS (r.drop 2) c else decide (c = a) || setS r c
termination_by s.length
decreasing_by all_goals (simp <;> omega)
def setT (s : List Nat) : Thg := ⟨false, setS s⟩

/-- How many bytes behind a [ stand in its set, if there is a ]. -/
def setLen (r : List Nat) : Nat := 1 + ((r.drop 1).takeWhile (fun c => decide (c ≠ 93))).length

/-- The things of a pattern. -/
def thingsS (p : List Nat) : Option (List Thg) :=
  match p with
  | [] => some []
  | c :: r =>
    if c = 42 then (thingsS r).map (starT :: ·)
    else if c = 63 then (thingsS r).map (allT :: ·)
    else if c = 91 then (if r.length ≤ setLen r then none else (thingsS (r.drop (setLen r + 1))).map (setT (r.take (setLen r)) :: ·))
    else if c = 92 then (if r = [] then none else (thingsS (r.drop 1)).map (oneT (r.headD 0) :: ·))
    else (thingsS r).map (oneT c :: ·)
termination_by p.length
decreasing_by all_goals (simp; try omega)

/-- Is a whole text like things? -/
def likeS : List Thg → List Nat → Bool
  | [], t => t.isEmpty
  | x :: l, t => if x.any then (List.range (t.length + 1)).any fun i => likeS l (t.drop i) else !t.isEmpty && x.one (t.headD 0) && likeS l t.tail

theorem like_nil {t : List Nat} : likeS [] t = true ↔ t = [] := by simp [likeS]
theorem like_any {x : Thg} (h : x.any = true) {l : List Thg} {t : List Nat} : likeS (x :: l) t = true ↔ ∃ i, i ≤ t.length ∧ likeS l (t.drop i) = true := by
  rw [likeS, if_pos h, List.any_eq_true]
  constructor
  · rintro ⟨i, hi, h2⟩; exact ⟨i, by have := List.mem_range.1 hi; omega, h2⟩
  · rintro ⟨i, hi, h2⟩; exact ⟨i, List.mem_range.2 (by omega), h2⟩
theorem like_one {x : Thg} (h : x.any = false) {l : List Thg} {t : List Nat} : likeS (x :: l) t = true ↔ ∃ c r, t = c :: r ∧ x.one c = true ∧ likeS l r = true := by
  rw [likeS, h, if_neg (by simp)]
  cases t with
  | nil => simp
  | cons c r =>
    simp
    constructor
    · rintro ⟨h1, h2⟩; exact ⟨c, r, ⟨rfl, rfl⟩, h1, h2⟩
    · rintro ⟨c, r, ⟨rfl, rfl⟩, h1, h2⟩; exact ⟨h1, h2⟩

/-- Two rows of things: the text can be cut. -/
theorem like_append (l m : List Thg) : ∀ t : List Nat, likeS (l ++ m) t = true ↔ ∃ i, i ≤ t.length ∧ likeS l (t.take i) = true ∧ likeS m (t.drop i) = true := by
  induction l with
  | nil =>
    intro t
    constructor
    · intro h; exact ⟨0, by omega, by simp [likeS], by simpa using h⟩
    · rintro ⟨i, hi, h1, h2⟩
      have h1 := like_nil.1 h1
      have hi0 : i = 0 ∨ t = [] := by
        simpa [List.take_eq_nil_iff] using h1
      rcases hi0 with rfl | rfl
      · simpa using h2
      · simpa using h2
  | cons x l ih =>
    intro t
    by_cases hx : x.any = true
    · rw [List.cons_append, like_any hx]
      constructor
      · rintro ⟨i, hi, h⟩
        obtain ⟨j, hj, h1, h2⟩ := (ih (t.drop i)).1 h
        rw [List.length_drop] at hj
        refine ⟨i + j, by omega, (like_any hx).2 ⟨i, by rw [List.length_take]; omega, ?_⟩, by rwa [List.drop_drop] at h2⟩
        rw [List.drop_take, show i + j - i = j by omega]
        exact h1
      · rintro ⟨i, hi, h1, h2⟩
        obtain ⟨j, hj, h3⟩ := (like_any hx).1 h1
        rw [List.length_take] at hj
        refine ⟨j, by omega, (ih _).2 ⟨i - j, by rw [List.length_drop]; omega, ?_, ?_⟩⟩
        · rw [List.drop_take] at h3; exact h3
        · rw [List.drop_drop, show j + (i - j) = i by omega]; exact h2
    · have hx : x.any = false := by simpa using hx
      rw [List.cons_append, like_one hx]
      constructor
      · rintro ⟨c, r, rfl, h1, h2⟩
        obtain ⟨j, hj, h3, h4⟩ := (ih r).1 h2
        exact ⟨j + 1, by simpa using hj, (like_one hx).2 ⟨c, r.take j, by simp, h1, h3⟩, by simpa using h4⟩
      · rintro ⟨i, hi, h1, h2⟩
        obtain ⟨c, r, e, h3, h4⟩ := (like_one hx).1 h1
        cases t with
        | nil => simp at e
        | cons d t =>
          cases i with
          | zero => simp at e
          | succ i =>
            simp at e
            obtain ⟨rfl, rfl⟩ := e
            exact ⟨d, t, rfl, h3, (ih t).2 ⟨i, by simpa using hi, h4, by simpa using h2⟩⟩

/-- One thing more behind: any bytes. -/
theorem like_snoc_any {x : Thg} (h : x.any = true) (l : List Thg) (t : List Nat) {i : Nat} (hi : i ≤ t.length) : likeS (l ++ [x]) (t.take i) = true ↔ ∃ j, j ≤ i ∧ likeS l (t.take j) = true := by
  rw [like_append]
  constructor
  · rintro ⟨j, hj, h1, _⟩
    rw [List.length_take] at hj
    exact ⟨j, by omega, by rwa [List.take_take, Nat.min_eq_left (by omega)] at h1⟩
  · rintro ⟨j, hj, h1⟩
    refine ⟨j, by rw [List.length_take]; omega, by rwa [List.take_take, Nat.min_eq_left (by omega)], (like_any h).2 ⟨((t.take i).drop j).length, Nat.le_refl _, ?_⟩⟩
    rw [List.drop_of_length_le (Nat.le_refl _)]
    rfl
/-- One thing more behind: one byte. -/
theorem like_snoc_one {x : Thg} (h : x.any = false) (l : List Thg) (t : List Nat) {i : Nat} (hi : i ≤ t.length) : likeS (l ++ [x]) (t.take i) = true ↔ 0 < i ∧ likeS l (t.take (i - 1)) = true ∧ x.one (t.getD (i - 1) 0) = true := by
  rw [like_append]
  constructor
  · rintro ⟨j, hj, h1, h2⟩
    obtain ⟨c, r, e, h3, h4⟩ := (like_one h).1 h2
    have := like_nil.1 h4
    subst this
    have hl := congrArg List.length e
    simp at hl
    have hj2 : j = i - 1 := by omega
    subst hj2
    have e2 := congrArg (fun l => l[0]?) e
    simp [List.getElem?_drop, List.getElem?_take] at e2
    rw [List.take_take, Nat.min_eq_left (by omega)] at h1
    refine ⟨by omega, h1, ?_⟩
    rw [List.getD_eq_getElem?_getD, e2.2]
    exact h3
  · rintro ⟨h0, h1, h2⟩
    refine ⟨i - 1, by rw [List.length_take]; omega, by rwa [List.take_take, Nat.min_eq_left (by omega)], (like_one h).2 ⟨t.getD (i - 1) 0, [], ?_, h2, by simp [likeS]⟩⟩
    apply List.ext_getElem?
    intro k
    rw [List.getElem?_drop, List.getElem?_take]
    cases k with
    | zero =>
      rw [if_pos (by omega), Nat.add_zero, List.getD_eq_getElem?_getD, List.getElem?_eq_getElem (by omega)]
      simp
    | succ k =>
      rw [if_neg (by omega)]
      simp

/-! ### Patterns side by side -/
theorem setLen_append {r q : List Nat} (h : setLen r < r.length) : setLen (r ++ q) = setLen r := by
  unfold setLen at h ⊢
  cases r with
  | nil => simp at h
  | cons a r =>
    simp only [List.drop_succ_cons, List.drop_zero, List.cons_append, List.length_cons] at h ⊢
    congr 2
    have : ∀ r : List Nat, (r.takeWhile (fun c => decide (c ≠ 93))).length < r.length → (r ++ q).takeWhile (fun c => decide (c ≠ 93)) = r.takeWhile (fun c => decide (c ≠ 93)) := by
      intro r
      induction r with
      | nil => simp
      | cons b r ih =>
        intro hl
        rw [List.cons_append, List.takeWhile_cons, List.takeWhile_cons]
        split
        · rename_i hb
          rw [List.takeWhile_cons, if_pos hb] at hl
          rw [ih (by simpa using hl)]
        · rfl
    exact this r (by omega)

theorem things_nil : thingsS [] = some [] := by rw [thingsS]
theorem things_append (q : List Nat) : ∀ (n : Nat) (p : List Nat) (l : List Thg), p.length ≤ n → thingsS p = some l → thingsS (p ++ q) = (thingsS q).map (l ++ ·) := by
  intro n
  induction n with
  | zero =>
    intro p l hn h
    obtain rfl : p = [] := List.eq_nil_of_length_eq_zero (by omega)
    rw [things_nil] at h
    cases h
    cases hq : thingsS q <;> simp [hq]
  | succ n ih =>
    intro p l hn h
    cases p with
    | nil =>
      rw [things_nil] at h
      cases h
      cases hq : thingsS q <;> simp [hq]
    | cons c r =>
      simp only [List.length_cons] at hn
      have fin : ∀ (x : Thg) (r' : List Nat), r'.length ≤ n → (thingsS r').map (x :: ·) = some l → (thingsS (r' ++ q)).map (x :: ·) = (thingsS q).map (l ++ ·) := by
        intro x r' hr' h
        cases hm : thingsS r' with
        | none => rw [hm] at h; cases h
        | some m =>
          rw [hm] at h
          cases h
          rw [ih r' m hr' hm]
          cases thingsS q <;> simp
      rw [thingsS] at h
      rw [List.cons_append, thingsS]
      split at h
      · rw [if_pos ‹_›]; exact fin _ _ (by omega) h
      rw [if_neg ‹_›]
      split at h
      · rw [if_pos ‹_›]; exact fin _ _ (by omega) h
      rw [if_neg ‹_›]
      split at h
      · rw [if_pos ‹_›]
        split at h
        · cases h
        · rename_i hr
          rw [setLen_append (by omega), if_neg (by rw [List.length_append]; omega), List.drop_append_of_le_length (by omega), List.take_append_of_le_length (by omega)]
          exact fin _ _ (by rw [List.length_drop]; omega) h
      rw [if_neg ‹_›]
      split at h
      · rw [if_pos ‹_›]
        split at h
        · cases h
        · cases r with
          | nil => contradiction
          | cons d r =>
            rw [if_neg (by simp)]
            simp only [List.cons_append, List.drop_succ_cons, List.drop_zero, List.headD_cons] at h ⊢
            exact fin _ _ (by simp at hn; omega) h
      rw [if_neg ‹_›]
      exact fin _ _ (by omega) h
theorem things_join {p q : List Nat} {l m : List Thg} (h : thingsS p = some l) (k : thingsS q = some m) : thingsS (p ++ q) = some (l ++ m) := by
  rw [things_append q p.length p l (Nat.le_refl _) h, k]; rfl

theorem things_star : thingsS [42] = some [starT] := by simp [thingsS]
theorem things_all : thingsS [63] = some [allT] := by simp [thingsS]
theorem things_alls : ∀ k, thingsS (List.replicate k 63) = some (List.replicate k allT)
  | 0 => things_nil
  | k + 1 => by
    rw [List.replicate_succ, thingsS, if_neg (by omega), if_pos rfl, things_alls k]
    rfl

/-! ### A text alone -/
/-- Each byte that is one of * ? [ \ with a \ ahead. -/
def escS (t : List Nat) : List Nat := t.flatMap fun c => if c = 42 ∨ c = 63 ∨ c = 91 ∨ c = 92 then [92, c] else [c]
theorem esc_len (t : List Nat) : (escS t).length ≤ 2 * t.length := by
  induction t with
  | nil => simp [escS]
  | cons c t ih =>
    unfold escS at ih ⊢
    rw [List.flatMap_cons, List.length_append, List.length_cons]
    split
    · simp only [List.length_cons, List.length_nil]; omega
    · simp only [List.length_cons, List.length_nil]; omega
theorem things_esc (t : List Nat) : thingsS (escS t) = some (t.map oneT) := by
  induction t with
  | nil => exact things_nil
  | cons c t ih =>
    have e : escS (c :: t) = (if c = 42 ∨ c = 63 ∨ c = 91 ∨ c = 92 then [92, c] else [c]) ++ escS t := by simp [escS]
    rw [e, List.map_cons]
    split
    · rw [List.cons_append, thingsS, if_neg (by omega), if_neg (by omega), if_neg (by omega), if_pos rfl, if_neg (by simp)]
      simp [ih]
    · rename_i h
      rw [List.cons_append, thingsS, if_neg (by omega), if_neg (by omega), if_neg (by omega), if_neg (by omega)]
      simp [ih]
theorem like_text (t : List Nat) : ∀ u : List Nat, likeS (t.map oneT) u = true ↔ u = t := by
  induction t with
  | nil => intro u; exact like_nil
  | cons c t ih =>
    intro u
    rw [List.map_cons, like_one rfl]
    constructor
    · rintro ⟨d, r, rfl, h1, h2⟩
      have h1 : d = c := by simpa [oneT] using h1
      rw [h1, (ih r).1 h2]
    · rintro rfl
      exact ⟨c, t, rfl, by simp [oneT], (ih t).2 rfl⟩
/-- A star ahead: the rest is like some end. -/
theorem like_star_cons {l : List Thg} {t : List Nat} : likeS (starT :: l) t = true ↔ ∃ i, i ≤ t.length ∧ likeS l (t.drop i) = true := like_any rfl
theorem like_star_ahead {l : List Thg} {t : List Nat} (m : List Nat) (h : likeS l t = true) : likeS (starT :: l) (m ++ t) = true :=
  like_star_cons.2 ⟨m.length, by simp, by simpa using h⟩
theorem like_star_alone (t : List Nat) : likeS [starT] t = true := like_star_cons.2 ⟨t.length, Nat.le_refl _, by simp [likeS]⟩
theorem like_star_behind {l : List Thg} {t : List Nat} (m : List Nat) (h : likeS l t = true) : likeS (l ++ [starT]) (t ++ m) = true :=
  (like_append _ _ _).2 ⟨t.length, by simp, by simpa using h, like_star_alone _⟩
theorem like_all_behind {l : List Thg} {t : List Nat} (c : Nat) : likeS (l ++ [allT]) (t ++ [c]) = likeS l t := by
  rw [Bool.eq_iff_iff]
  have h := like_snoc_one (x := allT) rfl l (t ++ [c]) (i := t.length + 1) (by simp)
  rw [List.take_of_length_le (by simp)] at h
  rw [h]
  simp [allT]
/-- Two stars are what one is. -/
theorem like_stars (l m : List Thg) (t : List Nat) : likeS (l ++ starT :: starT :: m) t = likeS (l ++ starT :: m) t := by
  rw [Bool.eq_iff_iff, like_append, like_append]
  refine exists_congr fun i => and_congr_right fun hi => and_congr_right fun _ => ?_
  rw [like_star_cons, like_star_cons]
  constructor
  · rintro ⟨j, hj, h⟩
    obtain ⟨k, hk, h⟩ := like_star_cons.1 h
    rw [List.length_drop] at hk
    exact ⟨j + k, by omega, by rwa [List.drop_drop] at h⟩
  · rintro ⟨j, hj, h⟩
    exact ⟨0, by omega, like_star_cons.2 ⟨j, by simpa using hj, by simpa using h⟩⟩
theorem like_alls : ∀ (k : Nat) (t : List Nat), likeS (List.replicate k allT) t = decide (t.length = k)
  | 0, t => by
    rw [Bool.eq_iff_iff]
    simp [likeS]
  | k + 1, t => by
    rw [Bool.eq_iff_iff, List.replicate_succ, like_one rfl]
    constructor
    · rintro ⟨c, r, rfl, _, h⟩
      rw [like_alls k r] at h
      simpa using h
    · intro h
      cases t with
      | nil => simp at h
      | cons c r =>
        refine ⟨c, r, rfl, rfl, ?_⟩
        rw [like_alls k r]
        simpa using h
theorem like_alls_star (k : Nat) (t : List Nat) : likeS (List.replicate k allT ++ [starT]) t = decide (k ≤ t.length) := by
  rw [Bool.eq_iff_iff, like_append]
  constructor
  · rintro ⟨i, hi, h, _⟩
    rw [like_alls] at h
    simp at h
    simp
    omega
  · intro h
    have h : k ≤ t.length := by simpa using h
    exact ⟨k, h, by rw [like_alls]; simp [h], like_star_alone _⟩

/-! ### Sets -/
theorem set_range (lo hi c : Nat) : setS [lo, 45, hi] c = decide (lo ≤ c ∧ c ≤ hi) := by
  rw [setS, if_pos (by simp)]
  simp [setS]
theorem set_two (lo hi c : Nat) : setS [lo, hi] c = (decide (c = lo) || decide (c = hi)) := by
  rw [setS, if_neg (by simp), setS, if_neg (by simp)]
  simp [setS]
theorem things_range {lo hi : Nat} (h1 : hi ≠ 93) : thingsS [91, lo, 45, hi, 93] = some [setT [lo, 45, hi]] := by
  have e : setLen [lo, 45, hi, 93] = 3 := by simp [setLen, h1]
  rw [thingsS, if_neg (by omega), if_neg (by omega), if_pos rfl, e, if_neg (by simp)]
  simp [things_nil]
theorem things_two {lo hi : Nat} (h1 : hi ≠ 93) : thingsS [91, lo, hi, 93] = some [setT [lo, hi]] := by
  have e : setLen [lo, hi, 93] = 2 := by simp [setLen, h1]
  rw [thingsS, if_neg (by omega), if_neg (by omega), if_pos rfl, e, if_neg (by simp)]
  simp [things_nil]
theorem like_single {x : Thg} (h : x.any = false) (c : Nat) : likeS [x] [c] = x.one c := by
  rw [Bool.eq_iff_iff, like_one h]
  simp [likeS]

/-! ### The first place -/
/-- The first place not ahead of i from which on a text is like things and no more than most bytes long. -/
def spanFrom (l : List Thg) (t : List Nat) (most : Int) : Nat → Nat → Option Nat
  | 0, _ => none
  | n + 1, i => if (t.length : Int) - i ≤ most ∧ likeS l (t.drop i) = true then some i else spanFrom l t most n (i + 1)
def spanS (l : List Thg) (t : List Nat) (most : Int) : Option Nat := spanFrom l t most (t.length + 1) 0
theorem spanFrom_first {l : List Thg} {t : List Nat} {most : Int} : ∀ {n i k : Nat}, i ≤ k → k < i + n → ((t.length : Int) - k ≤ most ∧ likeS l (t.drop k) = true) → (∀ j, i ≤ j → j < k → ¬ ((t.length : Int) - j ≤ most ∧ likeS l (t.drop j) = true)) → spanFrom l t most n i = some k
  | 0, i, k, h1, h2, _, _ => by omega
  | n + 1, i, k, h1, h2, h3, h4 => by
    rw [spanFrom]
    by_cases hk : k = i
    · subst hk; rw [if_pos h3]
    · rw [if_neg (h4 i (Nat.le_refl _) (by omega))]
      exact spanFrom_first (by omega) (by omega) h3 fun j hj hj2 => h4 j (by omega) hj2
/-- A text behind another one, alone: no more than its own bytes. -/
theorem span_text (a t : List Nat) : spanS (t.map oneT) (a ++ t) (t.length : Nat) = some a.length := by
  refine spanFrom_first (by omega) (by simp; omega) ⟨by simp; omega, (like_text t _).2 (by simp)⟩ fun j _ hj h => ?_
  have := h.1
  simp at this
  omega
theorem like_escape_in (a t b : List Nat) : likeS (starT :: (t.map oneT ++ [starT])) (a ++ t ++ b) = true := by
  rw [List.append_assoc]
  exact like_star_ahead a (like_star_behind b ((like_text t t).2 rfl))

/-! ### Of two things more behind the other, by index -/
theorem things_step_star {p : List Nat} {i : Nat} (h : p[i]? = some 42) : thingsS (p.drop i) = (thingsS (p.drop (i + 1))).map (starT :: ·) := by
  have hlt := (List.getElem?_eq_some_iff.1 h).1
  rw [List.drop_eq_getElem_cons hlt, (List.getElem?_eq_some_iff.1 h).2, thingsS, if_pos rfl]
theorem things_step_all {p : List Nat} {i : Nat} (h : p[i]? = some 63) : thingsS (p.drop i) = (thingsS (p.drop (i + 1))).map (allT :: ·) := by
  have hlt := (List.getElem?_eq_some_iff.1 h).1
  rw [List.drop_eq_getElem_cons hlt, (List.getElem?_eq_some_iff.1 h).2, thingsS, if_neg (by omega), if_pos rfl]
theorem things_step_one {p : List Nat} {i c : Nat} (h : p[i]? = some c) (h1 : c ≠ 42) (h2 : c ≠ 63) (h3 : c ≠ 91) (h4 : c ≠ 92) : thingsS (p.drop i) = (thingsS (p.drop (i + 1))).map (oneT c :: ·) := by
  have hlt := (List.getElem?_eq_some_iff.1 h).1
  rw [List.drop_eq_getElem_cons hlt, (List.getElem?_eq_some_iff.1 h).2, thingsS, if_neg h1, if_neg h2, if_neg h3, if_neg h4]
theorem things_step_back {p : List Nat} {i c : Nat} (h : p[i]? = some 92) (h1 : p[i + 1]? = some c) : thingsS (p.drop i) = (thingsS (p.drop (i + 2))).map (oneT c :: ·) := by
  have hlt := (List.getElem?_eq_some_iff.1 h).1
  have hlt1 := (List.getElem?_eq_some_iff.1 h1).1
  rw [List.drop_eq_getElem_cons hlt, (List.getElem?_eq_some_iff.1 h).2, thingsS, if_neg (by omega), if_neg (by omega), if_neg (by omega), if_pos rfl, List.drop_eq_getElem_cons hlt1, (List.getElem?_eq_some_iff.1 h1).2, if_neg (by simp)]
  simp
theorem things_step_cut {p : List Nat} {i : Nat} (h : p[i]? = some 92) (h1 : p.length ≤ i + 1) : thingsS (p.drop i) = none := by
  have hlt := (List.getElem?_eq_some_iff.1 h).1
  rw [List.drop_eq_getElem_cons hlt, (List.getElem?_eq_some_iff.1 h).2, thingsS, if_neg (by omega), if_neg (by omega), if_neg (by omega), if_pos rfl, List.drop_of_length_le h1, if_pos rfl]
/-- k: the place of the ] that ends the set, or the pattern's end. -/
theorem set_end {p : List Nat} {i k : Nat} (hk : i + 2 ≤ k) (hne : ∀ j, i + 2 ≤ j → j < k → p[j]? ≠ some 93 ∧ j < p.length) (he : p.length ≤ k ∨ p[k]? = some 93) (hi : i + 1 < p.length) : setLen (p.drop (i + 1)) = k - (i + 1) := by
  have gen : ∀ (n : Nat) (r : List Nat), n ≤ r.length → (∀ j, j < n → r[j]? ≠ some 93) → (r.length ≤ n ∨ r[n]? = some 93) → (r.takeWhile (fun c => decide (c ≠ 93))).length = n := by
    intro n
    induction n with
    | zero =>
      intro r _ _ h
      cases r with
      | nil => rfl
      | cons c r =>
        rcases h with h | h
        · simp at h
        · simp at h; simp [h]
    | succ n ih =>
      intro r hn hj h
      cases r with
      | nil => simp at hn
      | cons c r =>
        have h0 := hj 0 (by omega)
        simp at h0
        rw [List.takeWhile_cons, if_pos (by simpa using h0), List.length_cons, ih r (by simpa using hn) (fun j hlt => by simpa using hj (j + 1) (by omega)) (by simpa using h)]
  unfold setLen
  rw [List.drop_drop, show i + 1 + 1 = i + 2 by omega, gen (k - (i + 2)) (p.drop (i + 2)) ?_ ?_ ?_]
  · omega
  · rw [List.length_drop]
    rcases Nat.lt_or_ge (i + 2) k with h | h
    · have := (hne (k - 1) (by omega) (by omega)).2; omega
    · omega
  · intro j hj
    rw [List.getElem?_drop]
    exact (hne (i + 2 + j) (by omega) (by omega)).1
  · rw [List.length_drop, List.getElem?_drop, show i + 2 + (k - (i + 2)) = k by omega]
    rcases he with h | h
    · exact .inl (by omega)
    · exact .inr h
theorem things_step_set {p : List Nat} {i k : Nat} (h : p[i]? = some 91) (hk : i + 2 ≤ k) (hne : ∀ j, i + 2 ≤ j → j < k → p[j]? ≠ some 93 ∧ j < p.length) (he : p[k]? = some 93) :
    thingsS (p.drop i) = (thingsS (p.drop (k + 1))).map (setT ((p.take k).drop (i + 1)) :: ·) := by
  have hlt := (List.getElem?_eq_some_iff.1 h).1
  have hltk := (List.getElem?_eq_some_iff.1 he).1
  rw [List.drop_eq_getElem_cons hlt, (List.getElem?_eq_some_iff.1 h).2, thingsS, if_neg (by omega), if_neg (by omega), if_pos rfl, set_end hk hne (.inr he) (by omega), if_neg (by rw [List.length_drop]; omega), List.drop_drop, List.drop_take, show i + 1 + (k - (i + 1) + 1) = k + 1 by omega]
theorem things_step_open {p : List Nat} {i k : Nat} (h : p[i]? = some 91) (hk : i + 2 ≤ k) (hne : ∀ j, i + 2 ≤ j → j < k → p[j]? ≠ some 93 ∧ j < p.length) (he : p.length ≤ k) : thingsS (p.drop i) = none := by
  have hlt := (List.getElem?_eq_some_iff.1 h).1
  rw [List.drop_eq_getElem_cons hlt, (List.getElem?_eq_some_iff.1 h).2, thingsS, if_neg (by omega), if_neg (by omega), if_pos rfl, if_pos ?_]
  rcases Nat.lt_or_ge (i + 1) p.length with h1 | h1
  · rw [set_end hk hne (.inl he) h1, List.length_drop]; omega
  · rw [List.length_drop]; omega
end Go.Proofs.YtcipljpalohjiaaDoor
