/-
  What a matcher's closures know of the bytes that came, in plain lists: a pattern's things one by one; the greatest place from which on the bytes are like the first things (lastS), step by step; where a row of single things stands (headAt); the first place of a pattern with a star (span_glob), of one without (span_row).
  Conditions: none.
-/
import Derived.Test.YtcipljpalohjiaaDoorMtMath
namespace Go.Proofs.YtcipljpalohjiaaDoor

theorem least_nat {P : Nat → Prop} (h : ∃ n, P n) : ∃ n, P n ∧ ∀ m, m < n → ¬ P m := by
  obtain ⟨n, hn⟩ := h
  induction n using Nat.strongRecOn with
  | _ n ih =>
    by_cases hm : ∃ m, m < n ∧ P m
    · obtain ⟨m, hlt, hp⟩ := hm
      exact ih m hlt hp
    · exact ⟨n, hn, fun m hlt hp => hm ⟨m, hlt, hp⟩⟩

/-! ### A pattern's things, one by one -/
theorem things_empty {p : List Nat} (h : thingsS p = some []) : p = [] := by
  cases p with
  | nil => rfl
  | cons c r =>
    exfalso
    have no : ∀ (x : Thg) (o : Option (List Thg)), o.map (x :: ·) ≠ some [] := by
      intro x o
      cases o <;> simp
    rw [thingsS] at h
    repeat' split at h
    all_goals first | exact no _ _ h | cases h
theorem thing_head {p : List Nat} {l : List Thg} (h : thingsS p = some l) (hp : p ≠ []) : ∃ k t, 1 ≤ k ∧ k ≤ p.length ∧ thingsS (p.take k) = some [t] := by
  obtain ⟨c, r, rfl⟩ : ∃ c r, p = c :: r := by
    cases p with
    | nil => exact absurd rfl hp
    | cons c r => exact ⟨c, r, rfl⟩
  by_cases h1 : c = 42
  · subst h1; exact ⟨1, starT, by omega, by simp, by simp [thingsS]⟩
  by_cases h2 : c = 63
  · subst h2; exact ⟨1, allT, by omega, by simp, by simp [thingsS]⟩
  by_cases h3 : c = 91
  · subst h3
    by_cases hk : ∃ k, 2 ≤ k ∧ (91 :: r)[k]? = some 93
    · obtain ⟨k, ⟨hk, hk9⟩, hmin⟩ := least_nat hk
      have hlt := (List.getElem?_eq_some_iff.1 hk9).1
      have hp : ∀ j, j ≤ k → ((91 :: r).take (k + 1))[j]? = (91 :: r)[j]? := fun j hj => by rw [List.getElem?_take, if_pos (by omega)]
      have e := things_step_set (p := (91 :: r).take (k + 1)) (i := 0) (k := k) ((hp 0 (by omega)).trans rfl) (by omega) (fun j hj hj2 => ⟨by rw [hp j (by omega)]; exact fun h => hmin j hj2 ⟨by omega, h⟩, by rw [List.length_take]; omega⟩) ((hp k (by omega)).trans hk9)
      have e2 : ((91 :: r).take (k + 1)).drop (k + 1) = [] := List.drop_of_length_le (by rw [List.length_take]; omega)
      rw [List.drop_zero, e2, things_nil] at e
      exact ⟨k + 1, _, by omega, by omega, e⟩
    · exfalso
      have := things_step_open (p := 91 :: r) (i := 0) (k := max 2 (91 :: r).length) rfl (by omega) (fun j hj hj2 => ⟨fun h => hk ⟨j, by omega, h⟩, by omega⟩) (by omega)
      rw [List.drop_zero, h] at this
      cases this
  by_cases h4 : c = 92
  · subst h4
    cases r with
    | nil => rw [thingsS] at h; simp at h
    | cons d r => exact ⟨2, oneT d, by omega, by simp, by simp [thingsS]⟩
  · exact ⟨1, oneT c, by omega, by simp, by simp [thingsS, h1, h2, h3, h4]⟩
theorem things_step {p : List Nat} {l : List Thg} (h : thingsS p = some l) (hp : p ≠ []) : ∃ n t m, 1 ≤ n ∧ n ≤ p.length ∧ l = t :: m ∧ thingsS (p.take n) = some [t] ∧ thingsS (p.drop n) = some m ∧ ∀ k, 1 ≤ k → k < n → thingsS (p.take k) = none := by
  obtain ⟨k0, t0, h1, h2, h3⟩ := thing_head h hp
  obtain ⟨n, ⟨hn1, hn2, q, hq⟩, hmin⟩ := least_nat (P := fun k => 1 ≤ k ∧ k ≤ p.length ∧ ∃ q, thingsS (p.take k) = some q) ⟨k0, h1, h2, _, h3⟩
  obtain ⟨k, t, k1, k2, k3⟩ := thing_head hq (fun h => by have := congrArg List.length h; rw [List.length_take, List.length_nil] at this; omega)
  rw [List.length_take] at k2
  rw [List.take_take, Nat.min_eq_left (by omega)] at k3
  have hk : k = n := by
    rcases Nat.lt_or_ge k n with hlt | hge
    · exact absurd ⟨k1, by omega, _, k3⟩ (hmin k hlt)
    · omega
  subst hk
  have e := things_append (p.drop k) (p.take k).length (p.take k) [t] (Nat.le_refl _) k3
  rw [List.take_append_drop, h] at e
  cases hd : thingsS (p.drop k) with
  | none => rw [hd] at e; cases e
  | some m =>
    rw [hd] at e
    cases e
    refine ⟨k, t, m, hn1, hn2, rfl, k3, hd, fun j hj hj2 => ?_⟩
    cases hx : thingsS (p.take j) with
    | none => rfl
    | some q => exact absurd ⟨hj, by omega, q, hx⟩ (hmin j hj2)
theorem any_star {q : List Nat} {t : Thg} (h : thingsS q = some [t]) : t.any = decide (q = [42]) := by
  cases q with
  | nil => rw [things_nil] at h; cases h
  | cons c r =>
    have sp : ∀ (x : Thg) (r : List Nat), (thingsS r).map (x :: ·) = some [t] → t = x ∧ r = [] := by
      intro x r h
      cases hm : thingsS r with
      | none => rw [hm] at h; cases h
      | some m =>
        rw [hm] at h
        simp at h
        obtain ⟨rfl, rfl⟩ := h
        exact ⟨rfl, things_empty hm⟩
    rw [thingsS] at h
    split at h
    · obtain ⟨rfl, rfl⟩ := sp _ _ h
      subst c
      rfl
    · have hc : decide (c :: r = [42]) = false := decide_eq_false (fun e => by cases e; contradiction)
      rw [hc]
      repeat' split at h
      all_goals first | (obtain ⟨rfl, _⟩ := sp _ _ h; rfl) | cases h
theorem ok_one {q : List Nat} {t : Thg} (hn : q.length ≤ 1024) (h : thingsS q = some [t]) (ha : t.any = false) (c : Nat) : okS q [c] = t.one c := by
  unfold okS
  rw [h, decide_eq_true hn, Bool.true_and]
  exact like_single ha c

/-! ### The greatest place -/
def lastFrom (ts : List Thg) (b : List Nat) : Nat → Int
  | 0 => if likeS ts b = true then 0 else -1
  | n + 1 => if likeS ts (b.drop (n + 1)) = true then ((n + 1 : Nat) : Int) else lastFrom ts b n
/-- The greatest place from which on bytes are like things; -1, if there is none. -/
def lastS (ts : List Thg) (b : List Nat) : Int := lastFrom ts b b.length
theorem lastFrom_le {ts : List Thg} {b : List Nat} : ∀ {n f : Nat}, f ≤ n → likeS ts (b.drop f) = true → (f : Int) ≤ lastFrom ts b n
  | 0, f, hf, h => by
    obtain rfl : f = 0 := by omega
    rw [List.drop_zero] at h
    rw [lastFrom, if_pos h]
    omega
  | n + 1, f, hf, h => by
    rw [lastFrom]
    split
    · omega
    · rename_i hno
      rcases Nat.lt_or_ge n f with h1 | h1
      · obtain rfl : f = n + 1 := by omega
        exact absurd h hno
      · exact lastFrom_le h1 h
theorem lastFrom_ex {ts : List Thg} {b : List Nat} : ∀ (n : Nat), lastFrom ts b n = -1 ∨ ∃ f : Nat, lastFrom ts b n = f ∧ f ≤ n ∧ likeS ts (b.drop f) = true
  | 0 => by
    rw [lastFrom]
    split
    · exact .inr ⟨0, rfl, by omega, by rwa [List.drop_zero]⟩
    · exact .inl rfl
  | n + 1 => by
    rw [lastFrom]
    split
    · exact .inr ⟨n + 1, rfl, by omega, by assumption⟩
    · rcases lastFrom_ex n with h | ⟨f, h1, h2, h3⟩
      · exact .inl h
      · exact .inr ⟨f, h1, by omega, h3⟩
section
variable {ts l : List Thg} {x : Thg} {b : List Nat} {c : Nat}
theorem last_le {f : Nat} (hf : f ≤ b.length) (h : likeS ts (b.drop f) = true) : (f : Int) ≤ lastS ts b := lastFrom_le hf h
theorem last_ex (ts : List Thg) (b : List Nat) : lastS ts b = -1 ∨ ∃ f : Nat, lastS ts b = f ∧ f ≤ b.length ∧ likeS ts (b.drop f) = true := lastFrom_ex b.length
theorem last_is {z : Int} (h1 : ∀ f : Nat, f ≤ b.length → likeS ts (b.drop f) = true → (f : Int) ≤ z) (h2 : z = -1 ∨ ∃ f : Nat, z = f ∧ f ≤ b.length ∧ likeS ts (b.drop f) = true) : lastS ts b = z := by
  rcases last_ex ts b with h | ⟨f, h, hf, hl⟩
  · rcases h2 with rfl | ⟨g, rfl, hg, hl⟩
    · exact h
    · have := last_le hg hl; omega
  · have h3 := h1 f hf hl
    rcases h2 with rfl | ⟨g, rfl, hg, hl2⟩
    · omega
    · have := last_le hg hl2; omega
theorem last_bound (ts : List Thg) (b : List Nat) : -1 ≤ lastS ts b ∧ lastS ts b ≤ b.length := by
  rcases last_ex ts b with h | ⟨f, h, hf, _⟩ <;> omega
theorem last_nil (b : List Nat) : lastS [] b = b.length := last_is (fun f hf _ => by omega) (.inr ⟨b.length, rfl, Nat.le_refl _, by rw [List.drop_of_length_le (Nat.le_refl _)]; rfl⟩)

theorem like_any_behind (h : x.any = true) (u : List Nat) : likeS (l ++ [x]) (u ++ [c]) = true ↔ likeS l (u ++ [c]) = true ∨ likeS (l ++ [x]) u = true := by
  have e1 := like_snoc_any h l (u ++ [c]) (i := u.length + 1) (by simp)
  have e2 := like_snoc_any h l u (i := u.length) (Nat.le_refl _)
  rw [List.take_of_length_le (by simp)] at e1
  rw [List.take_of_length_le (Nat.le_refl _)] at e2
  rw [e1, e2]
  constructor
  · rintro ⟨j, hj, hl⟩
    rcases Nat.lt_or_ge u.length j with h1 | h1
    · left; rwa [List.take_of_length_le (by simp; omega)] at hl
    · right; exact ⟨j, h1, by rwa [List.take_append_of_le_length h1] at hl⟩
  · rintro (hl | ⟨j, hj, hl⟩)
    · exact ⟨u.length + 1, Nat.le_refl _, by rwa [List.take_of_length_le (by simp)]⟩
    · exact ⟨j, by omega, by rwa [List.take_append_of_le_length hj]⟩
theorem like_any_none (h : x.any = true) : likeS (l ++ [x]) [] = true ↔ likeS l [] = true := by
  have e2 := like_snoc_any h l [] (i := 0) (Nat.le_refl _)
  rw [List.take_zero] at e2
  rw [e2]
  constructor
  · rintro ⟨j, hj, hl⟩; obtain rfl : j = 0 := by omega
    simpa using hl
  · intro hl; exact ⟨0, Nat.le_refl _, by simpa using hl⟩
theorem like_one_behind (h : x.any = false) (u : List Nat) : likeS (l ++ [x]) (u ++ [c]) = true ↔ likeS l u = true ∧ x.one c = true := by
  have e1 := like_snoc_one h l (u ++ [c]) (i := u.length + 1) (by simp)
  rw [List.take_of_length_le (by simp)] at e1
  rw [e1]
  simp
theorem like_one_none (h : x.any = false) : likeS (l ++ [x]) [] = false := by
  have e1 := like_snoc_one h l [] (i := 0) (Nat.le_refl _)
  rw [List.take_zero] at e1
  cases hh : likeS (l ++ [x]) [] with
  | false => rfl
  | true => have := (e1.1 hh).1; omega
theorem drop_snoc (b : List Nat) (c : Nat) {f : Nat} (hf : f ≤ b.length) : (b ++ [c]).drop f = b.drop f ++ [c] := List.drop_append_of_le_length hf
theorem drop_end (b : List Nat) (c : Nat) : (b ++ [c]).drop (b.length + 1) = [] := List.drop_of_length_le (by simp)
theorem last_any (h : x.any = true) : lastS (l ++ [x]) (b ++ [c]) = max (lastS l (b ++ [c])) (lastS (l ++ [x]) b) := by
  refine last_is (fun f hf hl => ?_) ?_
  · rw [List.length_append, List.length_singleton] at hf
    rcases Nat.lt_or_ge b.length f with h1 | h1
    · obtain rfl : f = b.length + 1 := by omega
      rw [drop_end] at hl
      have := last_le (ts := l) (b := b ++ [c]) (f := b.length + 1) (by simp) (by rw [drop_end]; exact (like_any_none h).1 hl)
      omega
    · rw [drop_snoc b c h1] at hl
      rcases (like_any_behind h _).1 hl with hl | hl
      · have := last_le (ts := l) (b := b ++ [c]) (f := f) (by simp; omega) (by rw [drop_snoc b c h1]; exact hl); omega
      · have := last_le h1 hl; omega
  · rcases last_ex l (b ++ [c]) with hA | ⟨f, hA, hf, hl⟩
    · rcases last_ex (l ++ [x]) b with hB | ⟨g, hB, hg, hl2⟩
      · left; omega
      · right; exact ⟨g, by omega, by simp; omega, by rw [drop_snoc b c hg]; exact (like_any_behind h _).2 (.inr hl2)⟩
    · have up : likeS (l ++ [x]) ((b ++ [c]).drop f) = true := by
        rw [List.length_append, List.length_singleton] at hf
        rcases Nat.lt_or_ge b.length f with h1 | h1
        · obtain rfl : f = b.length + 1 := by omega
          rw [drop_end] at hl ⊢
          exact (like_any_none h).2 hl
        · rw [drop_snoc b c h1] at hl ⊢
          exact (like_any_behind h _).2 (.inl hl)
      rcases last_ex (l ++ [x]) b with hB | ⟨g, hB, hg, hl2⟩
      · right; exact ⟨f, by omega, hf, up⟩
      · rcases Nat.lt_or_ge f g with h1 | h1
        · right; exact ⟨g, by omega, by simp; omega, by rw [drop_snoc b c hg]; exact (like_any_behind h _).2 (.inr hl2)⟩
        · right; exact ⟨f, by omega, hf, up⟩
theorem last_one (h : x.any = false) : lastS (l ++ [x]) (b ++ [c]) = if x.one c = true then lastS l b else -1 := by
  refine last_is (fun f hf hl => ?_) ?_
  · rw [List.length_append, List.length_singleton] at hf
    rcases Nat.lt_or_ge b.length f with h1 | h1
    · obtain rfl : f = b.length + 1 := by omega
      rw [drop_end, like_one_none h] at hl
      cases hl
    · rw [drop_snoc b c h1] at hl
      obtain ⟨h2, h3⟩ := (like_one_behind h _).1 hl
      rw [if_pos h3]
      exact last_le h1 h2
  · split
    · rename_i h3
      rcases last_ex l b with hA | ⟨f, hA, hf, hl⟩
      · exact .inl hA
      · exact .inr ⟨f, hA, by simp; omega, by rw [drop_snoc b c hf]; exact (like_one_behind h _).2 ⟨hl, h3⟩⟩
    · exact .inl rfl
theorem last_none_any (h : x.any = true) : lastS (l ++ [x]) [] = lastS l [] := by
  show (if likeS (l ++ [x]) [] = true then (0 : Int) else -1) = if likeS l [] = true then (0 : Int) else -1
  by_cases h1 : likeS l [] = true
  · rw [if_pos h1, if_pos ((like_any_none h).2 h1)]
  · rw [if_neg h1, if_neg (fun h2 => h1 ((like_any_none h).1 h2))]
theorem last_none_one (h : x.any = false) : lastS (l ++ [x]) [] = -1 := by
  show (if likeS (l ++ [x]) [] = true then (0 : Int) else -1) = -1
  rw [like_one_none h]; rfl
end

/-- What a trail knows of the first i things behind a byte more, out of what it knew (p) and of what it knows of one thing less (a). -/
def nextS (x : Thg) (c : Nat) (a p q : Int) : Int := if x.any = true then max a q else if p ≠ -1 ∧ x.one c = true then p else -1
theorem next_is {ts : List Thg} {i : Nat} {x : Thg} (hx : ts[i]? = some x) (b : List Nat) (c : Nat) : lastS (ts.take (i + 1)) (b ++ [c]) = nextS x c (lastS (ts.take i) (b ++ [c])) (lastS (ts.take i) b) (lastS (ts.take (i + 1)) b) := by
  have e : ts.take (i + 1) = ts.take i ++ [x] := by rw [List.take_add_one, hx]; rfl
  rw [e]
  unfold nextS
  by_cases h : x.any = true
  · rw [if_pos h, last_any h]
  · rw [if_neg h, last_one (by simpa using h)]
    by_cases h1 : x.one c = true
    · rw [if_pos h1]
      by_cases h2 : lastS (ts.take i) b = -1
      · rw [if_neg (fun k => k.1 h2), h2]
      · rw [if_pos ⟨h2, h1⟩]
    · rw [if_neg h1, if_neg (fun k => h1 k.2)]
theorem next_none {ts : List Thg} {i : Nat} {x : Thg} (hx : ts[i]? = some x) (c : Nat) : lastS (ts.take (i + 1)) [] = nextS x c (lastS (ts.take i) []) (-1) (-1) := by
  have e : ts.take (i + 1) = ts.take i ++ [x] := by rw [List.take_add_one, hx]; rfl
  rw [e]
  unfold nextS
  by_cases h : x.any = true
  · rw [if_pos h, last_none_any h]
    have := (last_bound (ts.take i) []).1
    omega
  · rw [if_neg h, last_none_one (by simpa using h), if_neg (fun k => k.1 rfl)]

/-! ### Where a row of single things stands -/
def headAt (r : List Thg) (b : List Nat) (f : Nat) : Prop := f + r.length ≤ b.length ∧ sitB r (b.drop f) = true
section
variable {r : List Thg} {b : List Nat} {c f : Nat}
theorem like_single_row (hr : ∀ x ∈ r, x.any = false) (hf : f ≤ b.length) : likeS r (b.drop f) = true ↔ headAt r b f ∧ f + r.length = b.length := by
  have h := like_row r [] (b.drop f) hr
  rw [List.append_nil] at h
  rw [h]
  constructor
  · rintro ⟨h1, h2⟩
    have h3 := sit_len h1
    have h4 := congrArg List.length (like_nil.1 h2)
    rw [List.length_drop] at h3
    rw [List.length_drop, List.length_drop] at h4
    simp at h4
    exact ⟨⟨by omega, h1⟩, by omega⟩
  · rintro ⟨⟨_, h1⟩, h2⟩
    exact ⟨h1, like_nil.2 (List.drop_of_length_le (by rw [List.length_drop]; omega))⟩
theorem last_row (hr : ∀ x ∈ r, x.any = false) : (lastS r b = -1 ∧ ∀ f, headAt r b f → f + r.length ≠ b.length) ∨ ∃ f : Nat, lastS r b = f ∧ f + r.length = b.length ∧ headAt r b f := by
  rcases last_ex r b with h | ⟨f, h, hf, hl⟩
  · refine .inl ⟨h, fun f hf he => ?_⟩
    have := last_le (ts := r) (b := b) (f := f) (by omega) ((like_single_row hr (by omega)).2 ⟨hf, he⟩)
    omega
  · obtain ⟨h1, h2⟩ := (like_single_row hr hf).1 hl
    exact .inr ⟨f, h, h2, h1⟩
theorem sit_more (h : f + r.length ≤ b.length) : sitB r ((b ++ [c]).drop f) = sitB r (b.drop f) := by
  rw [drop_snoc b c (by omega), Bool.eq_iff_iff, sit_at (by rw [List.length_append, List.length_drop]; omega), sit_at (by rw [List.length_drop]; omega)]
  have e : ∀ (j : Nat) (x : Thg), r[j]? = some x → (b.drop f ++ [c]).getD j 0 = (b.drop f).getD j 0 := by
    intro j x hj
    have := (List.getElem?_eq_some_iff.1 hj).1
    rw [List.getD_eq_getElem?_getD, List.getD_eq_getElem?_getD, List.getElem?_append_left (by rw [List.length_drop]; omega)]
  constructor
  · intro h j x hj; rw [← e j x hj]; exact h j x hj
  · intro h j x hj; rw [e j x hj]; exact h j x hj
/-- One byte more: where a row stands. -/
theorem head_snoc (hr : ∀ x ∈ r, x.any = false) : headAt r (b ++ [c]) f ↔ headAt r b f ∨ lastS r (b ++ [c]) = (f : Int) := by
  constructor
  · intro h
    rcases Nat.lt_or_ge b.length (f + r.length) with h1 | h1
    · right
      have h2 := h.1
      simp at h2
      rcases last_row (r := r) (b := b ++ [c]) hr with ⟨_, hno⟩ | ⟨g, hg, he, _⟩
      · exact absurd (by simp; omega) (hno f h)
      · simp at he; omega
    · left; exact ⟨h1, by rw [← sit_more h1]; exact h.2⟩
  · rintro (h | h)
    · exact ⟨by have := h.1; simp; omega, by rw [sit_more h.1]; exact h.2⟩
    · rcases last_row (r := r) (b := b ++ [c]) hr with ⟨hh, _⟩ | ⟨g, hg, _, hd⟩
      · omega
      · obtain rfl : g = f := by omega
        exact hd
theorem head_none (hr : ∀ x ∈ r, x.any = false) : headAt r [] f ↔ lastS r [] = (f : Int) := by
  constructor
  · intro h
    have h2 := h.1
    simp at h2
    rcases last_row (r := r) (b := []) hr with ⟨_, hno⟩ | ⟨g, hg, he, _⟩
    · exact absurd (by simp; omega) (hno f h)
    · simp at he; omega
  · intro h
    rcases last_row (r := r) (b := []) hr with ⟨hh, _⟩ | ⟨g, hg, _, hd⟩
    · omega
    · obtain rfl : g = f := by omega
      exact hd
theorem like_glob {x : Thg} {m : List Thg} (hr : ∀ x ∈ r, x.any = false) (hx : x.any = true) (hf : f ≤ b.length) : likeS (r ++ x :: m) (b.drop f) = true ↔ headAt r b f ∧ ((f + r.length : Nat) : Int) ≤ lastS m b := by
  rw [like_row r (x :: m) (b.drop f) hr, like_any hx, List.drop_drop]
  constructor
  · rintro ⟨h1, i, hi, h2⟩
    have h3 := sit_len h1
    rw [List.length_drop] at h3 hi
    rw [List.drop_drop] at h2
    have := last_le (ts := m) (b := b) (by omega) h2
    exact ⟨⟨by omega, h1⟩, by omega⟩
  · rintro ⟨h1, h2⟩
    rcases last_ex m b with h | ⟨g, h, hg, hl⟩
    · omega
    · refine ⟨h1.2, g - (f + r.length), by rw [List.length_drop]; omega, ?_⟩
      rw [List.drop_drop, show f + r.length + (g - (f + r.length)) = g by omega]
      exact hl
/-- The first place of a pattern with a star: the least one of those ahead of it, if what is behind leaves it room. -/
theorem span_glob {x : Thg} {m : List Thg} {most : Int} (hr : ∀ x ∈ r, x.any = false) (hx : x.any = true) {k : Option Nat}
    (h1 : ∀ f : Nat, k = some f → headAt r b f ∧ (b.length : Int) - f ≤ most ∧ ∀ g : Nat, g < f → (b.length : Int) - g ≤ most → ¬ headAt r b g) (h2 : k = none → ∀ g : Nat, (b.length : Int) - g ≤ most → ¬ headAt r b g) :
    spanS (r ++ x :: m) b most = match k with | some f => if ((f + r.length : Nat) : Int) ≤ lastS m b then some f else none | none => none := by
  cases k with
  | none =>
    refine spanFrom_no fun g _ hg hh => ?_
    exact h2 rfl g hh.1 ((like_glob hr hx (by omega)).1 hh.2).1
  | some f =>
    obtain ⟨h3, h4, h5⟩ := h1 f rfl
    have hf : f ≤ b.length := by have := h3.1; omega
    show spanS _ _ _ = if _ then _ else _
    split
    · rename_i hle
      exact spanFrom_first (by omega) (by omega) ⟨h4, (like_glob hr hx hf).2 ⟨h3, hle⟩⟩ fun j _ hj hh => h5 j hj hh.1 ((like_glob hr hx (by omega)).1 hh.2).1
    · rename_i hle
      refine spanFrom_no fun g _ hg hh => ?_
      obtain ⟨k1, k2⟩ := (like_glob hr hx (by omega)).1 hh.2
      rcases Nat.lt_or_ge g f with h | h
      · exact h5 g h hh.1 k1
      · omega
/-- The first place of a pattern without one: there is but one. -/
theorem span_row {most : Int} (hr : ∀ x ∈ r, x.any = false) : spanS r b most = if lastS r b ≠ -1 ∧ (b.length : Int) - lastS r b ≤ most then some (lastS r b).toNat else none := by
  rcases last_row (r := r) (b := b) hr with ⟨h, hno⟩ | ⟨f, h, he, hd⟩
  · rw [if_neg (fun k => k.1 h)]
    refine spanFrom_no fun g _ hg hh => ?_
    obtain ⟨k1, k2⟩ := (like_single_row hr (by omega)).1 hh.2
    exact hno g k1 k2
  · rw [h]
    split
    · rename_i hc
      rw [Int.toNat_natCast]
      exact spanFrom_first (by omega) (by omega) ⟨hc.2, (like_single_row hr (by omega)).2 ⟨hd, he⟩⟩ fun j _ hj hh => by
        obtain ⟨k1, k2⟩ := (like_single_row hr (by omega)).1 hh.2
        omega
    · rename_i hc
      refine spanFrom_no fun g _ hg hh => ?_
      obtain ⟨k1, k2⟩ := (like_single_row hr (by omega)).1 hh.2
      obtain rfl : g = f := by omega
      exact hc ⟨by omega, hh.1⟩
end
end Go.Proofs.YtcipljpalohjiaaDoor
