/-
  Variables, names in order, words and numbers, in plain lists.
  Conditions: none.
-/
import Derived.Test.YteapcahpkapbbaaQMath
import Derived.Test.YteapcahpkapbbaaPrt
namespace Go.Proofs.Yteapcahpkapbbaa

/-! ### Names -/
/-- Is the first one ahead of the second one, by their bytes? -/
def lessN : List Nat → List Nat → Bool
  | _, [] => false
  | [], _ :: _ => true
  | a :: x, b :: y => decide (a < b) || (decide (a = b) && lessN x y)
theorem less_self : ∀ (a : List Nat), lessN a a = false
  | [] => rfl
  | c :: x => by simp [lessN, less_self x]
theorem less_trans : ∀ {a b c : List Nat}, lessN a b = true → lessN b c = true → lessN a c = true
  | a, b, [], _, h => by cases b <;> simp [lessN] at h
  | [], b, e :: z, _, _ => rfl
  | x :: a, [], e :: z, h, _ => by simp [lessN] at h
  | x :: a, y :: b, e :: z, h1, h2 => by
    simp only [lessN, Bool.or_eq_true, Bool.and_eq_true, decide_eq_true_eq] at h1 h2 ⊢
    rcases h1 with h1 | ⟨h1, h1'⟩ <;> rcases h2 with h2 | ⟨h2, h2'⟩
    · exact .inl (by omega)
    · exact .inl (by omega)
    · exact .inl (by omega)
    · exact .inr ⟨by omega, less_trans h1' h2'⟩
theorem less_or : ∀ (a b : List Nat), lessN a b = true ∨ a = b ∨ lessN b a = true
  | [], [] => .inr (.inl rfl)
  | [], _ :: _ => .inl rfl
  | _ :: _, [] => .inr (.inr rfl)
  | x :: a, y :: b => by
    simp only [lessN, Bool.or_eq_true, Bool.and_eq_true, decide_eq_true_eq, List.cons.injEq]
    rcases Nat.lt_trichotomy x y with h | h | h
    · exact .inl (.inl h)
    · rcases less_or a b with k | k | k
      · exact .inl (.inr ⟨h, k⟩)
      · exact .inr (.inl ⟨h, k⟩)
      · exact .inr (.inr (.inr ⟨h.symm, k⟩))
    · exact .inr (.inr (.inl h))
theorem less_not {a b : List Nat} (h : lessN a b = true) : lessN b a = false := by
  cases e : lessN b a with
  | false => rfl
  | true => have := less_trans h e; rw [less_self] at this; cases this
theorem not_less {a b : List Nat} (h : lessN a b = false) : a = b ∨ lessN b a = true := by
  rcases less_or a b with k | k | k
  · rw [k] at h; cases h
  · exact .inl k
  · exact .inr k
/-- One more, into a row that is in order. -/
def insN : List (List Nat) → List Nat → List (List Nat)
  | [], n => [n]
  | a :: t, n => if lessN n a then n :: a :: t else a :: insN t n
def sortN (l : List (List Nat)) : List (List Nat) := l.foldl insN []
theorem sort_snoc (l : List (List Nat)) (n : List Nat) : sortN (l ++ [n]) = insN (sortN l) n := by simp [sortN]
theorem ins_len (l : List (List Nat)) (n : List Nat) : (insN l n).length = l.length + 1 := by
  induction l with
  | nil => rfl
  | cons a t ih => rw [insN]; split <;> simp [ih]
theorem sort_len (l : List (List Nat)) : (sortN l).length = l.length := by
  have gen : ∀ (l o : List (List Nat)), (l.foldl insN o).length = o.length + l.length := by
    intro l
    induction l with
    | nil => intro o; rfl
    | cons a t ih => intro o; rw [List.foldl_cons, ih, ins_len, List.length_cons]; omega
  have := gen l []
  rwa [List.length_nil, Nat.zero_add] at this
theorem ins_mem {l : List (List Nat)} {n x : List Nat} : x ∈ insN l n ↔ x = n ∨ x ∈ l := by
  induction l with
  | nil => simp [insN]
  | cons a t ih =>
    rw [insN]
    split
    · simp
    · simp only [List.mem_cons, ih]
      constructor
      · rintro (h | h | h)
        · exact .inr (.inl h)
        · exact .inl h
        · exact .inr (.inr h)
      · rintro (h | h | h)
        · exact .inr (.inl h)
        · exact .inl h
        · exact .inr (.inr h)
theorem sort_mem {l : List (List Nat)} {x : List Nat} : x ∈ sortN l ↔ x ∈ l := by
  have gen : ∀ (l o : List (List Nat)), x ∈ l.foldl insN o ↔ x ∈ o ∨ x ∈ l := by
    intro l
    induction l with
    | nil => intro o; simp
    | cons a t ih =>
      intro o
      rw [List.foldl_cons, ih, ins_mem, List.mem_cons]
      constructor
      · rintro ((h | h) | h)
        · exact .inr (.inl h)
        · exact .inl h
        · exact .inr (.inr h)
      · rintro (h | h | h)
        · exact .inl (.inr h)
        · exact .inl (.inl h)
        · exact .inr h
  rw [sortN, gen]; simp
/-- In order: none is ahead of an earlier one. -/
def InOrder (l : List (List Nat)) : Prop := l.Pairwise fun a b => lessN b a = false
theorem ins_order {l : List (List Nat)} (h : InOrder l) (n : List Nat) : InOrder (insN l n) := by
  induction l with
  | nil => exact List.pairwise_singleton _ _
  | cons a t ih =>
    obtain ⟨h1, h2⟩ := List.pairwise_cons.1 h
    rw [insN]
    split
    · rename_i hn
      refine List.pairwise_cons.2 ⟨fun x hx => ?_, h⟩
      rcases List.mem_cons.1 hx with rfl | hx
      · exact less_not hn
      · rcases not_less (h1 x hx) with e | e
        · rw [e]; exact less_not hn
        · exact less_not (less_trans hn e)
    · rename_i hn
      have hn' : lessN n a = false := by simpa using hn
      refine List.pairwise_cons.2 ⟨fun x hx => ?_, ih h2⟩
      rcases ins_mem.1 hx with rfl | hx
      · exact hn'
      · exact h1 x hx
theorem sort_order (l : List (List Nat)) : InOrder (sortN l) := by
  have gen : ∀ (l o : List (List Nat)), InOrder o → InOrder (l.foldl insN o) := by
    intro l
    induction l with
    | nil => intro o h; exact h
    | cons a t ih => intro o h; rw [List.foldl_cons]; exact ih _ (ins_order h a)
  exact gen l [] List.Pairwise.nil
/-- Where one more goes: behind all that it is not ahead of. -/
theorem ins_at {x y : List (List Nat)} {n : List Nat} (hx : ∀ a ∈ x, lessN n a = false) (hy : ∀ a, y.head? = some a → lessN n a = true) : insN (x ++ y) n = x ++ n :: y := by
  induction x with
  | nil =>
    cases y with
    | nil => rfl
    | cons a t => rw [List.nil_append, insN, if_pos (hy a rfl)]; rfl
  | cons a x ih =>
    rw [List.cons_append, insN, if_neg (by rw [hx a (by simp)]; simp), ih fun b hb => hx b (by simp [hb])]
    rfl
/-- Rows in order with the same names, each once, are the same. -/
theorem order_same : ∀ {l m : List (List Nat)}, l.Pairwise (fun a b => lessN a b = true) → m.Pairwise (fun a b => lessN a b = true) → (∀ x, x ∈ l ↔ x ∈ m) → l = m
  | [], [], _, _, _ => rfl
  | [], b :: m, _, _, h => by have := (h b).2 (by simp); cases this
  | a :: l, [], _, _, h => by have := (h a).1 (by simp); cases this
  | a :: l, b :: m, h1, h2, h => by
    obtain ⟨a1, a2⟩ := List.pairwise_cons.1 h1
    obtain ⟨b1, b2⟩ := List.pairwise_cons.1 h2
    have e : a = b := by
      rcases List.mem_cons.1 ((h a).1 (by simp)) with e | e
      · exact e
      · rcases List.mem_cons.1 ((h b).2 (by simp)) with e' | e'
        · exact e'.symm
        · have := less_trans (a1 b e') (b1 a e); rw [less_self] at this; cases this
    subst e
    congr 1
    refine order_same a2 b2 fun x => ?_
    have hx := h x
    simp only [List.mem_cons] at hx
    constructor
    · intro k
      rcases hx.1 (.inr k) with e | e
      · subst e; have := a1 x k; rw [less_self] at this; cases this
      · exact e
    · intro k
      rcases hx.2 (.inr k) with e | e
      · subst e; have := b1 x k; rw [less_self] at this; cases this
      · exact e
theorem sort_strict {l : List (List Nat)} (h : l.Nodup) : (sortN l).Pairwise fun a b => lessN a b = true := by
  have gen : ∀ (l o : List (List Nat)), o.Pairwise (fun a b => lessN a b = true) → (∀ x ∈ l, x ∉ o) → l.Nodup → (l.foldl insN o).Pairwise fun a b => lessN a b = true := by
    have ins : ∀ (o : List (List Nat)) (n : List Nat), o.Pairwise (fun a b => lessN a b = true) → n ∉ o → (insN o n).Pairwise fun a b => lessN a b = true := by
      intro o n
      induction o with
      | nil => intro _ _; exact List.pairwise_singleton _ _
      | cons a t ih =>
        intro h hn
        obtain ⟨h1, h2⟩ := List.pairwise_cons.1 h
        rw [insN]
        split
        · rename_i hl
          refine List.pairwise_cons.2 ⟨fun x hx => ?_, h⟩
          rcases List.mem_cons.1 hx with rfl | hx
          · exact hl
          · exact less_trans hl (h1 x hx)
        · rename_i hl
          have hl' : lessN n a = false := by simpa using hl
          refine List.pairwise_cons.2 ⟨fun x hx => ?_, ih h2 fun k => hn (by simp [k])⟩
          rcases ins_mem.1 hx with rfl | hx
          · rcases not_less hl' with e | e
            · exact absurd (by rw [e]; simp) hn
            · exact e
          · exact h1 x hx
    intro l
    induction l with
    | nil => intro o h _ _; exact h
    | cons a t ih =>
      intro o h hd hn
      obtain ⟨n1, n2⟩ := List.nodup_cons.1 hn
      rw [List.foldl_cons]
      refine ih _ (ins o a h (hd a (by simp))) (fun x hx hi => ?_) n2
      rcases ins_mem.1 hi with rfl | hi
      · exact n1 hx
      · exact hd x (by simp [hx]) hi
  exact gen l [] List.Pairwise.nil (by simp) h

/-! ### Variables -/
abbrev Vrs := List (List Nat × List Nat)
def getV : Vrs → List Nat → Option (List Nat)
  | [], _ => none
  | (a, v) :: t, n => if a = n then some v else getV t n
def putV : Vrs → List Nat → List Nat → Vrs
  | [], n, v => [(n, v)]
  | (a, x) :: t, n, v => if a = n then (n, v) :: t else (a, x) :: putV t n v
/-- May a name be? -/
def rightN (n : List Nat) : Bool := decide (1 ≤ n.length ∧ n.length ≤ 64) && n.all nameB
def setV (l : Vrs) (n v : List Nat) : Nat × Vrs :=
  if rightN n = false then (2, l) else if 16777216 < v.length then (6, l) else if getV l n = none ∧ 256 ≤ l.length then (10, l) else (0, putV l n v)
def namesV (l : Vrs) : List (List Nat) := sortN (l.map (·.1))
theorem get_put (l : Vrs) (n v m : List Nat) : getV (putV l n v) m = if n = m then some v else getV l m := by
  induction l with
  | nil => simp [putV, getV]
  | cons p t ih =>
    obtain ⟨a, x⟩ := p
    rw [putV]
    by_cases h : a = n
    · subst h
      rw [if_pos rfl, getV, getV]
      by_cases h2 : a = m
      · rw [if_pos h2, if_pos h2]
      · rw [if_neg h2, if_neg h2, if_neg h2]
    · rw [if_neg h, getV, getV, ih]
      by_cases h2 : a = m
      · subst h2; rw [if_pos rfl, if_pos rfl, if_neg fun e => h e.symm]
      · rw [if_neg h2, if_neg h2]
theorem get_none {l : Vrs} {n : List Nat} : getV l n = none ↔ n ∉ l.map (·.1) := by
  induction l with
  | nil => simp [getV]
  | cons p t ih =>
    obtain ⟨a, x⟩ := p
    rw [getV, List.map_cons, List.mem_cons]
    by_cases h : a = n
    · rw [if_pos h]; simp [h]
    · rw [if_neg h, ih]
      constructor
      · rintro h1 (e | e)
        · exact h e.symm
        · exact h1 e
      · exact fun h1 e => h1 (.inr e)
theorem put_names (l : Vrs) (n v : List Nat) : (putV l n v).map (·.1) = if getV l n = none then l.map (·.1) ++ [n] else l.map (·.1) := by
  induction l with
  | nil => rfl
  | cons p t ih =>
    obtain ⟨a, x⟩ := p
    rw [putV, getV]
    by_cases h : a = n
    · subst h; rw [if_pos rfl, if_pos rfl, if_neg (by simp)]; rfl
    · rw [if_neg h, if_neg h, List.map_cons, ih, List.map_cons]
      split <;> rfl
theorem put_nodup {l : Vrs} (h : (l.map (·.1)).Nodup) (n v : List Nat) : ((putV l n v).map (·.1)).Nodup := by
  rw [put_names]
  split
  · rename_i hn
    rw [get_none] at hn
    exact List.nodup_append.2 ⟨h, by simp, fun a ha b hb => by rw [List.mem_singleton.1 hb]; rintro rfl; exact hn ha⟩
  · exact h
theorem set_nodup {l : Vrs} (h : (l.map (·.1)).Nodup) (n v : List Nat) : ((setV l n v).2.map (·.1)).Nodup := by
  unfold setV
  split
  · exact h
  · split
    · exact h
    · split
      · exact h
      · exact put_nodup h n v
theorem put_len (l : Vrs) (n v : List Nat) : (putV l n v).length = if getV l n = none then l.length + 1 else l.length := by
  have h := congrArg List.length (put_names l n v)
  rw [List.length_map] at h
  rw [h]
  split <;> simp
theorem set_len {l : Vrs} (h : l.length ≤ 256) (n v : List Nat) : (setV l n v).2.length ≤ 256 := by
  unfold setV
  split
  · exact h
  · split
    · exact h
    · split
      · exact h
      · rename_i hm
        rw [put_len]
        split
        · rename_i hn; simp only [hn, true_and] at hm; show l.length + 1 ≤ 256; omega
        · exact h
theorem set_get (l : Vrs) (n v m : List Nat) : getV (setV l n v).2 m = if (setV l n v).1 = 0 ∧ n = m then some v else getV l m := by
  unfold setV
  split
  · rw [if_neg (by simp)]
  · split
    · rw [if_neg (by simp)]
    · split
      · rw [if_neg (by simp)]
      · rw [get_put]; simp
/-- What holds of each name, and each value. -/
theorem put_mem {l : Vrs} {n v : List Nat} {p : List Nat × List Nat} (h : p ∈ putV l n v) : p = (n, v) ∨ p ∈ l := by
  induction l with
  | nil => exact .inl (by simpa [putV] using h)
  | cons q t ih =>
    obtain ⟨a, x⟩ := q
    rw [putV] at h
    split at h
    · rcases List.mem_cons.1 h with h | h
      · exact .inl h
      · exact .inr (by simp [h])
    · rcases List.mem_cons.1 h with h | h
      · exact .inr (by simp [h])
      · rcases ih h with h | h
        · exact .inl h
        · exact .inr (by simp [h])
theorem set_mem {l : Vrs} {n v : List Nat} {p : List Nat × List Nat} (h : p ∈ (setV l n v).2) : (p = (n, v) ∧ rightN n = true) ∨ p ∈ l := by
  unfold setV at h
  split at h
  · exact .inr h
  · rename_i hr
    split at h
    · exact .inr h
    · split at h
      · exact .inr h
      · rcases put_mem h with h | h
        · exact .inl ⟨h, by simpa using hr⟩
        · exact .inr h
theorem get_mem {l : Vrs} {n v : List Nat} (h : getV l n = some v) : (n, v) ∈ l := by
  induction l with
  | nil => cases h
  | cons q t ih =>
    obtain ⟨a, x⟩ := q
    rw [getV] at h
    split at h
    · rename_i e; injection h with h; subst e h; simp
    · exact List.mem_cons_of_mem _ (ih h)
theorem right_bytes {n : List Nat} (h : rightN n = true) : ∀ c ∈ n, c < 256 := by
  intro c hc
  unfold rightN at h
  simp only [Bool.and_eq_true, List.all_eq_true] at h
  have := h.2 c hc
  unfold nameB at this
  simp only [decide_eq_true_eq] at this
  omega

/-! ### Words -/
def partV (l : Vrs) (p : Prt) : Option (List Nat) := if p.var then getV l p.s else some p.s
def catV (l : Vrs) : List Prt → Option (List Nat)
  | [] => some []
  | p :: ps => (partV l p).bind fun t => (catV l ps).map (t ++ ·)
def wordV (l : Vrs) (ps : List Prt) : Nat × List Nat := match catV l ps with | none => (8, []) | some s => if 16777216 < s.length then (6, []) else (0, s)
theorem cat_append (l : Vrs) (ps qs : List Prt) : catV l (ps ++ qs) = (catV l ps).bind fun s => (catV l qs).map (s ++ ·) := by
  induction ps with
  | nil => rw [List.nil_append, catV]; cases catV l qs <;> rfl
  | cons p ps ih =>
    rw [List.cons_append, catV, catV, ih]
    cases partV l p with
    | none => rfl
    | some t =>
      simp only [Option.bind_some]
      cases catV l ps with
      | none => rfl
      | some s =>
        simp only [Option.bind_some, Option.map_some]
        cases catV l qs with
        | none => rfl
        | some u => simp [List.append_assoc]
theorem cat_snoc (l : Vrs) (ps : List Prt) (p : Prt) : catV l (ps ++ [p]) = (catV l ps).bind fun s => (partV l p).map (s ++ ·) := by
  rw [cat_append]
  congr 1
  funext s
  rw [catV]
  cases partV l p with
  | none => rfl
  | some t => simp [catV]

/-! ### Numbers -/
def digitB (c : Nat) : Bool := decide (48 ≤ c ∧ c ≤ 57)
def valD (l : List Nat) : Nat := l.foldl (fun n c => 10 * n + (c - 48)) 0
theorem val_snoc (l : List Nat) (c : Nat) : valD (l ++ [c]) = 10 * valD l + (c - 48) := by simp [valD]
theorem val_bound {l : List Nat} (h : ∀ c ∈ l, digitB c = true) : valD l < 10 ^ l.length := by
  have gen : ∀ (l : List Nat) (n k : Nat), n < 10 ^ k → (∀ c ∈ l, digitB c = true) → l.foldl (fun n c => 10 * n + (c - 48)) n < 10 ^ (k + l.length) := by
    intro l
    induction l with
    | nil => intro n k h _; exact h
    | cons c t ih =>
      intro n k h hd
      rw [List.foldl_cons, List.length_cons, show k + (t.length + 1) = (k + 1) + t.length by omega]
      refine ih _ _ ?_ fun x hx => hd x (by simp [hx])
      have hc := hd c (by simp)
      unfold digitB at hc
      rw [decide_eq_true_eq] at hc
      rw [Nat.pow_succ]
      omega
  have := gen l 0 0 (by simp) h
  rwa [Nat.zero_add] at this
/-- The number that a text is, in bounds; or the error. -/
def numS (s : List Nat) (lo hi : Int) : Nat × Int :=
  let neg := s.head? = some 45
  let d := if neg then s.drop 1 else s
  if s ≠ [48] ∧ (d.length < 1 ∨ 9 < d.length ∨ d.head? = some 48) ∨ d.all digitB = false then (4, 0)
  else
    let n : Int := if neg then -(valD d : Int) else (valD d : Int)
    if n < lo ∨ hi < n then (3, 0) else (0, n)
/-- A number's digits. -/
def dgs (k : Nat) : List Nat := if h : k < 10 then [48 + k] else dgs (k / 10) ++ [48 + k % 10]
termination_by k
decreasing_by omega
theorem dgs_ne (k : Nat) : dgs k ≠ [] := by rw [dgs]; split <;> simp
theorem dgs_small {k : Nat} (h : k < 10) : dgs k = [48 + k] := by rw [dgs, dif_pos h]
theorem dgs_step {k : Nat} (h : 10 ≤ k) : dgs k = dgs (k / 10) ++ [48 + k % 10] := by rw [dgs, dif_neg (by omega)]
theorem dgs_val (k : Nat) : valD (dgs k) = k := by
  induction k using Nat.strongRecOn with
  | ind k ih =>
    rcases Nat.lt_or_ge k 10 with h | h
    · rw [dgs_small h]; simp [valD]
    · rw [dgs_step h, val_snoc, ih _ (by omega)]; omega
theorem dgs_digit (k : Nat) : ∀ c ∈ dgs k, digitB c = true := by
  induction k using Nat.strongRecOn with
  | ind k ih =>
    intro c hc
    rcases Nat.lt_or_ge k 10 with h | h
    · rw [dgs_small h, List.mem_singleton] at hc; subst hc; simp [digitB]; omega
    · rw [dgs_step h, List.mem_append] at hc
      rcases hc with hc | hc
      · exact ih _ (by omega) c hc
      · rw [List.mem_singleton] at hc; subst hc; simp [digitB]; omega
theorem dgs_len {m : Nat} : ∀ {k : Nat}, 0 < m → k < 10 ^ m → (dgs k).length ≤ m := by
  induction m with
  | zero => intro k h; omega
  | succ m ih =>
    intro k _ hk
    rcases Nat.lt_or_ge k 10 with h | h
    · rw [dgs_small h]; simp
    · rw [dgs_step h, List.length_append, List.length_singleton]
      have hm : 0 < m := by
        rcases Nat.eq_zero_or_pos m with e | e
        · subst e; simp at hk; omega
        · exact e
      have := ih (k := k / 10) hm (by rw [Nat.pow_succ] at hk; omega)
      omega
theorem dgs_head {k : Nat} (hk : 0 < k) : (dgs k).head? ≠ some 48 := by
  induction k using Nat.strongRecOn with
  | ind k ih =>
    rcases Nat.lt_or_ge k 10 with h | h
    · rw [dgs_small h]; simp; omega
    · rw [dgs_step h]
      have h2 := ih (k / 10) (by omega) (by omega)
      cases e : dgs (k / 10) with
      | nil => exact absurd e (dgs_ne _)
      | cons a t => rw [e] at h2; simpa using h2
/-- A number of at most nine digits, with its sign. -/
def signed (z : Int) : List Nat := (if z < 0 then [45] else []) ++ dgs z.natAbs
theorem digit_head {k : Nat} {z : Nat} : (dgs k).head? = some z → z ≠ 45 := by
  intro h
  have hm : z ∈ dgs k := List.mem_of_mem_head? h
  have := dgs_digit k z hm
  unfold digitB at this
  rw [decide_eq_true_eq] at this
  omega
theorem num_signed {z lo hi : Int} (h1 : -1000000000 < z) (h2 : z < 1000000000) : numS (signed z) lo hi = if z < lo ∨ hi < z then (3, 0) else (0, z) := by
  have hl : (dgs z.natAbs).length ≤ 9 := dgs_len (by omega) (by omega)
  have hp : 1 ≤ (dgs z.natAbs).length := by cases e : dgs z.natAbs with
    | nil => exact absurd e (dgs_ne _)
    | cons a t => simp
  have hd : (dgs z.natAbs).all digitB = true := List.all_eq_true.2 (dgs_digit _)
  rcases (show z < 0 ∨ 0 ≤ z by omega) with hz | hz
  · have hs : signed z = 45 :: dgs z.natAbs := by rw [signed, if_pos hz]; rfl
    have hh : (dgs z.natAbs).head? ≠ some 48 := dgs_head (by omega)
    have e : -((z.natAbs : Nat) : Int) = z := by omega
    rw [hs, numS]
    simp only [List.head?_cons, if_true, List.drop_succ_cons, List.drop_zero, hd]
    rw [if_neg, dgs_val, e]
    rintro (⟨_, k2 | k2 | k2⟩ | k)
    · omega
    · omega
    · exact hh k2
    · cases k
  · have hs : signed z = dgs z.natAbs := by rw [signed, if_neg (by omega)]; rfl
    have hn : ¬ (dgs z.natAbs).head? = some 45 := fun e => digit_head e rfl
    have e : ((z.natAbs : Nat) : Int) = z := by omega
    rw [hs, numS]
    simp only [hn, if_false, hd]
    rw [if_neg, dgs_val, e]
    rintro (⟨k1, k2⟩ | k)
    · rcases Nat.eq_zero_or_pos z.natAbs with h0 | h0
      · rw [h0, dgs_small (by omega)] at k1; exact k1 rfl
      · have := dgs_head h0
        rcases k2 with k2 | k2 | k2
        · omega
        · omega
        · exact this k2
    · cases k
theorem num_zero {z lo hi : Int} : numS ((if z < 0 then [45] else []) ++ [48] ++ dgs z.natAbs) lo hi = (4, 0) := by
  have hp : 1 ≤ (dgs z.natAbs).length := by cases e : dgs z.natAbs with
    | nil => exact absurd e (dgs_ne _)
    | cons a t => simp
  have hne : ∀ t : List Nat, t ++ dgs z.natAbs ≠ [48] ∨ t = [] := fun t => by
    cases t with
    | nil => exact .inr rfl
    | cons a t => refine .inl fun e => ?_; have := congrArg List.length e; simp at this; have := dgs_ne z.natAbs; simp_all
  rcases (show z < 0 ∨ 0 ≤ z by omega) with hz | hz
  · rw [if_pos hz, numS]
    simp
  · rw [if_neg (by omega), numS]
    simp only [List.nil_append]
    rw [if_pos]
    refine .inl ⟨?_, .inr (.inr (by simp))⟩
    rcases hne [48] with h | h
    · exact h
    · cases h
end Go.Proofs.Yteapcahpkapbbaa
