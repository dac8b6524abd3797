/-
  Plain mathematics of layer 2: a number's bytes to the base 128 (enc), the number that bytes tell (val), which bytes are a number's (wf), and the document's Get (getv).
  Conditions: none. No program is named here.
-/
namespace Go.Proofs.Ytbaibabnfbjdeaa.Var

def enc (x : Nat) : List Nat := if x < 128 then [x] else (128 + x % 128) :: enc (x / 128)
termination_by x
decreasing_by omega

def val : List Nat → Nat
  | [] => 0
  | c :: r => c % 128 + 128 * val r

/-- Bytes that are a number's. -/
def wf : List Nat → Prop
  | [] => False
  | [c] => c < 128
  | c :: d :: r => 128 ≤ c ∧ c < 256 ∧ wf (d :: r) ∧ (d :: r) ≠ [0]

theorem enc_small {x : Nat} (h : x < 128) : enc x = [x] := by rw [enc, if_pos h]
theorem enc_big {x : Nat} (h : 128 ≤ x) : enc x = (128 + x % 128) :: enc (x / 128) := by rw [enc, if_neg (by omega)]

theorem enc_ne (x : Nat) : enc x ≠ [] := by rw [enc]; split <;> simp
theorem enc_pos (x : Nat) : 0 < (enc x).length := List.length_pos_iff.2 (enc_ne x)

theorem enc_zero {x : Nat} (h : enc x = [0]) : x = 0 := by
  rw [enc] at h
  split at h
  · simpa using h
  · simp at h

theorem val_enc (x : Nat) : val (enc x) = x := by
  induction x using Nat.strongRecOn with
  | ind x ih =>
    rcases Nat.lt_or_ge x 128 with h | h
    · rw [enc_small h]; simp [val]; omega
    · rw [enc_big h, val, ih (x / 128) (by omega)]; omega

theorem wf_enc (x : Nat) : wf (enc x) := by
  induction x using Nat.strongRecOn with
  | ind x ih =>
    rcases Nat.lt_or_ge x 128 with h | h
    · rw [enc_small h]; exact h
    · rw [enc_big h]
      have h1 := ih (x / 128) (by omega)
      have h2 : enc (x / 128) ≠ [0] := fun e => by have := enc_zero e; omega
      cases he : enc (x / 128) with
      | nil => exact absurd he (enc_ne _)
      | cons d r =>
        rw [he] at h1 h2
        exact ⟨by omega, by omega, h1, h2⟩

theorem val_pos : ∀ {l : List Nat}, wf l → l ≠ [0] → 0 < val l
  | [c], h, h2 => by
    have : c ≠ 0 := fun e => h2 (by rw [e])
    have hc : c < 128 := h
    simp only [val]; omega
  | c :: d :: r, ⟨_, _, h3, h4⟩, _ => by
    have := val_pos h3 h4
    simp only [val] at this ⊢; omega

theorem enc_val : ∀ {l : List Nat}, wf l → enc (val l) = l
  | [c], h => by
    have hc : c < 128 := h
    have : val [c] = c := by simp only [val]; omega
    rw [this, enc_small hc]
  | c :: d :: r, ⟨h1, h2, h3, h4⟩ => by
    have hp := val_pos h3 h4
    have ih := enc_val h3
    have e : val (c :: d :: r) = c % 128 + 128 * val (d :: r) := rfl
    rw [e, enc_big (by omega), show (c % 128 + 128 * val (d :: r)) / 128 = val (d :: r) by omega, ih, show 128 + (c % 128 + 128 * val (d :: r)) % 128 = c by omega]

theorem enc_lt (x : Nat) : ∀ c ∈ enc x, c < 256 := by
  induction x using Nat.strongRecOn with
  | ind x ih =>
    intro c hc
    rcases Nat.lt_or_ge x 128 with h | h
    · rw [enc_small h] at hc; simp at hc; omega
    · rw [enc_big h] at hc
      rcases List.mem_cons.1 hc with rfl | hc
      · omega
      · exact ih (x / 128) (by omega) c hc

/-- As many bytes as are needed. -/
theorem enc_len {x : Nat} (n : Nat) (h1 : x < 128 ^ (n + 1)) (h2 : n = 0 ∨ 128 ^ n ≤ x) : (enc x).length = n + 1 := by
  induction n generalizing x with
  | zero => rw [enc_small (by simpa using h1)]; rfl
  | succ n ih =>
    have hp : 128 ^ (n + 1) ≤ x := by rcases h2 with h2 | h2; · omega
                                      · exact h2
    have hp' : 128 ^ n * 128 ≤ x := by rw [← Nat.pow_succ]; exact hp
    have h0 : 0 < 128 ^ n := Nat.pow_pos (by omega)
    rw [enc_big (by omega), List.length_cons, ih]
    · rw [Nat.div_lt_iff_lt_mul (by omega), ← Nat.pow_succ]; exact h1
    · right
      rw [Nat.le_div_iff_mul_le (by omega)]; exact hp'

theorem enc_at {x : Nat} (n : Nat) (h1 : x < 128 ^ (n + 1)) (h2 : n = 0 ∨ 128 ^ n ≤ x) (i : Nat) (hi : i ≤ n) :
    (enc x)[i]? = some (if i = n then x / 128 ^ n else 128 + x / 128 ^ i % 128) := by
  induction n generalizing x i with
  | zero => obtain rfl : i = 0 := by omega
            rw [enc_small (by simpa using h1)]; simp
  | succ n ih =>
    have hp : 128 ^ (n + 1) ≤ x := by rcases h2 with h2 | h2; · omega
                                      · exact h2
    have hp' : 128 ^ n * 128 ≤ x := by rw [← Nat.pow_succ]; exact hp
    have h0 : 0 < 128 ^ n := Nat.pow_pos (by omega)
    rw [enc_big (by omega)]
    cases i with
    | zero => simp
    | succ i =>
      rw [List.getElem?_cons_succ, ih (x := x / 128) _ _ i (by omega)]
      · simp only [Nat.add_right_cancel_iff, Nat.div_div_eq_div_mul, Nat.pow_succ, Nat.mul_comm 128]
      · rw [Nat.div_lt_iff_lt_mul (by omega), ← Nat.pow_succ]; exact h1
      · right
        rw [Nat.le_div_iff_mul_le (by omega)]; exact hp'

theorem enc_len_le {x : Nat} (n : Nat) (h : x < 128 ^ (n + 1)) : (enc x).length ≤ n + 1 := by
  induction n generalizing x with
  | zero => rw [enc_small (by simpa using h)]; simp
  | succ n ih =>
    rcases Nat.lt_or_ge x 128 with h' | h'
    · rw [enc_small h']; simp
    · rw [enc_big h', List.length_cons]
      have := ih (x := x / 128) (by rw [Nat.div_lt_iff_lt_mul (by omega), ← Nat.pow_succ]; exact h)
      omega
theorem enc_len10 {x : Nat} (h : x < 18446744073709551616) : (enc x).length ≤ 10 :=
  enc_len_le 9 (Nat.lt_of_lt_of_le h (by decide))

theorem enc_mono (y : Nat) : ∀ x, x ≤ y → (enc x).length ≤ (enc y).length := by
  induction y using Nat.strongRecOn with
  | ind y ih =>
    intro x hx
    rcases Nat.lt_or_ge y 128 with h | h
    · rw [enc_small h, enc_small (by omega)]; simp
    · rw [enc_big h, List.length_cons]
      rcases Nat.lt_or_ge x 128 with h' | h'
      · rw [enc_small h']; simp
      · rw [enc_big h', List.length_cons]
        have := ih (y / 128) (by omega) (x / 128) (by omega)
        omega

/-! ### What Get tells -/

/-- How many bytes of 128 or more stand ahead. -/
def lead : List Nat → Nat
  | [] => 0
  | c :: r => if 128 ≤ c then lead r + 1 else 0

theorem lead_le : ∀ l : List Nat, lead l ≤ l.length
  | [] => Nat.le_refl _
  | c :: r => by have := lead_le r; simp only [lead, List.length_cons]; split <;> omega

theorem lead_big : ∀ {l : List Nat} {i c : Nat}, i < lead l → l[i]? = some c → 128 ≤ c
  | c :: r, i, d, h, e => by
    simp only [lead] at h
    split at h
    · cases i with
      | zero => simp at e; omega
      | succ i => exact lead_big (l := r) (i := i) (by omega) (by simpa using e)
    · omega

theorem lead_end : ∀ {l : List Nat} {c : Nat}, l[lead l]? = some c → c < 128
  | c :: r, d, e => by
    simp only [lead] at e
    split at e
    · exact lead_end (l := r) (by simpa using e)
    · simp at e; omega

theorem lead_of : ∀ {l : List Nat} {k : Nat}, k ≤ l.length → (∀ i c, i < k → l[i]? = some c → 128 ≤ c) → (∀ c, l[k]? = some c → c < 128) → lead l = k
  | [], k, h, _, _ => by simp at h; simp [lead, h]
  | c :: r, 0, _, _, h3 => by
    have := h3 c (by simp)
    simp only [lead]; rw [if_neg (by omega)]
  | c :: r, k + 1, h1, h2, h3 => by
    have hc := h2 0 c (by omega) (by simp)
    have ih := lead_of (l := r) (k := k) (by simpa using h1) (fun i d hi e => h2 (i + 1) d (by omega) (by simpa using e)) (fun d e => h3 d (by simpa using e))
    simp only [lead]; rw [if_pos hc, ih]

/-- The document's Get from the place on at which l begins: the number, how many bytes, the error. -/
def getv (l : List Nat) : Nat × Nat × Nat :=
  if 10 ≤ lead l then (0, 0, 4)
  else if lead l = l.length then (0, 0, 5)
  else if val (l.take (lead l + 1)) < 18446744073709551616 ∧ (lead l = 0 ∨ l[lead l]? ≠ some 0) then (val (l.take (lead l + 1)), lead l + 1, 0)
  else (0, 0, 4)

theorem val_take {l : List Nat} : ∀ {k c : Nat}, l[k]? = some c → val (l.take (k + 1)) = val (l.take k) + c % 128 * 128 ^ k := by
  induction l with
  | nil => intro k c e; simp at e
  | cons d r ih =>
    intro k c e
    cases k with
    | zero => simp at e; subst e; simp [val]
    | succ k =>
      have := ih (k := k) (c := c) (by simpa using e)
      rw [List.take_succ_cons, List.take_succ_cons, val, val, this, Nat.mul_add, Nat.pow_succ, Nat.add_assoc]
      congr 2
      rw [Nat.mul_comm (128 ^ k) 128, Nat.mul_left_comm]

theorem val_lt : ∀ l : List Nat, val l < 128 ^ l.length
  | [] => by simp [val]
  | c :: r => by
    have := val_lt r
    rw [val, List.length_cons, Nat.pow_succ]
    omega

theorem val_take_lt (l : List Nat) (k : Nat) : val (l.take k) < 128 ^ k :=
  Nat.lt_of_lt_of_le (val_lt _) (Nat.pow_le_pow_right (by omega) (List.length_take_le _ _))

/-- Bytes up to the first one below 128 are a number's, unless that is a 0 too many. -/
theorem wf_take : ∀ {l : List Nat} {c : Nat}, (∀ b ∈ l, b < 256) → l[lead l]? = some c → (lead l = 0 ∨ c ≠ 0) → wf (l.take (lead l + 1))
  | d :: r, c, hb, e, h => by
    simp only [lead] at e h ⊢
    split at e
    · rename_i hd
      rw [if_pos hd] at h ⊢
      have e' : r[lead r]? = some c := by simpa using e
      have hc : c ≠ 0 := by rcases h with h | h; · omega
                            · exact h
      have ih := wf_take (l := r) (fun b hb' => hb b (List.mem_cons_of_mem _ hb')) e' (.inr hc)
      rw [List.take_succ_cons]
      cases hr : r with
      | nil => rw [hr] at e'; simp at e'
      | cons d' r' =>
        rw [hr] at ih e'
        rw [List.take_succ_cons] at ih ⊢
        refine ⟨hd, hb d (by simp), ih, fun e2 => ?_⟩
        have hd' : d' = 0 := by injection e2
        subst hd'
        have : lead (0 :: r') = 0 := by simp [lead]
        rw [this] at e'
        simp at e'
        omega
    · rename_i hd
      rw [if_neg hd]
      simp
      show d < 128
      omega

theorem wf_last : ∀ {l : List Nat}, wf l → 2 ≤ l.length → l[l.length - 1]? ≠ some 0
  | [c], _, h => by simp at h
  | [c, d], ⟨_, _, _, h4⟩, _ => by simp; intro e; exact h4 (by rw [e])
  | c :: d :: e :: r, ⟨_, _, h3, h4⟩, _ => by
    have := wf_last h3 (by simp)
    simpa using this

/-- The way in which the document's answer asks it. -/
theorem getv_own {l : List Nat} (hb : ∀ b ∈ l, b < 256) {c : Nat} (e : l[lead l]? = some c) :
    enc (val (l.take (lead l + 1)) % 18446744073709551616) = l.take (lead l + 1) ↔ (val (l.take (lead l + 1)) < 18446744073709551616 ∧ (lead l = 0 ∨ l[lead l]? ≠ some 0)) := by
  have hlt : lead l < l.length := (List.getElem?_eq_some_iff.1 e).1
  have hlen : (l.take (lead l + 1)).length = lead l + 1 := by simp; omega
  constructor
  · intro h
    have h1 := congrArg val h
    rw [val_enc] at h1
    have h2 := Nat.mod_lt (val (l.take (lead l + 1))) (show 18446744073709551616 > 0 by decide)
    refine ⟨by omega, ?_⟩
    rcases Nat.eq_zero_or_pos (lead l) with h0 | h0
    · exact .inl h0
    · right
      have hw := wf_enc (val (l.take (lead l + 1)) % 18446744073709551616)
      rw [h] at hw
      have := wf_last hw (by omega)
      rw [hlen, List.getElem?_take, if_pos (by omega)] at this
      simpa using this
  · rintro ⟨h1, h2⟩
    rw [Nat.mod_eq_of_lt h1]
    refine enc_val (wf_take hb e ?_)
    rcases h2 with h2 | h2
    · exact .inl h2
    · right; rintro rfl; exact h2 e

theorem lead_enc (x : Nat) (r : List Nat) : lead (enc x ++ r) + 1 = (enc x).length := by
  induction x using Nat.strongRecOn with
  | ind x ih =>
    rcases Nat.lt_or_ge x 128 with h | h
    · rw [enc_small h]; simp [lead]; omega
    · rw [enc_big h]
      have := ih (x / 128) (by omega)
      simp only [List.cons_append, lead, List.length_cons]
      rw [if_pos (by omega), this]

/-- What is put is got. -/
theorem getv_enc {x : Nat} (h : x < 18446744073709551616) (r : List Nat) : getv (enc x ++ r) = (x, (enc x).length, 0) := by
  have h1 := lead_enc x r
  have h2 := enc_len10 h
  have h3 : (enc x ++ r).take (lead (enc x ++ r) + 1) = enc x := by rw [h1]; simp
  unfold getv
  rw [h3, val_enc, h1, if_neg (by omega), if_neg (by simp; omega), if_pos]
  refine ⟨h, ?_⟩
  rcases Nat.eq_zero_or_pos (lead (enc x ++ r)) with h0 | h0
  · exact .inl h0
  · right
    have := wf_last (wf_enc x) (by omega)
    rw [List.getElem?_append_left (by omega), show lead (enc x ++ r) = (enc x).length - 1 by omega]
    exact this

/-- Cut short it is told so. -/
theorem getv_cut {x : Nat} (h : x < 18446744073709551616) {i : Nat} (hi : i < (enc x).length) : getv ((enc x).take i) = (0, 0, 5) := by
  have h2 := enc_len10 h
  have hl : ((enc x).take i).length = i := by simp; omega
  have h1 : lead ((enc x).take i) = i := by
    refine lead_of (by omega) (fun j c hj e => ?_) (fun c e => ?_)
    · rw [List.getElem?_take, if_pos hj] at e
      have h3 := lead_enc x []
      rw [List.append_nil] at h3
      exact lead_big (by omega) e
    · rw [List.getElem?_eq_none (by omega)] at e; cases e
  unfold getv
  rw [h1, if_neg (by omega), if_pos hl.symm]

theorem getv_nil : getv [] = (0, 0, 5) := by simp [getv, lead]

/-- Bytes that tell a number are just that number's. -/
theorem getv_one {l : List Nat} (hb : ∀ b ∈ l, b < 256) {y n : Nat} (h : getv l = (y, n, 0)) : 0 < n ∧ n ≤ l.length ∧ n ≤ 10 ∧ y < 18446744073709551616 ∧ enc y = l.take n := by
  unfold getv at h
  split at h
  · simp at h
  · split at h
    · simp at h
    · split at h
      · rename_i h1 h2 h3
        have hle := lead_le l
        obtain ⟨c, e⟩ : ∃ c, l[lead l]? = some c := ⟨_, List.getElem?_eq_getElem (by omega)⟩
        have := (getv_own hb e).2 h3
        rw [Nat.mod_eq_of_lt h3.1] at this
        injection h with ha hb'
        injection hb' with hb' _
        subst ha hb'
        exact ⟨by omega, by omega, by omega, h3.1, this⟩
      · simp at h

theorem getv_err {l : List Nat} {y n e : Nat} (h : getv l = (y, n, e)) (he : e ≠ 0) : y = 0 ∧ n = 0 := by
  unfold getv at h
  split at h
  · simp at h; omega
  · split at h
    · simp at h; omega
    · split at h
      · simp at h; omega
      · simp at h; omega

theorem getv_bounds (l : List Nat) : (getv l).1 < 18446744073709551616 ∧ (getv l).2.1 ≤ l.length ∧ (getv l).2.1 ≤ 10 ∧ (getv l).2.2 ≤ 5 := by
  have hle := lead_le l
  unfold getv
  split
  · simp
  · split
    · simp
    · split
      · rename_i h1 h2 h3
        exact ⟨h3.1, by simp; omega, by simp; omega, by simp⟩
      · simp

/-! ### The steps of the program's own Get -/

/-- All of the first k bytes are 128 or more. -/
def Go (l : List Nat) (k : Nat) : Prop := k ≤ l.length ∧ ∀ i c, i < k → l[i]? = some c → 128 ≤ c

theorem Go.zero (l : List Nat) : Go l 0 := ⟨Nat.zero_le _, by intro i c h; omega⟩
theorem Go.succ {l : List Nat} {k c : Nat} (h : Go l k) (e : l[k]? = some c) (hc : 128 ≤ c) : Go l (k + 1) := by
  have hlt : k < l.length := (List.getElem?_eq_some_iff.1 e).1
  refine ⟨by omega, fun i d hi hd => ?_⟩
  rcases Nat.lt_or_ge i k with h1 | h1
  · exact h.2 i d h1 hd
  · obtain rfl : i = k := by omega
    rw [e] at hd; injection hd with hd; omega
theorem Go.ten {l : List Nat} (h : Go l 10) : getv l = (0, 0, 4) := by
  have : 10 ≤ lead l := by
    rcases Nat.lt_or_ge (lead l) 10 with h1 | h1
    · obtain ⟨c, e⟩ : ∃ c, l[lead l]? = some c := ⟨_, List.getElem?_eq_getElem (by have := h.1; omega)⟩
      have h2 := h.2 _ _ h1 e
      have h3 := lead_end e
      omega
    · exact h1
  unfold getv; rw [if_pos this]
theorem Go.short {l : List Nat} {k : Nat} (h : Go l k) (hk : k < 10) (e : k = l.length) : getv l = (0, 0, 5) := by
  have : lead l = k := lead_of h.1 h.2 (fun c e' => by rw [List.getElem?_eq_none (by omega)] at e'; cases e')
  unfold getv; rw [this, if_neg (by omega), if_pos e]
theorem Go.stop {l : List Nat} {k c : Nat} (h : Go l k) (hk : k < 10) (e : l[k]? = some c) (hc : c < 128) :
    getv l = if (0 < k ∧ c = 0) ∨ (k = 9 ∧ 1 < c) then (0, 0, 4) else (val (l.take k) + c * 128 ^ k, k + 1, 0) := by
  have hlt : k < l.length := (List.getElem?_eq_some_iff.1 e).1
  have hl : lead l = k := lead_of h.1 h.2 (fun c' e' => by rw [e] at e'; injection e' with e'; omega)
  have hv := val_take e
  rw [Nat.mod_eq_of_lt hc] at hv
  have hvl := val_take_lt l k
  unfold getv
  rw [hl, if_neg (by omega), if_neg (by omega), hv, e]
  by_cases hbad : (0 < k ∧ c = 0) ∨ (k = 9 ∧ 1 < c)
  · rw [if_pos hbad, if_neg]
    rintro ⟨h1, h2⟩
    rcases hbad with ⟨h3, rfl⟩ | ⟨rfl, h3⟩
    · rcases h2 with h2 | h2
      · omega
      · exact h2 rfl
    · have : (128 : Nat) ^ 9 = 9223372036854775808 := by decide
      rw [this] at h1
      omega
  · rw [if_neg hbad, if_pos]
    refine ⟨?_, ?_⟩
    · rcases Nat.lt_or_ge k 9 with h9 | h9
      · have h2 : 128 ^ (k + 1) ≤ 128 ^ 9 := Nat.pow_le_pow_right (by omega) (by omega)
        have h3 : (128 : Nat) ^ 9 = 9223372036854775808 := by decide
        rw [h3, Nat.pow_succ] at h2
        have h4 : c * 128 ^ k ≤ 127 * 128 ^ k := Nat.mul_le_mul_right _ (by omega)
        omega
      · obtain rfl : k = 9 := by omega
        have h3 : (128 : Nat) ^ 9 = 9223372036854775808 := by decide
        rw [h3] at hvl ⊢
        have : c ≤ 1 := by omega
        have h4 : c * 9223372036854775808 ≤ 1 * 9223372036854775808 := Nat.mul_le_mul_right _ this
        omega
    · rcases Nat.eq_zero_or_pos k with h0 | h0
      · exact .inl h0
      · right; intro e2; injection e2 with e2; omega

/-- What the program's or makes, one byte further. -/
theorem val_step {l : List Nat} {k c : Nat} (e : l[k]? = some c) : val (l.take (k + 1)) = val (l.take k) ||| (c % 128 * 128 ^ k) := by
  have hvl := val_take_lt l k
  rw [val_take e, Nat.mul_comm (c % 128), show (128 : Nat) ^ k = 2 ^ (7 * k) by rw [Nat.pow_mul]] at *
  rw [Nat.or_comm, ← Nat.two_pow_add_eq_or_of_lt hvl, Nat.add_comm]
end Go.Proofs.Ytbaibabnfbjdeaa.Var
