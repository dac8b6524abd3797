/-
  Turns, over plain lists: byte by byte, event by event, and back.
  Conditions: none.
-/
import Derived.Test.YtchfiiiippnigaaEvMath
namespace Go.Proofs.Ytchfiiiippnigaa

structure Tn where
  out : List Nat
  inn : List Nat

/-- Bytes of a direction more. -/
def tput (acc : List Tn) (d : Int) (xs : List Nat) : List Tn :=
  if xs = [] ∨ (d ≠ 0 ∧ d ≠ 1) then acc
  else match acc.getLast? with
    | none => [if d = 0 then ⟨xs, []⟩ else ⟨[], xs⟩]
    | some t => if d = 0 then (if t.inn = [] then acc.dropLast ++ [⟨t.out ++ xs, []⟩] else acc ++ [⟨xs, []⟩]) else acc.dropLast ++ [⟨t.out, t.inn ++ xs⟩]
theorem tput_nil (acc : List Tn) (d : Int) : tput acc d [] = acc := by simp [tput]
theorem tput_far (acc : List Tn) {d : Int} (h0 : d ≠ 0) (h1 : d ≠ 1) (xs : List Nat) : tput acc d xs = acc := by simp [tput, h0, h1]
theorem tput_none0 {xs : List Nat} (h : xs ≠ []) : tput [] 0 xs = [⟨xs, []⟩] := by simp [tput, h]
theorem tput_none1 {xs : List Nat} (h : xs ≠ []) : tput [] 1 xs = [⟨[], xs⟩] := by simp [tput, h]
theorem tput_more (p : List Tn) {b : Tn} {xs : List Nat} (h : xs ≠ []) (hb : b.inn = []) : tput (p ++ [b]) 0 xs = p ++ [⟨b.out ++ xs, []⟩] := by simp [tput, h, hb]
theorem tput_new (p : List Tn) {b : Tn} {xs : List Nat} (h : xs ≠ []) (hb : b.inn ≠ []) : tput (p ++ [b]) 0 xs = p ++ [b] ++ [⟨xs, []⟩] := by simp [tput, h, hb]
theorem tput_in (p : List Tn) (b : Tn) {xs : List Nat} (h : xs ≠ []) : tput (p ++ [b]) 1 xs = p ++ [⟨b.out, b.inn ++ xs⟩] := by simp [tput, h]
theorem tput_two (acc : List Tn) (d : Int) (xs ys : List Nat) : tput (tput acc d xs) d ys = tput acc d (xs ++ ys) := by
  by_cases hx : xs = []
  · subst hx; rw [tput_nil]; rfl
  by_cases hy : ys = []
  · subst hy; rw [tput_nil, List.append_nil]
  have hxy : xs ++ ys ≠ [] := by simp [hx]
  by_cases h0 : d = 0
  · subst h0
    rcases snoc_cases acc with rfl | ⟨p, b, rfl⟩
    · rw [tput_none0 hx, tput_none0 hxy]
      exact tput_more [] hy rfl
    · by_cases hb : b.inn = []
      · rw [tput_more p hx hb, tput_more p hxy hb, tput_more p hy rfl, List.append_assoc]
      · rw [tput_new p hx hb, tput_new p hxy hb, tput_more (p ++ [b]) hy rfl]
  by_cases h1 : d = 1
  · subst h1
    rcases snoc_cases acc with rfl | ⟨p, b, rfl⟩
    · rw [tput_none1 hx, tput_none1 hxy]
      exact tput_in [] _ hy
    · rw [tput_in p b hx, tput_in p b hxy, tput_in p _ hy, List.append_assoc]
  · rw [tput_far _ h0 h1, tput_far _ h0 h1, tput_far _ h0 h1]
theorem tput_bytes (d : Int) : ∀ (xs : List Nat) (acc : List Tn), xs.foldl (fun acc x => tput acc d [x]) acc = tput acc d xs
  | [], acc => (tput_nil acc d).symm
  | x :: xs, acc => by
    show xs.foldl _ (tput acc d [x]) = _
    rw [tput_bytes d xs, tput_two]; rfl

/-- The turns of events. -/
def turnsF (acc : List Tn) (l : List PE) : List Tn := l.foldl (fun acc a => tput acc a.dir a.data) acc
def turns (l : List PE) : List Tn := turnsF [] l
theorem turnsF_append (acc : List Tn) (l m : List PE) : turnsF acc (l ++ m) = turnsF (turnsF acc l) m := by simp [turnsF]
theorem turns_append (l m : List PE) : turns (l ++ m) = turnsF (turns l) m := turnsF_append ..
theorem turns_snoc (l : List PE) (a : PE) : turns (l ++ [a]) = tput (turns l) a.dir a.data := by rw [turns_append]; rfl
theorem turnsF_one (acc : List Tn) (a : PE) : turnsF acc [a] = tput acc a.dir a.data := rfl

def outs (t : List Tn) : List Nat := t.flatMap Tn.out
def inns (t : List Tn) : List Nat := t.flatMap Tn.inn
theorem outs_append (t u : List Tn) : outs (t ++ u) = outs t ++ outs u := by simp [outs]
theorem inns_append (t u : List Tn) : inns (t ++ u) = inns t ++ inns u := by simp [inns]
theorem outs_one (b : Tn) : outs [b] = b.out := by simp [outs]
theorem inns_one (b : Tn) : inns [b] = b.inn := by simp [inns]
theorem tput_outs (acc : List Tn) (d : Int) (xs : List Nat) : outs (tput acc d xs) = outs acc ++ (if d = 0 then xs else []) := by
  by_cases hx : xs = []
  · subst hx; rw [tput_nil]; simp
  by_cases h0 : d = 0
  · subst h0
    rcases snoc_cases acc with rfl | ⟨p, b, rfl⟩
    · rw [tput_none0 hx]; simp [outs]
    · by_cases hb : b.inn = []
      · rw [tput_more p hx hb]; simp [outs]
      · rw [tput_new p hx hb]; simp [outs]
  by_cases h1 : d = 1
  · subst h1
    rcases snoc_cases acc with rfl | ⟨p, b, rfl⟩
    · rw [tput_none1 hx]; simp [outs]
    · rw [tput_in p b hx]; simp [outs]
  · rw [tput_far _ h0 h1]; simp [h0]
theorem tput_inns (acc : List Tn) (d : Int) (xs : List Nat) : inns (tput acc d xs) = inns acc ++ (if d = 1 then xs else []) := by
  by_cases hx : xs = []
  · subst hx; rw [tput_nil]; simp
  by_cases h0 : d = 0
  · subst h0
    rcases snoc_cases acc with rfl | ⟨p, b, rfl⟩
    · rw [tput_none0 hx]; simp [inns]
    · by_cases hb : b.inn = []
      · rw [tput_more p hx hb]; simp [inns, hb]
      · rw [tput_new p hx hb]; simp [inns]
  by_cases h1 : d = 1
  · subst h1
    rcases snoc_cases acc with rfl | ⟨p, b, rfl⟩
    · rw [tput_none1 hx]; simp [inns]
    · rw [tput_in p b hx]; simp [inns]
  · rw [tput_far _ h0 h1]; simp [h1]
theorem turns_outs (l : List PE) : outs (turns l) = byts 0 l := by
  rcases snoc_cases l with rfl | ⟨p, b, rfl⟩
  · rfl
  · rw [turns_snoc, tput_outs, turns_outs p, byts_append, byts_cons, byts_nil, List.append_nil]
termination_by l.length
decreasing_by subst_vars; simp
theorem turns_inns (l : List PE) : inns (turns l) = byts 1 l := by
  rcases snoc_cases l with rfl | ⟨p, b, rfl⟩
  · rfl
  · rw [turns_snoc, tput_inns, turns_inns p, byts_append, byts_cons, byts_nil, List.append_nil]
termination_by l.length
decreasing_by subst_vars; simp

/-- Each but the first has an Out, each but the last an In, none neither. -/
structure TSound (t : List Tn) : Prop where
  out : ∀ i b, t[i]? = some b → 0 < i → b.out ≠ []
  inn : ∀ i b, t[i]? = some b → i + 1 < t.length → b.inn ≠ []
  any : ∀ b ∈ t, b.out ≠ [] ∨ b.inn ≠ []
theorem TSound.nil : TSound [] := ⟨fun i b h => by simp at h, fun i b h => by simp at h, fun b h => by simp at h⟩
theorem at_snoc {α : Type} {p : List α} {b c : α} {i : Nat} (h : (p ++ [b])[i]? = some c) : (i < p.length ∧ p[i]? = some c) ∨ (i = p.length ∧ b = c) := by
  rcases Nat.lt_trichotomy i p.length with k | k | k
  · rw [List.getElem?_append_left k] at h; exact .inl ⟨k, h⟩
  · subst k; simp at h; exact .inr ⟨rfl, h⟩
  · rw [List.getElem?_eq_none (by simp; omega)] at h; cases h
theorem TSound.swap {p : List Tn} {b c : Tn} (h : TSound (p ++ [b])) (ho : b.out ≠ [] → c.out ≠ []) (ha : c.out ≠ [] ∨ c.inn ≠ []) : TSound (p ++ [c]) := by
  refine ⟨fun i x hx hi => ?_, fun i x hx hi => ?_, fun x hx => ?_⟩
  · rcases at_snoc hx with ⟨k, e⟩ | ⟨k, rfl⟩
    · exact h.out i x (by rw [List.getElem?_append_left k]; exact e) hi
    · exact ho (h.out i b (by subst k; simp) hi)
  · rcases at_snoc hx with ⟨k, e⟩ | ⟨k, rfl⟩
    · exact h.inn i x (by rw [List.getElem?_append_left k]; exact e) (by simp at hi ⊢; exact hi)
    · simp at hi; omega
  · rcases List.mem_append.1 hx with hx | hx
    · exact h.any x (List.mem_append_left _ hx)
    · simp at hx; subst hx; exact ha
theorem TSound.snoc {p : List Tn} {b c : Tn} (h : TSound (p ++ [b])) (hb : b.inn ≠ []) (hc : c.out ≠ []) : TSound (p ++ [b] ++ [c]) := by
  refine ⟨fun i x hx hi => ?_, fun i x hx hi => ?_, fun x hx => ?_⟩
  · rcases at_snoc hx with ⟨k, e⟩ | ⟨k, rfl⟩
    · exact h.out i x e hi
    · exact hc
  · rcases at_snoc hx with ⟨k, e⟩ | ⟨k, rfl⟩
    · rcases at_snoc e with ⟨k2, e2⟩ | ⟨k2, rfl⟩
      · exact h.inn i x e (by simp at k ⊢; omega)
      · exact hb
    · simp at hi; simp at k; omega
  · rcases List.mem_append.1 hx with hx | hx
    · exact h.any x hx
    · simp at hx; subst hx; exact .inl hc
theorem TSound.take {t : List Tn} (h : TSound t) (k : Nat) : TSound (t.take k) := by
  refine ⟨fun i x hx hi => ?_, fun i x hx hi => ?_, fun x hx => h.any x (List.mem_of_mem_take hx)⟩
  · obtain ⟨hl, e⟩ := List.getElem?_eq_some_iff.1 hx
    rw [List.getElem_take] at e
    exact h.out i x (List.getElem?_eq_some_iff.2 ⟨by rw [List.length_take] at hl; omega, e⟩) hi
  · obtain ⟨hl, e⟩ := List.getElem?_eq_some_iff.1 hx
    rw [List.getElem_take] at e
    rw [List.length_take] at hi
    exact h.inn i x (List.getElem?_eq_some_iff.2 ⟨by omega, e⟩) (by omega)
theorem tput_sound {acc : List Tn} (h : TSound acc) (d : Int) (xs : List Nat) : TSound (tput acc d xs) := by
  by_cases hx : xs = []
  · subst hx; rw [tput_nil]; exact h
  have one : ∀ c : Tn, (c.out ≠ [] ∨ c.inn ≠ []) → TSound [c] := fun c hc => by
    refine ⟨fun i b hb hi => ?_, fun i b hb hi => ?_, fun b hb => ?_⟩
    · rw [List.getElem?_eq_none (by simp; omega)] at hb; cases hb
    · simp at hi
    · simp at hb; subst hb; exact hc
  by_cases h0 : d = 0
  · subst h0
    rcases snoc_cases acc with rfl | ⟨p, b, rfl⟩
    · rw [tput_none0 hx]; exact one _ (.inl hx)
    · by_cases hb : b.inn = []
      · rw [tput_more p hx hb]
        exact h.swap (fun _ => by simp [hx]) (.inl (by simp [hx]))
      · rw [tput_new p hx hb]
        exact h.snoc hb hx
  by_cases h1 : d = 1
  · subst h1
    rcases snoc_cases acc with rfl | ⟨p, b, rfl⟩
    · rw [tput_none1 hx]; exact one _ (.inr hx)
    · rw [tput_in p b hx]
      exact h.swap id (.inr (by simp [hx]))
  · rw [tput_far _ h0 h1]; exact h
theorem turns_sound (l : List PE) : TSound (turns l) := by
  rcases snoc_cases l with rfl | ⟨p, b, rfl⟩
  · exact TSound.nil
  · rw [turns_snoc]; exact tput_sound (turns_sound p) _ _
termination_by l.length
decreasing_by subst_vars; simp

/-- The events of turns. -/
def tevs1 (b : Tn) : List PE := (if b.out = [] then [] else [⟨0, 0, b.out⟩]) ++ (if b.inn = [] then [] else [⟨1, 0, b.inn⟩])
def tevs (t : List Tn) : List PE := t.flatMap tevs1
theorem tevs_append (t u : List Tn) : tevs (t ++ u) = tevs t ++ tevs u := by simp [tevs]
theorem tevs_one (b : Tn) : tevs [b] = tevs1 b := by simp [tevs]
theorem tevs_cons (b : Tn) (t : List Tn) : tevs (b :: t) = tevs1 b ++ tevs t := by simp [tevs]
theorem turnsF_one1 (acc : List Tn) (b : Tn) : turnsF acc (tevs1 b) = tput (tput acc 0 b.out) 1 b.inn := by
  unfold tevs1
  by_cases ho : b.out = []
  · rw [if_pos ho, ho, tput_nil]
    by_cases hi : b.inn = []
    · rw [if_pos hi, hi, tput_nil]; rfl
    · rw [if_neg hi]; rfl
  · rw [if_neg ho]
    by_cases hi : b.inn = []
    · rw [if_pos hi, hi, tput_nil]; rfl
    · rw [if_neg hi]; rfl
theorem turns_back {t : List Tn} (h : TSound t) : turns (tevs t) = t := by
  rcases snoc_cases t with rfl | ⟨p, b, rfl⟩
  · rfl
  · have hp : TSound p := by have := h.take p.length; rwa [List.take_left] at this
    have ih := turns_back hp
    have hab := h.any b (by simp)
    rw [tevs_append, turns_append, ih, tevs_one, turnsF_one1]
    rcases snoc_cases p with rfl | ⟨q, c, rfl⟩
    · by_cases ho : b.out = []
      · rw [ho, tput_nil, tput_none1 (by rcases hab with k | k; exact absurd ho k; exact k), ← ho]; rfl
      · rw [tput_none0 ho]
        by_cases hi : b.inn = []
        · rw [hi, tput_nil, ← hi]; rfl
        · exact tput_in [] _ hi
    · have ho : b.out ≠ [] := h.out (q ++ [c]).length b (by simp) (by simp)
      have hc : c.inn ≠ [] := h.inn q.length c (by rw [List.getElem?_append_left (by simp)]; simp) (by simp)
      rw [tput_new q ho hc]
      by_cases hi : b.inn = []
      · rw [hi, tput_nil, ← hi]
      · rw [tput_in (q ++ [c]) _ hi]; rfl
termination_by t.length
decreasing_by subst_vars; simp

/-- How much was said ahead. -/
def told (i : Int) (t : List Tn) : Nat := (inns (t.take i.toNat)).length
def seen (i : Int) (t : List Tn) : Nat := (outs (t.take (i + 1).toNat)).length
theorem dueF_one (tl : Int) (ahead : Nat) (b : Tn) (l : List PE) : dueF tl ahead (tevs1 b ++ l) = (if (ahead : Int) ≤ tl then b.out.length else 0) + dueF tl (ahead + b.inn.length) l := by
  unfold tevs1
  by_cases ho : b.out = [] <;> by_cases hi : b.inn = []
  · rw [if_pos ho, if_pos hi, ho, hi]; simp
  · rw [if_pos ho, if_neg hi, ho]
    show dueF tl ahead (⟨1, 0, b.inn⟩ :: l) = _
    rw [dueF, if_pos rfl]; simp
  · rw [if_neg ho, if_pos hi, hi]
    show dueF tl ahead (⟨0, 0, b.out⟩ :: l) = _
    rw [dueF, if_neg (by simp)]
    by_cases hl : (ahead : Int) ≤ tl
    · rw [if_pos ⟨rfl, hl⟩, if_pos hl]; rfl
    · rw [if_neg (fun k => hl k.2), if_neg hl]; simp
  · rw [if_neg ho, if_neg hi]
    show dueF tl ahead (⟨0, 0, b.out⟩ :: ⟨1, 0, b.inn⟩ :: l) = _
    rw [dueF, if_neg (by simp), dueF, if_pos rfl]
    by_cases hl : (ahead : Int) ≤ tl
    · rw [if_pos ⟨rfl, hl⟩, if_pos hl]
    · rw [if_neg (fun k => hl k.2), if_neg hl]; simp
theorem dueF_over (tl : Int) : ∀ (t : List Tn) (ahead : Nat), tl < ahead → dueF tl ahead (tevs t) = 0
  | [], _, _ => rfl
  | b :: t, ahead, h => by
    rw [tevs_cons, dueF_one, if_neg (by omega), dueF_over tl t _ (by omega)]
/-- What is due when a turn's answer is awaited. -/
theorem due_turn : ∀ (t : List Tn) (i ahead : Nat) (tl : Int), i < t.length → (∀ j b, t[j]? = some b → j + 1 < t.length → b.inn ≠ []) → tl = (ahead : Int) + (inns (t.take i)).length → dueF tl ahead (tevs t) = (outs (t.take (i + 1))).length
  | [], i, _, _, h, _, _ => by simp at h
  | b :: t, 0, ahead, tl, h, hs, htl => by
    simp [inns] at htl
    rw [tevs_cons, dueF_one, if_pos (by omega)]
    have : dueF tl (ahead + b.inn.length) (tevs t) = 0 := by
      cases t with
      | nil => rfl
      | cons c t =>
        have hb := hs 0 b rfl (by simp)
        have : 0 < b.inn.length := List.length_pos_iff.2 hb
        exact dueF_over _ _ _ (by omega)
    rw [this]; simp [outs]
  | b :: t, i + 1, ahead, tl, h, hs, htl => by
    have hl : (inns ((b :: t).take (i + 1))).length = b.inn.length + (inns (t.take i)).length := by simp [inns]
    rw [hl] at htl
    rw [tevs_cons, dueF_one, if_pos (by omega), due_turn t i (ahead + b.inn.length) tl (by simpa using h) (fun j c hc hj => hs (j + 1) c (by simpa using hc) (by simpa using hj)) (by omega)]
    simp [outs]
theorem due_told {t : List Tn} (h : TSound t) {i : Nat} (hi : i < t.length) : due (told i t) (tevs t) = seen i t := by
  unfold due told seen
  rw [Int.toNat_natCast, show ((i : Int) + 1).toNat = i + 1 by omega]
  exact due_turn t i 0 _ hi h.inn (by simp)
theorem dueF_less (t : List Tn) : ∀ (i ahead : Nat) (tl : Int), i ≤ t.length → tl < (ahead : Int) + (inns (t.take i)).length → dueF tl ahead (tevs t) ≤ (outs (t.take i)).length := by
  induction t with
  | nil => intro i ahead tl _ _; simp [tevs, dueF]
  | cons b t ih =>
    intro i ahead tl h htl
    cases i with
    | zero => simp [inns] at htl; rw [dueF_over _ _ _ htl]; exact Nat.zero_le _
    | succ i =>
      have hl : (inns ((b :: t).take (i + 1))).length = b.inn.length + (inns (t.take i)).length := by simp [inns]
      have ho : (outs ((b :: t).take (i + 1))).length = b.out.length + (outs (t.take i)).length := by simp [outs]
      rw [hl] at htl
      rw [ho, tevs_cons, dueF_one]
      have := ih i (ahead + b.inn.length) tl (by simpa using h) (by omega)
      split <;> omega
theorem due_less {t : List Tn} (h : TSound t) {i : Nat} (h0 : 0 < i) (hi : i < t.length) : due ((told i t : Int) - 1) (tevs t) < seen i t := by
  have h1 := dueF_less t i 0 ((told i t : Int) - 1) (by omega) (by unfold told; rw [Int.toNat_natCast]; omega)
  have h2 := h.out i t[i] (List.getElem?_eq_getElem hi) h0
  have h3 : 0 < t[i].out.length := List.length_pos_iff.2 h2
  have h4 : seen i t = (outs (t.take i)).length + t[i].out.length := by
    unfold seen
    rw [show ((i : Int) + 1).toNat = i + 1 by omega, List.take_add_one, List.getElem?_eq_getElem hi, outs_append, List.length_append]
    simp [outs]
  unfold due
  omega
/-- Cut events have the same turns. -/
theorem turnsF_same : ∀ (l m : List PE) (acc : List Tn), turnsF acc l = turnsF acc m → ∀ r, turnsF acc (l ++ r) = turnsF acc (m ++ r) := fun l m acc h r => by rw [turnsF_append, turnsF_append, h]
end Go.Proofs.Ytchfiiiippnigaa
