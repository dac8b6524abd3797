/-
  What the document asks of events, over plain lists; over no program.
  Conditions: none.
-/
import Derived.Test.YtchfiiiippnigaaEv
namespace Go.Proofs.Ytchfiiiippnigaa

/-- What is wrong, behind all bytes. -/
def chk : Nat → List PE → Int
  | _, [] => 0
  | all, a :: l => if a.dir ≠ 0 ∧ a.dir ≠ 1 then 2 else if 65536 < a.data.length ∨ 262144 < all + a.data.length then 6 else chk (all + a.data.length) l
def chkAll (l : List PE) : Int := if 4096 < l.length then 10 else chk 0 l

theorem drop_at {l : List PE} {k : Nat} {a : PE} (h : l[k]? = some a) : l.drop k = a :: l.drop (k + 1) := by
  have hk := (List.getElem?_eq_some_iff.1 h).1
  rw [List.drop_eq_getElem_cons hk, (List.getElem?_eq_some_iff.1 h).2]
theorem pes_at {l : List Ev} {k : Nat} {a : Ev} (h : l[k]? = some a) : (pes l)[k]? = some a.pe := by simp [pes, h]
theorem pes_drop {l : List Ev} {k : Nat} {a : Ev} (h : l[k]? = some a) : (pes l).drop k = a.pe :: (pes l).drop (k + 1) := drop_at (pes_at h)
theorem pes_end (l : List Ev) : (pes l).drop l.length = [] := by rw [← pes_len l, List.drop_length]
theorem pes_take {l : List Ev} {k : Nat} {a : Ev} (h : l[k]? = some a) : (pes l).take (k + 1) = (pes l).take k ++ [a.pe] := by
  have h := pes_at h
  rw [List.take_add_one, h]; rfl
theorem pes_all (l : List Ev) : (pes l).take l.length = pes l := by rw [← pes_len l, List.take_length]
theorem pes_snoc (l : List Ev) (a : Ev) : pes (l ++ [a]) = pes l ++ [a.pe] := by simp [pes]
theorem pes_append (l m : List Ev) : pes (l ++ m) = pes l ++ pes m := by simp [pes]

/-- Whether times never go back. -/
def risB : List PE → Bool
  | [] => true
  | [_] => true
  | a :: b :: l => decide (a.time ≤ b.time) && risB (b :: l)
theorem ris_step {l : List PE} {k : Nat} {a b : PE} (ha : l[k]? = some a) (hb : l[k + 1]? = some b) : risB (l.drop k) = (decide (a.time ≤ b.time) && risB (l.drop (k + 1))) := by
  rw [drop_at ha, drop_at hb]; rfl
theorem ris_end {l : List PE} {k : Nat} (h : l.length ≤ k + 1) : risB (l.drop k) = true := by
  rcases Nat.lt_or_ge k l.length with h1 | h1
  · rw [drop_at (List.getElem?_eq_getElem h1), List.drop_of_length_le (by omega)]; rfl
  · rw [List.drop_of_length_le h1]; rfl

/-- How many bytes are due, where so many of the user's are ahead. -/
def dueF (told : Int) : Nat → List PE → Nat
  | _, [] => 0
  | ahead, a :: l => if a.dir = 1 then dueF told (ahead + a.data.length) l else if a.dir = 0 ∧ (ahead : Int) ≤ told then a.data.length + dueF told ahead l else dueF told ahead l
def due (told : Int) (l : List PE) : Nat := dueF told 0 l

/-- The bytes of a direction. -/
def byts (d : Int) (l : List PE) : List Nat := l.flatMap fun a => if a.dir = d then a.data else []
/-- How many bytes there are. -/
def whole (l : List PE) : Nat := (l.map fun a => a.data.length).sum
theorem byts_nil (d : Int) : byts d [] = [] := rfl
theorem byts_cons (d : Int) (a : PE) (l : List PE) : byts d (a :: l) = (if a.dir = d then a.data else []) ++ byts d l := by simp [byts]
theorem byts_append (d : Int) (l m : List PE) : byts d (l ++ m) = byts d l ++ byts d m := by simp [byts]
theorem whole_cons (a : PE) (l : List PE) : whole (a :: l) = a.data.length + whole l := by simp [whole]
theorem whole_append (l m : List PE) : whole (l ++ m) = whole l + whole m := by simp [whole]
theorem whole_take (l : List PE) (k : Nat) : whole (l.take k) ≤ whole l := by
  conv => rhs; rw [← List.take_append_drop k l, whole_append]
  omega
theorem whole_drop (l : List PE) (k : Nat) : whole (l.drop k) ≤ whole l := by
  conv => rhs; rw [← List.take_append_drop k l, whole_append]
  omega
theorem whole_at {l : List PE} {k : Nat} {a : PE} (h : l[k]? = some a) : whole (l.take k) + a.data.length ≤ whole l := by
  conv => rhs; rw [← List.take_append_drop k l, whole_append, drop_at h, whole_cons]
  omega
theorem byts_le (d : Int) : ∀ l, (byts d l).length ≤ whole l
  | [] => by simp [byts, whole]
  | a :: l => by
    have := byts_le d l
    rw [byts_cons, whole_cons, List.length_append]
    split
    · omega
    · simp; omega
theorem byts_byte {d : Int} {l : List PE} (h : ∀ a ∈ l, ∀ x ∈ a.data, x < 256) : ∀ x ∈ byts d l, x < 256 := by
  intro x hx
  obtain ⟨a, ha, hx⟩ := List.mem_flatMap.1 hx
  split at hx
  · exact h a ha x hx
  · cases hx

theorem dueF_le (told : Int) : ∀ (l : List PE) (ahead : Nat), dueF told ahead l ≤ (byts 0 l).length
  | [], _ => by simp [dueF]
  | a :: l, ahead => by
    have h1 := dueF_le told l (ahead + a.data.length)
    have h2 := dueF_le told l ahead
    rw [byts_cons, List.length_append]
    unfold dueF
    by_cases e1 : a.dir = 1
    · rw [if_pos e1]; omega
    · rw [if_neg e1]
      by_cases e0 : a.dir = 0
      · rw [if_pos e0]; split <;> omega
      · rw [if_neg (fun h => e0 h.1)]; omega
theorem dueF_mono {t u : Int} (h : t ≤ u) : ∀ (l : List PE) (ahead : Nat), dueF t ahead l ≤ dueF u ahead l
  | [], _ => by simp [dueF]
  | a :: l, ahead => by
    have h1 := dueF_mono h l (ahead + a.data.length)
    have h2 := dueF_mono h l ahead
    unfold dueF
    split
    · exact h1
    · split
      · rename_i h3
        rw [if_pos ⟨h3.1, by omega⟩]; omega
      · split <;> omega
theorem dueF_all {t : Int} : ∀ (l : List PE) (ahead : Nat), (ahead + (byts 1 l).length : Int) ≤ t → dueF t ahead l = (byts 0 l).length
  | [], _, _ => by simp [dueF, byts]
  | a :: l, ahead, h => by
    rw [byts_cons, List.length_append] at h
    rw [byts_cons, List.length_append]
    unfold dueF
    by_cases e1 : a.dir = 1
    · rw [if_pos e1] at h ⊢
      rw [dueF_all l (ahead + a.data.length) (by omega), if_neg (by omega)]; simp
    · rw [if_neg e1] at h ⊢
      have h' : (ahead + (byts 1 l).length : Int) ≤ t := by simp at h; omega
      by_cases e0 : a.dir = 0
      · rw [if_pos ⟨e0, by omega⟩, dueF_all l ahead h', if_pos e0]
      · rw [if_neg (fun h => e0 h.1), dueF_all l ahead h', if_neg e0]; simp

/-- An event more is merged. -/
def put (acc : List PE) (a : PE) : List PE :=
  if a.data = [] then acc else match acc.getLast? with
  | none => acc ++ [a]
  | some b => if b.dir = a.dir then acc.dropLast ++ [⟨b.dir, b.time, b.data ++ a.data⟩] else acc ++ [a]
def mrg (l : List PE) : List PE := l.foldl put []
theorem put_none {acc : List PE} {a : PE} (h : a.data = []) : put acc a = acc := by simp [put, h]
theorem put_first {a : PE} (h : a.data ≠ []) : put [] a = [a] := by simp [put, h]
theorem put_same {p : List PE} {b a : PE} (h : a.data ≠ []) (hd : b.dir = a.dir) : put (p ++ [b]) a = p ++ [⟨b.dir, b.time, b.data ++ a.data⟩] := by simp [put, h, hd]
theorem put_new {p : List PE} {b a : PE} (h : a.data ≠ []) (hd : b.dir ≠ a.dir) : put (p ++ [b]) a = p ++ [b] ++ [a] := by simp [put, h, hd]
theorem mrg_snoc (l : List PE) (a : PE) : mrg (l ++ [a]) = put (mrg l) a := by simp [mrg]
theorem mrg_next {l : List PE} {k : Nat} {a : PE} (h : l[k]? = some a) : mrg (l.take (k + 1)) = put (mrg (l.take k)) a := by
  rw [List.take_add_one, h]; exact mrg_snoc _ _

theorem snoc_cases {α : Type} (l : List α) : l = [] ∨ ∃ p b, l = p ++ [b] := by
  rcases List.eq_nil_or_concat l with h | ⟨p, b, h⟩
  · exact .inl h
  · exact .inr ⟨p, b, by rw [h, List.concat_eq_append]⟩
theorem put_cases (acc : List PE) (a : PE) : (a.data = [] ∧ put acc a = acc) ∨ (a.data ≠ [] ∧ acc = [] ∧ put acc a = [a]) ∨
    (a.data ≠ [] ∧ ∃ p b, acc = p ++ [b] ∧ b.dir = a.dir ∧ put acc a = p ++ [⟨b.dir, b.time, b.data ++ a.data⟩]) ∨ (a.data ≠ [] ∧ ∃ p b, acc = p ++ [b] ∧ b.dir ≠ a.dir ∧ put acc a = p ++ [b] ++ [a]) := by
  by_cases h : a.data = []
  · exact .inl ⟨h, put_none h⟩
  · rcases snoc_cases acc with rfl | ⟨p, b, rfl⟩
    · exact .inr (.inl ⟨h, rfl, put_first h⟩)
    · by_cases hd : b.dir = a.dir
      · exact .inr (.inr (.inl ⟨h, p, b, rfl, hd, put_same h hd⟩))
      · exact .inr (.inr (.inr ⟨h, p, b, rfl, hd, put_new h hd⟩))
/-- No two neighbours of one direction, no event without bytes. -/
def Sound (l : List PE) : Prop := (∀ a ∈ l, a.data ≠ []) ∧ ∀ i a b, l[i]? = some a → l[i + 1]? = some b → a.dir ≠ b.dir
theorem sound_swap {p : List PE} {b b' : PE} (h : Sound (p ++ [b])) (hd : b'.dir = b.dir) (hn : b'.data ≠ []) : Sound (p ++ [b']) := by
  refine ⟨fun x hx => ?_, fun i x y hx hy => ?_⟩
  · rcases List.mem_append.1 hx with hx | hx
    · exact h.1 x (List.mem_append_left _ hx)
    · rw [List.mem_singleton.1 hx]; exact hn
  · have hi := (List.getElem?_eq_some_iff.1 hy).1
    simp at hi
    rw [List.getElem?_append_left (by omega)] at hx
    by_cases e : i + 1 < p.length
    · rw [List.getElem?_append_left e] at hy
      exact h.2 i x y (by rw [List.getElem?_append_left (by omega)]; exact hx) (by rw [List.getElem?_append_left e]; exact hy)
    · have e2 : i + 1 = p.length := by omega
      rw [e2] at hy
      simp at hy
      subst hy
      rw [hd]
      exact h.2 i x b (by rw [List.getElem?_append_left (by omega)]; exact hx) (by rw [e2]; simp)
theorem sound_snoc {p : List PE} {b a : PE} (h : Sound (p ++ [b])) (hd : b.dir ≠ a.dir) (hn : a.data ≠ []) : Sound (p ++ [b] ++ [a]) := by
  refine ⟨fun x hx => ?_, fun i x y hx hy => ?_⟩
  · rcases List.mem_append.1 hx with hx | hx
    · exact h.1 x hx
    · rw [List.mem_singleton.1 hx]; exact hn
  · have hi := (List.getElem?_eq_some_iff.1 hy).1
    simp at hi
    by_cases e : i + 1 < (p ++ [b]).length
    · rw [List.getElem?_append_left e] at hy
      rw [List.getElem?_append_left (by omega)] at hx
      exact h.2 i x y hx hy
    · simp at e
      have e2 : i = p.length := by omega
      subst e2
      simp at hx
      have : (p ++ [b] ++ [a])[p.length + 1]? = some a := by
        rw [List.getElem?_append_right (by simp)]; simp
      rw [this] at hy
      cases hy
      rw [← hx]
      exact hd
theorem mrg_ind (P : List PE → List PE → Prop) (h0 : P [] []) (hs : ∀ l a m, P l m → P (l ++ [a]) (put m a)) (l : List PE) : P l (mrg l) := by
  have key : ∀ r : List PE, P r.reverse (mrg r.reverse) := by
    intro r
    induction r with
    | nil => exact h0
    | cons a r ih => rw [List.reverse_cons, mrg_snoc]; exact hs _ _ _ ih
  have := key l.reverse
  rwa [List.reverse_reverse] at this
theorem mrg_sound (l : List PE) : Sound (mrg l) := by
  refine mrg_ind (fun _ m => Sound m) ⟨by simp, by simp⟩ (fun _ a m h => ?_) l
  rcases put_cases m a with ⟨_, e⟩ | ⟨hn, rfl, e⟩ | ⟨hn, p, b, rfl, hd, e⟩ | ⟨hn, p, b, rfl, hd, e⟩ <;> rw [e]
  · exact h
  · exact ⟨by simpa using hn, fun i x y _ hy => by simp at hy⟩
  · exact sound_swap h rfl (by simp [hn])
  · exact sound_snoc h hd hn
theorem mrg_byts (d : Int) (l : List PE) : byts d (mrg l) = byts d l := by
  refine mrg_ind (fun l m => byts d m = byts d l) rfl (fun l a m h => ?_) l
  rw [byts_append, ← h]
  rcases put_cases m a with ⟨hn, e⟩ | ⟨hn, rfl, e⟩ | ⟨hn, p, b, rfl, hd, e⟩ | ⟨hn, p, b, rfl, hd, e⟩ <;> rw [e]
  · simp [byts, hn]
  · simp [byts]
  · rw [byts_append, byts_append]
    simp only [byts, List.flatMap_cons, List.flatMap_nil, List.append_nil, hd]
    by_cases e : a.dir = d
    · simp [e]
    · simp [e]
  · rw [byts_append]
theorem mrg_whole (l : List PE) : whole (mrg l) = whole l := by
  refine mrg_ind (fun l m => whole m = whole l) rfl (fun l a m h => ?_) l
  rw [whole_append, ← h]
  rcases put_cases m a with ⟨hn, e⟩ | ⟨hn, rfl, e⟩ | ⟨hn, p, b, rfl, hd, e⟩ | ⟨hn, p, b, rfl, hd, e⟩ <;> rw [e]
  · simp [whole, hn]
  · simp [whole]
  · simp [whole]; omega
  · rw [whole_append]
theorem mrg_len (l : List PE) : (mrg l).length ≤ l.length := by
  refine mrg_ind (fun l m => m.length ≤ l.length) (Nat.le_refl _) (fun l a m h => ?_) l
  rcases put_cases m a with ⟨hn, e⟩ | ⟨hn, rfl, e⟩ | ⟨hn, p, b, rfl, hd, e⟩ | ⟨hn, p, b, rfl, hd, e⟩ <;> rw [e] <;> simp at h ⊢ <;> omega
theorem mrg_byte {l : List PE} (h : ∀ a ∈ l, ∀ x ∈ a.data, x < 256) : ∀ a ∈ mrg l, ∀ x ∈ a.data, x < 256 := by
  refine mrg_ind (fun l m => (∀ a ∈ l, ∀ x ∈ a.data, x < 256) → ∀ a ∈ m, ∀ x ∈ a.data, x < 256) (fun _ a ha => by cases ha) (fun l a m ih hl => ?_) l h
  have ih := ih fun y hy => hl y (List.mem_append_left _ hy)
  have ha := hl a (by simp)
  rcases put_cases m a with ⟨hn, e⟩ | ⟨hn, rfl, e⟩ | ⟨hn, p, b, rfl, hd, e⟩ | ⟨hn, p, b, rfl, hd, e⟩ <;> rw [e]
  · exact ih
  · simpa using ha
  · intro y hy
    rcases List.mem_append.1 hy with hy | hy
    · exact ih y (List.mem_append_left _ hy)
    · rw [List.mem_singleton.1 hy]
      intro x hx
      rcases List.mem_append.1 hx with hx | hx
      · exact ih b (by simp) x hx
      · exact ha x hx
  · intro y hy
    rcases List.mem_append.1 hy with hy | hy
    · exact ih y hy
    · rw [List.mem_singleton.1 hy]; exact ha
/-- What is merged is merged anew as it is. -/
theorem mrg_same {l : List PE} (h : Sound l) : mrg l = l := by
  have key : ∀ r : List PE, Sound r.reverse → mrg r.reverse = r.reverse := by
    intro r
    induction r with
    | nil => intro _; rfl
    | cons a r ih =>
      intro hs
      rw [List.reverse_cons] at hs ⊢
      have hs' : Sound r.reverse := ⟨fun x hx => hs.1 x (List.mem_append_left _ hx), fun i x y hx hy => hs.2 i x y (by rw [List.getElem?_append_left (List.getElem?_eq_some_iff.1 hx).1]; exact hx) (by rw [List.getElem?_append_left (List.getElem?_eq_some_iff.1 hy).1]; exact hy)⟩
      rw [mrg_snoc, ih hs']
      have hn := hs.1 a (by simp)
      rcases snoc_cases r.reverse with e | ⟨p, b, e⟩
      · rw [e]; exact put_first hn
      · rw [e] at hs ⊢
        refine put_new hn (hs.2 p.length b a ?_ ?_)
        · rw [List.getElem?_append_left (by simp)]; simp
        · rw [List.getElem?_append_right (by simp)]; simp
  have := key l.reverse
  rw [List.reverse_reverse] at this
  exact this h
/-- Times that never go back don't when events are merged. -/
def Ris (l : List PE) : Prop := ∀ (i j : Nat) (a b : PE), i ≤ j → l[i]? = some a → l[j]? = some b → a.time ≤ b.time
theorem risB_ris : ∀ {l : List PE}, risB l = true ↔ Ris l
  | [] => ⟨fun _ i j a b _ h => by simp at h, fun _ => rfl⟩
  | [x] => by
    refine ⟨fun _ i j a b hij ha hb => ?_, fun _ => rfl⟩
    have h1 := (List.getElem?_eq_some_iff.1 hb).1
    simp at h1
    obtain rfl : j = 0 := by omega
    obtain rfl : i = 0 := by omega
    rw [ha] at hb
    cases hb
    omega
  | x :: y :: l => by
    have ih := risB_ris (l := y :: l)
    simp only [risB, Bool.and_eq_true, decide_eq_true_eq]
    rw [ih]
    refine ⟨fun ⟨h1, h2⟩ i j a b hij ha hb => ?_, fun h => ⟨h 0 1 x y (by omega) rfl rfl, fun i j a b hij ha hb => h (i + 1) (j + 1) a b (by omega) ha hb⟩⟩
    cases j with
    | zero =>
      obtain rfl : i = 0 := by omega
      rw [ha] at hb
      cases hb
      omega
    | succ j =>
      cases i with
      | zero =>
        simp at ha
        subst ha
        have := h2 0 j y b (by omega) rfl hb
        omega
      | succ i => exact h2 i j a b (by omega) ha hb
/-- The merged list's times are some of the list's, in their order. -/
theorem mrg_ris {l : List PE} (h : risB l = true) : risB (mrg l) = true := by
  rw [risB_ris] at h ⊢
  have key := mrg_ind (fun l m => Ris l → (∀ (i : Nat) (a : PE), m[i]? = some a → ∃ (j : Nat) (x : PE), l[j]? = some x ∧ x.time = a.time) ∧ Ris m) (fun _ => ⟨fun i a h => by simp at h, fun i j a b _ h => by simp at h⟩) (fun l a m ih hl => ?_) l
  · exact (key h).2
  · have hl' : Ris l := fun i j x y hij hx hy => hl i j x y hij (by rw [List.getElem?_append_left (List.getElem?_eq_some_iff.1 hx).1]; exact hx) (by rw [List.getElem?_append_left (List.getElem?_eq_some_iff.1 hy).1]; exact hy)
    obtain ⟨i1, i2⟩ := ih hl'
    have hup : ∀ {j : Nat} {x : PE}, l[j]? = some x → (l ++ [a])[j]? = some x := fun hx => by rw [List.getElem?_append_left (List.getElem?_eq_some_iff.1 hx).1]; exact hx
    have hla : (l ++ [a])[l.length]? = some a := by simp
    have hle : ∀ (i : Nat) (x : PE), m[i]? = some x → x.time ≤ a.time := fun i x hx => by
      obtain ⟨j, y, hy, e⟩ := i1 i x hx
      have := hl j l.length y a (by have := (List.getElem?_eq_some_iff.1 hy).1; omega) (hup hy) hla
      omega
    have old : ∀ (i : Nat) (x : PE), m[i]? = some x → ∃ (j : Nat) (y : PE), (l ++ [a])[j]? = some y ∧ y.time = x.time := fun i x hx => by
      obtain ⟨j, y, hy, e⟩ := i1 i x hx
      exact ⟨j, y, hup hy, e⟩
    have one : ∀ (q : List PE) (z : PE) (i : Nat) (x : PE), (q ++ [z])[i]? = some x → (i < q.length ∧ q[i]? = some x) ∨ (i = q.length ∧ x = z) := by
      intro q z i x hx
      rcases Nat.lt_or_ge i q.length with hi | hi
      · rw [List.getElem?_append_left hi] at hx; exact .inl ⟨hi, hx⟩
      · have h1 := (List.getElem?_eq_some_iff.1 hx).1
        simp at h1
        have e : i = q.length := by omega
        subst e
        simp at hx
        exact .inr ⟨rfl, hx.symm⟩
    rcases put_cases m a with ⟨hn, e⟩ | ⟨hn, rfl, e⟩ | ⟨hn, p, b, rfl, hd, e⟩ | ⟨hn, p, b, rfl, hd, e⟩ <;> rw [e]
    · exact ⟨old, i2⟩
    · refine ⟨fun i x hx => ?_, fun i j x y hij hx hy => ?_⟩
      · rcases one [] a i x hx with ⟨h1, _⟩ | ⟨_, rfl⟩
        · simp at h1
        · exact ⟨_, _, hla, rfl⟩
      · rcases one [] a i x hx with ⟨h1, _⟩ | ⟨_, rfl⟩
        · simp at h1
        · rcases one [] x j y hy with ⟨h1, _⟩ | ⟨_, rfl⟩
          · simp at h1
          · omega
    · have lst : (p ++ [b])[p.length]? = some b := by simp
      have cnv : ∀ (i : Nat) (x : PE), (p ++ [⟨b.dir, b.time, b.data ++ a.data⟩])[i]? = some x → ∃ x' : PE, (p ++ [b])[i]? = some x' ∧ x'.time = x.time := by
        intro i x hx
        rcases one p _ i x hx with ⟨h1, h2⟩ | ⟨rfl, rfl⟩
        · exact ⟨x, by rw [List.getElem?_append_left h1]; exact h2, rfl⟩
        · exact ⟨b, lst, rfl⟩
      refine ⟨fun i x hx => ?_, fun i j x y hij hx hy => ?_⟩
      · obtain ⟨x', h1, e1⟩ := cnv i x hx
        obtain ⟨j, y, h2, e2⟩ := old i x' h1
        exact ⟨j, y, h2, e2.trans e1⟩
      · obtain ⟨x', h1, e1⟩ := cnv i x hx
        obtain ⟨y', h2, e2⟩ := cnv j y hy
        have := i2 i j x' y' hij h1 h2
        omega
    · refine ⟨fun i x hx => ?_, fun i j x y hij hx hy => ?_⟩
      · rcases one _ a i x hx with ⟨_, h2⟩ | ⟨_, rfl⟩
        · exact old i x h2
        · exact ⟨_, _, hla, rfl⟩
      · rcases one _ a j y hy with ⟨h1, h2⟩ | ⟨e1, rfl⟩
        · rcases one _ a i x hx with ⟨_, h3⟩ | ⟨e2, _⟩
          · exact i2 i j x y hij h3 h2
          · omega
        · rcases one _ _ i x hx with ⟨_, h3⟩ | ⟨_, rfl⟩
          · exact hle i x h3
          · omega
end Go.Proofs.Ytchfiiiippnigaa
