/-
  A text read backwards: its borders and its shortest end; its pieces one by one; the first place and the list of all of them; over plain lists.
  Conditions: none.
-/
import Derived.Test.YtialecghpekcnaaTLRefL
import Derived.Test.YtialecghpekcnaaKByte
namespace Go.Proofs.Ytialecghpekcnaa

theorem ni_drop (l : List Nat) (k : Nat) : (ni l).drop k = ni (l.drop k) := by simp [ni, List.map_drop]
theorem ni_take (l : List Nat) (k : Nat) : (ni l).take k = ni (l.take k) := by simp [ni, List.map_take]
theorem ni_inj {a b : List Nat} : ni a = ni b ↔ a = b := List.map_inj_right fun x y (h : (x : Int) = (y : Int)) => by omega
theorem at_ni {t p : List Nat} {i : Nat} : At (ni t) (ni p) i ↔ At t p i := by
  unfold At
  rw [ni_len, ni_len, ni_drop, ni_take, ni_inj]

theorem take_reverse_at {t : List Nat} {a k : Nat} (hk : k ≤ a) (ha : a ≤ t.length) : Suf ((ni t.reverse).take a) (ni t.reverse) k ↔ At t (tail t k) (t.length - a) := by
  have e1 : t.reverse.take a = (t.drop (t.length - a)).reverse := by rw [List.reverse_drop]; congr 1; omega
  have e2 : t.reverse.take k = (t.drop (t.length - k)).reverse := by rw [List.reverse_drop]; congr 1; omega
  have e3 : (t.reverse.take a).drop (a - k) = ((t.drop (t.length - a)).take k).reverse := by
    rw [e1, List.reverse_take]
    congr 1
    rw [List.length_drop]; omega
  have hl : (tail t k).length = k := tail_len (by omega)
  unfold Suf
  rw [ni_take, ni_len, ni_len, ni_drop, ni_take, ni_inj, List.length_take, List.length_reverse, Nat.min_eq_left ha, e3, e2, List.reverse_inj]
  unfold At
  rw [hl]
  constructor
  · rintro ⟨h1, h2, h3⟩; exact ⟨by omega, by omega, h3⟩
  · rintro ⟨h1, h2, h3⟩; exact ⟨by omega, by omega, h3⟩

/-- An end of an end stands where the end does, further on. -/
theorem tail_tail {t : List Nat} {i j k : Nat} (hk : k ≤ j) (hj : j ≤ t.length) (h : At t (tail t j) i) : At t (tail t k) (i + (j - k)) := by
  have h1 := h.le
  rw [tail_len hj] at h1
  have e : tail t k = (tail t j).drop (j - k) := by
    unfold tail
    rw [List.drop_drop]; congr 1; omega
  refine At.mk' (by rw [tail_len (by omega)]; omega) ?_
  rw [tail_len (by omega), e, ← h.2.2, tail_len hj, List.drop_take, List.drop_drop, show j - (j - k) = k by omega]

theorem shortest_border {t : List Nat} {m a : Nat} (ha : 0 < a) (han : a ≤ t.length) (hm : border (ni t.reverse) a = m) (hmax : ∀ b, 0 < b → b ≤ t.length → border (ni t.reverse) b ≤ m) : shortest t = m + 1 := by
  have hma : m < a := by rw [← hm]; exact border_lt ha
  obtain ⟨s1, s2, s3, s4⟩ := shortest_is (t := t) (by omega)
  rcases Nat.lt_trichotomy (shortest t) (m + 1) with h | h | h
  · -- too short: it stands ahead, too
    have hs := border_suf (ni t.reverse) a
    rw [hm] at hs
    have hat := tail_tail (k := shortest t) (by omega) (by omega) ((take_reverse_at (by omega) han).1 hs)
    exact absurd hat ((count_one s1 s2).1 s3 _ (by omega))
  · exact h
  · refine absurd ((count_one (t := t) (n := m + 1) (by omega) (by omega)).2 fun i hi hat => ?_) (s4 (m + 1) (by omega) h)
    have hle := hat.le
    rw [tail_len (by omega)] at hle
    have hsuf := (take_reverse_at (t := t) (a := t.length - i) (k := m + 1) (by omega) (by omega)).2 (by rwa [show t.length - (t.length - i) = i by omega])
    have h1 := le_border (by omega) hsuf
    have h2 := hmax (t.length - i) (by omega) (by omega)
    omega

/-- One piece. -/
def piece (t : List Nat) (m k : Nat) : List Nat := (t.drop (k * m)).take m
def cuts (t : List Nat) (m k : Nat) : List (List Nat) := (List.range k).map (piece t m)
theorem cuts_zero (t : List Nat) (m : Nat) : cuts t m 0 = [] := rfl
theorem cuts_next (t : List Nat) (m k : Nat) : cuts t m (k + 1) = cuts t m k ++ [piece t m k] := by unfold cuts; rw [List.range_succ, List.map_append]; rfl
theorem cuts_len (t : List Nat) (m k : Nat) : (cuts t m k).length = k := by simp [cuts]
theorem chunks_cuts {m : Nat} (hm : 1 ≤ m) : ∀ (f : Nat) (t : List Nat), t.length ≤ f → 0 < t.length → chunks m f t = cuts t m ((t.length + m - 1) / m)
  | 0, t, h1, h2 => by omega
  | f + 1, t, h1, h2 => by
    unfold chunks
    split
    · next h =>
      have hd : (t.drop m).length = t.length - m := List.length_drop
      have hq : (t.length + m - 1) / m = ((t.drop m).length + m - 1) / m + 1 := by
        rw [hd, show t.length + m - 1 = (t.length - m + m - 1) + m by omega, Nat.add_div_right _ (by omega)]
      rw [chunks_cuts hm f (t.drop m) (by omega) (by omega), hq]
      unfold cuts
      rw [List.range_succ_eq_map, List.map_cons, List.map_map]
      congr 1
      · simp [piece]
      · refine List.map_congr_left fun k _ => ?_
        simp only [piece, Function.comp, List.drop_drop]
        congr 2
        rw [Nat.succ_mul]; omega
    · next h =>
      have hq : (t.length + m - 1) / m = 1 := by
        rw [show t.length + m - 1 = (t.length - 1) + m by omega, Nat.add_div_right _ (by omega), Nat.div_eq_of_lt (by omega)]
      rw [hq]
      simp [cuts, piece, List.range_succ, List.take_of_length_le (show t.length ≤ m by omega)]

/-- The first place is the list's first one. -/
theorem first_head {t p : List Nat} {i : Nat} (hi : i ≤ t.length) : first t p i = (places (ni (t.drop i)) (ni p)).head?.map (i + ·) := by
  have hmem : ∀ k, k ∈ places (ni (t.drop i)) (ni p) ↔ At t p (i + k) := fun k => by
    unfold places
    rw [List.mem_filter, List.mem_range, decide_eq_true_eq, at_ni, at_drop hi, ni_len, List.length_drop]
    exact ⟨fun h => h.2, fun h => ⟨by have := h.1; omega, h⟩⟩
  have hsort : (places (ni (t.drop i)) (ni p)).Pairwise (· < ·) := List.Pairwise.filter _ List.pairwise_lt_range
  cases hl : places (ni (t.drop i)) (ni p) with
  | nil =>
    refine first_no.2 fun k hk ha => ?_
    have := (hmem (k - i)).2 (by rwa [show i + (k - i) = k by omega])
    rw [hl] at this
    cases this
  | cons x xs =>
    rw [hl] at hmem hsort
    refine first_is.2 ⟨by show i ≤ i + x; omega, (hmem x).1 (by simp), fun k k1 k2 ha => ?_⟩
    have h1 := (hmem (k - i)).2 (by rwa [show i + (k - i) = k by omega])
    have h2 : k < i + x := k2
    rcases List.mem_cons.1 h1 with h | h
    · omega
    · have := (List.pairwise_cons.1 hsort).1 _ h; omega
end Go.Proofs.Ytialecghpekcnaa
