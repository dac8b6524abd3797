/-
  The law TailWhole: pieces are one end of the text, or the whole of it, one behind the other, all but the last one as long as may be.
  Conditions: the number is an int.
-/
import Derived.Test.YtialecghpekcnaaTLAlive
import Derived.Test.YtialecghpekcnaaStrCat
namespace Go.Proofs.Ytialecghpekcnaa
open Go.RowKit

theorem chunks_full {m : Nat} (hm : 1 ≤ m) : ∀ (f : Nat) (t : List Nat) (j : Nat) (h : j + 1 < (chunks m f t).length), ((chunks m f t)[j]'(by omega)).length = m
  | 0, t, j, h => by simp [chunks] at h
  | f + 1, t, j, h => by
    by_cases hlt : m < t.length
    · have e : chunks m (f + 1) t = t.take m :: chunks m f (t.drop m) := by simp [chunks, hlt]
      rw [e, List.length_cons] at h
      cases j with
      | zero =>
        simp only [e, List.getElem_cons_zero, List.length_take]
        omega
      | succ j =>
        simp only [e, List.getElem_cons_succ]
        exact chunks_full hm f _ j (by omega)
    · have e : chunks m (f + 1) t = [t] := by simp [chunks, hlt]
      rw [e] at h
      simp at h
theorem pieces_full {t : List Nat} {m : Nat} (hm : 1 ≤ m) {j : Nat} (h : j + 1 < (pieces t m).length) : ((pieces t m)[j]'(by omega)).length = m := by
  unfold pieces at h ⊢
  split at h
  · simp at h
  · split at h
    · simp at h
    · simp only [*, if_false] at h ⊢
      exact chunks_full hm _ _ j h
theorem pieces_flat {t : List Nat} {m : Nat} (hm : 1 ≤ m) : (pieces t m).flatten.length ≤ t.length ∧ t.drop (t.length - (pieces t m).flatten.length) = (pieces t m).flatten ∧ (2 ≤ (pieces t m).length → (pieces t m).flatten.length = t.length) := by
  unfold pieces
  split
  · simp
  · next h0 =>
    have ht : 0 < t.length := by
      rcases Nat.eq_zero_or_pos t.length with h | h
      · unfold shortest at h0; rw [h] at h0; exact absurd rfl h0
      · exact h
    split
    · obtain ⟨h1, h2, -⟩ := shortest_is ht
      simp only [List.flatten_cons, List.flatten_nil, List.append_nil]
      rw [tail_len h2]
      exact ⟨h2, rfl, fun h => by simp at h⟩
    · obtain ⟨k1, -⟩ := chunks_ok hm t.length t (Nat.le_refl _) ht
      rw [k1]
      exact ⟨Nat.le_refl _, by simp, fun _ => rfl⟩
/-- The first pieces, one behind the other. -/
def flat (pp : List (List Nat)) (j : Nat) : List Nat := (pp.take j).flatten
theorem flat_next {pp : List (List Nat)} {j : Nat} (h : j < pp.length) : flat pp (j + 1) = flat pp j ++ pp[j] := by
  unfold flat
  rw [List.take_succ_eq_append_getElem h, List.flatten_append]
  simp
theorem flat_le (pp : List (List Nat)) (j : Nat) : (flat pp j).length ≤ pp.flatten.length := by
  have : pp.flatten = flat pp j ++ (pp.drop j).flatten := by unfold flat; rw [← List.flatten_append, List.take_append_drop]
  rw [this, List.length_append]
  omega

set_option maxRecDepth 100000 in
set_option maxHeartbeats 4000000 in
theorem whole_true (A : Option Addr) (n c : Nat) (t : List Nat) (z : Int) (w : World) (ht : Rd w (.slice A n c) (bv t)) (hbt : ∀ b ∈ t, b < 256) (hz : -9223372036854775808 ≤ z ∧ z ≤ 9223372036854775807) :
    Calls Try.prog 7 #[.slice A n c, .int .i64 z] w fun e w' => e = .returned (.bool true) ∧ Below w.heap.size w w' := by
  obtain ⟨n1, hn1, hn2, hn3⟩ : ∃ k : Nat, k ≤ n ∧ k ≤ 200 ∧ min (n : Int) 200 = (k : Int) := ⟨min n 200, Nat.min_le_left _ _, Nat.min_le_right _ _, by omega⟩
  obtain ⟨k, hk1, hk2⟩ : ∃ k : Nat, k < 40 ∧ (max (0 : Int) z).tmod 40 = (k : Int) := by
    have h0 : 0 ≤ (max (0 : Int) z).tmod 40 := Int.tmod_nonneg _ (by omega)
    have h1 : (max (0 : Int) z).tmod 40 < 40 := Int.tmod_lt_of_pos _ (by omega)
    exact ⟨((max (0 : Int) z).tmod 40).toNat, by omega, by omega⟩
  obtain ⟨A1, hs1, hr1⟩ := run_upto ht hn1
  have HX : Hid (∀ b ∈ t.take n1, b < 256) := Lib.hid fun b hb => hbt b (List.mem_of_mem_take hb)
  have HNL := Lib.hid hr1.bytes
  generalize t.take n1 = ts at *
  have HR := Lib.hid hr1
  clear ht hr1 hbt
  have HC1 := Lib.hid (Pieces_is A1 n1 c ts (1 + (k : Int)) (by omega) w HR.out HX.out (by omega))
  go_enter Try.func7, Try.ntmps7
  go_wp2_with fail
  clear hk2 hs1 hn3
  refine HC1.out.mono ?_
  rintro e w1 ⟨A5, c5, ll, er, rfl, hl, -, hgood⟩
  obtain ⟨rfl, rfl⟩ := hgood (by omega)
  rw [show (1 + (k : Int)).toNat = k + 1 by omega] at hl ⊢
  have X1 := Lib.hid (And.intro hl.bel (And.intro hl.lists (HR.out.kept hl.bel)))
  have PF : Hid (∀ j q, (pieces ts (k + 1))[j]? = some q → j + 1 < (pieces ts (k + 1)).length → q.length = k + 1) := Lib.hid fun j q hq h => by
    have := pieces_full (t := ts) (m := k + 1) (by omega) h
    rw [List.getElem?_eq_getElem (by omega)] at hq
    injection hq with hq
    rwa [hq] at this
  have hpl : (pieces ts (k + 1)).length ≤ 200 := by have := pieces_len ts (m := k + 1) (by omega); have := HNL.out; omega
  have PA : Hid ((pieces ts (k + 1)).flatten.length ≤ n1 ∧ ts.drop (n1 - (pieces ts (k + 1)).flatten.length) = (pieces ts (k + 1)).flatten ∧ (2 ≤ (pieces ts (k + 1)).length → (pieces ts (k + 1)).flatten.length = n1)) := Lib.hid (by
    have := pieces_flat (t := ts) (m := k + 1) (by omega)
    rwa [← HNL.out] at this)
  clear hl hgood HC1
  generalize pieces ts (k + 1) = pp at *
  have H0 : str (flat pp 0) = ⟨#[]⟩ := rfl
  have HS0 := Lib.hid H0
  clear H0
  go_wp2
  go_loopw [8, 30] (fun v i wr => ∃ j : Nat, j ≤ pp.length ∧ i = .int .i64 j ∧ v = .string (str (flat pp j)) ∧ wr = w1) (fun _ i _ => pp.length - (intOf i).toNat)
  case atStart => exact ⟨0, by omega, rfl, by rw [HS0.out], rfl⟩
  case round =>
    obtain ⟨j, hj, rfl, rfl, rfl⟩ := hrel
    have hfl := flat_le pp j
    have hfl2 : (flat pp j).length ≤ n1 := by have := PA.out.1; omega
    by_cases hlt : j < pp.length
    · obtain ⟨b1, o1, C1, d1, rfl, y1, r1⟩ := X1.out.2.1.at_ hlt
      have s1 := run_str r1
      have hcat : str (flat pp j) ++ str pp[j] = str (flat pp (j + 1)) := by rw [str_app, flat_next hlt]
      have hxl : (pp[j]).length ≤ 200 := by have h1 := flat_le pp (j + 1); rw [flat_next hlt, List.length_append] at h1; have := PA.out.1; omega
      have hsz : (str (flat pp j)).size + (str pp[j]).size ≤ 9223372036854775807 := by rw [str_len, str_len]; omega
      have PFJ : Hid (j + 1 < pp.length → (pp[j]).length = k + 1) := Lib.hid fun h => PF.out j _ (List.getElem?_eq_getElem hlt) h
      clear r1 hfl
      generalize pp[j] = x at *
      generalize flat pp j = y at *
      generalize hY : flat pp (j + 1) = y' at *
      have HY := Lib.hid hY
      clear hY
      by_cases hl1 : j + 1 < pp.length
      · have hxk := PFJ.out hl1
        rw [hxk] at s1 y1
        have q1 : decide (j + 1 < pp.length) = true := by simpa using hl1
        have q2 : ((k : Int) + 1 != 1 + (k : Int)) = false := by simp; omega
        clear hxk PFJ
        go_wp2
        go_roundw
        case rel => exact ⟨j + 1, by omega, by go_num, by rw [HY.out], trivial⟩
        case measure => simp [intOf]; omega
      · have q1 : decide (j + 1 < pp.length) = false := by simpa using hl1
        clear PFJ
        generalize x.length = xl at *
        go_wp2
        go_roundw
        case rel => exact ⟨j + 1, by omega, by go_num, by rw [HY.out], trivial⟩
        case measure => simp [intOf]; omega
    · obtain rfl : j = pp.length := by omega
      have hall : flat pp pp.length = pp.flatten := by unfold flat; rw [List.take_length]
      rw [hall] at hfl2 ⊢
      obtain ⟨B2, c2, N2, hs2, hr2, hN2⟩ := run_from X1.out.2.2 (show n1 - pp.flatten.length ≤ n1 by omega)
      obtain rfl : N2 = pp.flatten.length := by omega
      rw [show ((n1 - pp.flatten.length : Nat) : Int) = (n1 : Int) - (pp.flatten.length : Int) by omega] at hs2
      rw [PA.out.2.1] at hr2
      have s2 := run_str hr2
      have z1 := str_len pp.flatten
      have PB : Hid (2 ≤ pp.length → pp.flatten.length = n1) := Lib.hid PA.out.2.2
      have hbn : ((str pp.flatten).toList != (str pp.flatten).toList) = false := by simp
      clear hr2 PA hall hfl
      generalize pp.flatten.length = fl at *
      generalize str pp.flatten = st at *
      by_cases h2 : pp.length < 2
      case' pos => have q1 : decide ((pp.length : Int) < 2) = true := by simp; omega
      case' neg =>
        have q1 : decide ((pp.length : Int) < 2) = false := by simp; omega
        have q2 : ((fl : Int) == (n1 : Int)) = true := by have := PB.out (by omega); simp; omega
      all_goals
        clear h2 PB
        go_wp2_with (go_at_call 12; refine (alive_true wr).mono ?_; rintro e w6 ⟨rfl, hb6⟩; have X6 := Lib.hid (X1.out.1.trans (hb6.mono X1.out.1.size)); clear hb6)
        go_ret
        exact ⟨rfl, X6.out⟩
end Go.Proofs.Ytialecghpekcnaa
