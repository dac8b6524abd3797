/-
  What all of stage 13's laws lean on: alive, great, and what a pattern's error and answer are where its things are known.
  Conditions: none.
-/
import Derived.Test.YtgocngglpdgaiaaGlCon
namespace Go.Proofs.Ytgocngglpdgaiaa
open Go.RowKit

theorem err_long {p : List Nat} (h : 1024 < p.length) : errS p = 6 := if_pos h
theorem err_bad {p : List Nat} (h : ¬ 1024 < p.length) (k : thingsS p = none) : errS p = 4 := by rw [errS, if_neg h, if_pos (by rw [k]; rfl)]
theorem err_ok {p : List Nat} {l : List Thg} (h : p.length ≤ 1024) (k : thingsS p = some l) : errS p = 0 := by rw [errS, if_neg (by omega), if_neg (by rw [k]; simp)]
theorem err_zero {p : List Nat} (h : errS p = 0) : p.length ≤ 1024 ∧ ∃ l, thingsS p = some l := by
  unfold errS at h
  by_cases h1 : 1024 < p.length
  · rw [if_pos h1] at h; omega
  · rw [if_neg h1] at h
    cases hk : thingsS p with
    | none => rw [hk] at h; simp at h
    | some l => exact ⟨by omega, l, rfl⟩
theorem ok_is {p : List Nat} {l : List Thg} (h : p.length ≤ 1024) (k : thingsS p = some l) (t : List Nat) : okS p t = likeS l t := by
  rw [okS, decide_eq_true h, k]; rfl
theorem ok_not {p : List Nat} (h : errS p ≠ 0) (t : List Nat) : okS p t = false := by
  unfold okS
  by_cases h1 : p.length ≤ 1024
  · cases hk : thingsS p with
    | none => simp
    | some l => exact absurd (err_ok h1 hk) h
  · rw [decide_eq_false h1]; rfl
theorem place_is {p : List Nat} {l : List Thg} (h : p.length ≤ 1024) (k : thingsS p = some l) (t : List Nat) (most : Int) : placeS p t most = spanS l t most := by
  rw [placeS, if_neg (by omega), k]
theorem place_not {p : List Nat} (h : errS p ≠ 0) (t : List Nat) (most : Int) : placeS p t most = none := by
  unfold placeS
  split
  · rfl
  · cases hk : thingsS p with
    | none => rfl
    | some l => exact absurd (err_ok (by omega) hk) h
theorem err_small (p : List Nat) : errS p ≤ 6 := by
  unfold errS
  split
  · omega
  · split <;> omega

theorem ThingsTo.err {w W : World} {p : List Nat} {r : Ending} (h : ThingsTo w p r W) (he : errS p ≠ 0) : r = .returned (.tuple #[.slice none 0 0, .int .i64 (errS p : Nat)]) ∧ Below w.heap.size w W := by
  obtain ⟨v, hb, h⟩ := h
  by_cases h1 : 1024 < p.length
  · rw [if_pos h1] at h
    rw [err_long h1]
    exact ⟨h, hb⟩
  · rw [if_neg h1] at h
    cases hk : thingsS p with
    | none =>
      rw [hk] at h
      rw [err_bad h1 hk]
      exact ⟨h, hb⟩
    | some l => exact absurd (err_ok (by omega) hk) he
theorem ThingsTo.ok {w W : World} {p : List Nat} {r : Ending} (h : ThingsTo w p r W) (he : errS p = 0) : ∃ v l, r = .returned (.tuple #[v, .int .i64 0]) ∧ ThR W v l ∧ thingsS p = some l ∧ l.length ≤ 1048576 ∧ Below w.heap.size w W := by
  obtain ⟨h1, l, hk⟩ := err_zero he
  obtain ⟨v, hb, h⟩ := h
  rw [if_neg (by omega), hk] at h
  have := things_len p.length p l (Nat.le_refl _) hk
  exact ⟨v, l, h.1, h.2.reads, hk, by omega, hb⟩

theorem eg1 : thingsS [97, 42, 98] = some [oneT 97, starT, oneT 98] := by simp [thingsS]
theorem eg2 : thingsS [91, 97, 45, 99, 93, 63] = some [setT [97, 45, 99], allT] := things_join (p := [91, 97, 45, 99, 93]) (q := [63]) (things_range (by omega)) things_all
theorem eg3 : thingsS [98, 42] = some [oneT 98, starT] := by simp [thingsS]
theorem eg1_ok : okS [97, 42, 98] [97, 88, 88, 98] = true := by rw [ok_is (by simp) eg1]; decide
theorem eg2_ok : okS [91, 97, 45, 99, 93, 63] [98, 122] = true := by
  rw [ok_is (by simp) eg2]
  simp [likeS, setT, set_range, allT]
theorem eg3_ok : placeS [98, 42] [120, 98, 121, 98] 9 = some 1 := by
  rw [place_is (by simp) eg3]; decide

set_option maxRecDepth 100000 in
set_option maxHeartbeats 1000000 in
theorem alive_true (w : World) : Calls Try.prog 10 #[] w fun e w' => e = .returned (.bool true) ∧ Below w.heap.size w w' := by
  have e1 : str [97, 42, 98] = ⟨#[97, 42, 98]⟩ := rfl
  have e2 : str [97, 88, 88, 98] = ⟨#[97, 88, 88, 98]⟩ := rfl
  have e3 : str [91, 97, 45, 99, 93, 63] = ⟨#[91, 97, 45, 99, 93, 63]⟩ := rfl
  have e4 : str [98, 122] = ⟨#[98, 122]⟩ := rfl
  have e5 : str [98, 42] = ⟨#[98, 42]⟩ := rfl
  have e6 : str [120, 98, 121, 98] = ⟨#[120, 98, 121, 98]⟩ := rfl
  have H1 := Lib.hid (Match_is [97, 42, 98] [97, 88, 88, 98] (by simp) (by simp) (by simp) (by simp))
  have H2 := Lib.hid (Match_is [91, 97, 45, 99, 93, 63] [98, 122] (by simp) (by simp) (by simp) (by simp))
  have H3 := Lib.hid (Span_is [98, 42] [120, 98, 121, 98] (by simp) (by simp) (by simp) (by simp) 9 (by omega))
  rw [e1, e2, eg1_ok, err_ok (by simp) eg1] at H1
  rw [e3, e4, eg2_ok, err_ok (by simp) eg2] at H2
  have e7 : spanE (some 1) 0 = .tuple #[.int .i64 1, .bool true, .int .i64 0] := rfl
  rw [e5, e6, eg3_ok, err_ok (by simp) eg3, e7] at H3
  clear e1 e2 e3 e4 e5 e6 e7
  go_enter Try.func10, Try.ntmps10
  go_wp2_with fail
  refine (H1.out w).mono ?_
  rintro e w1 ⟨rfl, hb1⟩
  have X1 := Lib.hid hb1
  clear hb1 H1
  go_wp2_with fail
  refine (H2.out w1).mono ?_
  rintro e w2 ⟨rfl, hb2⟩
  have X2 := Lib.hid (X1.out.trans (hb2.mono X1.out.size))
  clear hb2 H2 X1
  go_wp2_with fail
  refine (H3.out w2).mono ?_
  rintro e w3 ⟨rfl, hb3⟩
  have X3 := Lib.hid (X2.out.trans (hb3.mono X2.out.size))
  clear hb3 H3 X2
  go_wp2_with fail
  go_ret
  exact ⟨rfl, X3.out⟩

/-- Match, of a pattern whose things are known. -/
theorem match_known {p t : List Nat} {l : List Thg} (hp : ∀ c ∈ p, c < 256) (hn : p.length ≤ 1024) (hk : thingsS p = some l) (ht : ∀ c ∈ t, c < 256) (hm : t.length ≤ 140737488351232) (W : World) :
    Calls Try.prog 13 #[.string (str p), .string (str t)] W fun r w' => r = .returned (.tuple #[.bool (likeS l t), .int .i64 0]) ∧ Below W.heap.size W w' := by
  have h := Match_is p t hp (by omega) ht hm W
  rw [ok_is hn hk, err_ok hn hk] at h
  exact h
theorem bytes_app {l m : List Nat} (h : ∀ d ∈ l, d < 256) (k : ∀ d ∈ m, d < 256) : ∀ d ∈ l ++ m, d < 256 := fun d hd => by
  rcases List.mem_append.1 hd with hd | hd
  · exact h d hd
  · exact k d hd
theorem byte_one {c : Nat} (h : c < 256) : ∀ d ∈ [c], d < 256 := fun d hd => by
  rw [List.mem_singleton.1 hd]; exact h

theorem great_is (p t : List Nat) (hn : p.length ≤ 140737488351232) (hm : t.length ≤ 140737488351232) (w : World) :
    Calls Try.prog 11 #[.string (str p), .string (str t)] w fun e w' => e = .returned (.bool (decide (120 < t.length ∨ 60 < p.length ∧ p.length ≤ 1024))) ∧ w = w' := by
  have h1 := str_len p
  have h2 := str_len t
  go_enter Try.func11, Try.ntmps11
  by_cases k1 : 120 < t.length
  · go_wp2_with fail
    go_ret
    exact ⟨ret_bool (by simp), rfl⟩
  · by_cases k2 : 60 < p.length
    · by_cases k3 : p.length ≤ 1024
      · go_wp2_with fail
        go_ret
        exact ⟨ret_bool (by rw [Bool.eq_iff_iff]; simp <;> omega), rfl⟩
      · go_wp2_with fail
        go_ret
        exact ⟨ret_bool (by rw [Bool.eq_iff_iff]; simp <;> omega), rfl⟩
    · go_wp2_with fail
      go_ret
      exact ⟨ret_bool (by rw [Bool.eq_iff_iff]; simp <;> omega), rfl⟩
end Go.Proofs.Ytgocngglpdgaiaa
