/-
  The law GlobMore.
  Conditions: strings of at most 140737488351232 bytes.
-/
import Derived.Test.YtgocngglpdgaiaaGlLaw
namespace Go.Proofs.Ytgocngglpdgaiaa
open Go.RowKit

set_option maxRecDepth 100000 in
set_option maxHeartbeats 4000000 in
theorem more_true (p lt lm : List Nat) (w : World) (hp : ∀ d ∈ p, d < 256) (ht : ∀ d ∈ lt, d < 256) (hm : ∀ d ∈ lm, d < 256) (hnp : p.length ≤ 140737488351232) (hnt : lt.length ≤ 140737488351232) (hnm : lm.length ≤ 140737488351232) :
    Calls Try.prog 8 #[.string (str p), .string (str lt), .string (str lm)] w fun e w' => e = .returned (.bool true) ∧ Below w.heap.size w w' := by
  have hs0 := str_len p
  have hs1 := str_len lt
  have hs2 := str_len lm
  have b1 : ∀ d ∈ lt.take 40, d < 256 := fun d hd => ht d (List.mem_of_mem_take hd)
  have b2 : ∀ d ∈ lm.take 40, d < 256 := fun d hd => hm d (List.mem_of_mem_take hd)
  have n1 : (lt.take 40).length ≤ 40 := by rw [List.length_take]; omega
  have n2 : (lm.take 40).length ≤ 40 := by rw [List.length_take]; omega
  have HB := Lib.hid (And.intro b1 b2)
  have HP := Lib.hid hp
  have HC := Lib.hid (Check_is p hp (by omega))
  have h6 := err_small p
  clear ht hm b1 b2 hp
  go_enter Try.func8, Try.ntmps8
  go_wp2_with fail
  go_quiet (fail)
  simp only [strg_min40]
  generalize lt.take 40 = t at *
  generalize lm.take 40 = m at *
  obtain ⟨b1, b2⟩ := HB.out
  have X0 := Lib.hid (drewG_below w nq)
  generalize w.drewN nq = w0 at *
  clear hs1 hs2 hnt hnm HB
  have hs1 := str_len t
  have hs2 := str_len m
  go_wp2_with fail
  refine (alive_true w0).mono ?_
  rintro e w1 ⟨rfl, hb1⟩
  have X1 := Lib.hid (X0.out.trans (hb1.mono X0.out.size))
  clear hb1 X0
  by_cases hbig : 60 < p.length
  · go_wp2_with fail
    refine (alive_true w1).mono ?_
    rintro e w2 ⟨rfl, hb2⟩
    have X2 := Lib.hid (X1.out.trans (hb2.mono X1.out.size))
    clear hb2 X1
    go_wp2_with fail
    go_ret
    exact ⟨rfl, X2.out⟩
  by_cases he : errS p = 0
  · rw [he] at HC
    obtain ⟨hle, l, hk⟩ := err_zero he
    obtain ⟨q, hq⟩ : ∃ q, q = likeS l t := ⟨_, rfl⟩
    obtain ⟨r2, hr2⟩ : ∃ r, r = likeS (l ++ [starT]) (t ++ m) := ⟨_, rfl⟩
    obtain ⟨r4, hr4⟩ : ∃ r, r = likeS (starT :: l) (m ++ t) := ⟨_, rfl⟩
    have H1 : Hid (∀ W, Calls Try.prog 13 #[.string (str p), .string (str t)] W fun r w' => r = .returned (.tuple #[.bool q, .int .i64 0]) ∧ Below W.heap.size W w') := Lib.hid fun W => by
      rw [hq]; exact match_known HP.out hle hk b1 (by omega) W
    have H2 : Hid (∀ W, Calls Try.prog 13 #[.string (str p ++ ⟨#[42]⟩), .string (str t ++ str m)] W fun r w' => r = .returned (.tuple #[.bool r2, .int .i64 0]) ∧ Below W.heap.size W w') := Lib.hid fun W => by
      rw [hr2, show (⟨#[42]⟩ : ByteArray) = str [42] from rfl, str_app, str_app]
      exact match_known (bytes_app HP.out (byte_one (by omega))) (by simp; omega) (things_join hk things_star) (bytes_app b1 b2) (by simp; omega) W
    have H3 : Hid (∀ W, Calls Try.prog 13 #[.string (str p ++ ⟨#[63]⟩), .string (str t ++ ⟨#[120]⟩)] W fun r w' => r = .returned (.tuple #[.bool q, .int .i64 0]) ∧ Below W.heap.size W w') := Lib.hid fun W => by
      rw [hq, ← like_all_behind (l := l) (t := t) 120, show (⟨#[63]⟩ : ByteArray) = str [63] from rfl, show (⟨#[120]⟩ : ByteArray) = str [120] from rfl, str_app, str_app]
      exact match_known (bytes_app HP.out (byte_one (by omega))) (by simp; omega) (things_join hk things_all) (bytes_app b1 (byte_one (by omega))) (by simp; omega) W
    have H4 : Hid (∀ W, Calls Try.prog 13 #[.string (⟨#[42]⟩ ++ str p), .string (str m ++ str t)] W fun r w' => r = .returned (.tuple #[.bool r4, .int .i64 0]) ∧ Below W.heap.size W w') := Lib.hid fun W => by
      rw [hr4, show (⟨#[42]⟩ : ByteArray) = str [42] from rfl, str_app, str_app]
      exact match_known (bytes_app (byte_one (by omega)) HP.out) (by simp; omega) (things_join things_star hk) (bytes_app b2 b1) (by simp; omega) W
    have HQ : Hid (q = true → r2 = true ∧ r4 = true) := Lib.hid fun h => by
      rw [hq] at h
      rw [hr2, hr4]
      exact ⟨like_star_behind m h, like_star_ahead m h⟩
    clear hq hr2 hr4 hk he
    go_wp2_with fail
    refine (HC.out w1).mono ?_
    rintro e w2 ⟨rfl, hb2⟩
    have X2 := Lib.hid (X1.out.trans (hb2.mono X1.out.size))
    clear hb2 X1
    go_wp2_with fail
    refine (H1.out w2).mono ?_
    rintro e w3 ⟨rfl, hb3⟩
    have X3 := Lib.hid (X2.out.trans (hb3.mono X2.out.size))
    clear hb3 X2 H1
    go_wp2_with fail
    refine (H2.out w3).mono ?_
    rintro e w4 ⟨rfl, hb4⟩
    have X4 := Lib.hid (X3.out.trans (hb4.mono X3.out.size))
    clear hb4 X3 H2
    go_wp2_with fail
    refine (H3.out w4).mono ?_
    rintro e w5 ⟨rfl, hb5⟩
    have X5 := Lib.hid (X4.out.trans (hb5.mono X4.out.size))
    clear hb5 X4 H3
    go_wp2_with fail
    refine (H4.out w5).mono ?_
    rintro e w6 ⟨rfl, hb6⟩
    have X6 := Lib.hid (X5.out.trans (hb6.mono X5.out.size))
    clear hb6 X5 H4
    cases q with
    | true =>
      obtain ⟨rfl, rfl⟩ := HQ.out rfl
      go_wp2_with fail
      all_goals
        go_ret
        exact ⟨rfl, X6.out⟩
    | false =>
      clear HQ
      go_wp2_with fail
      all_goals
        go_ret
        exact ⟨rfl, X6.out⟩
  · generalize errS p = q at *
    have he2 : ¬ (q : Int) = 0 := by omega
    have he3 : ((q : Int) != 0) = true := by simpa using he2
    go_wp2_with fail
    refine (HC.out w1).mono ?_
    rintro e w2 ⟨rfl, hb2⟩
    have X2 := Lib.hid (X1.out.trans (hb2.mono X1.out.size))
    clear hb2 X1
    go_wp2_with fail
    refine (alive_true w2).mono ?_
    rintro e w3 ⟨rfl, hb3⟩
    have X3 := Lib.hid (X2.out.trans (hb3.mono X2.out.size))
    clear hb3 X2
    go_wp2_with fail
    go_ret
    exact ⟨rfl, X3.out⟩
end Go.Proofs.Ytgocngglpdgaiaa
