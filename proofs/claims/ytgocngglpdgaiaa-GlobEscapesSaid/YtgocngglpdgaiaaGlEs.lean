/-
  The law GlobEscapes.
  Conditions: strings of at most 140737488351232 bytes.
-/
import Derived.Test.YtgocngglpdgaiaaGlLaw
namespace Go.Proofs.Ytgocngglpdgaiaa
open Go.RowKit

theorem esc_ok (t u : List Nat) (h : t.length ≤ 60) : okS (escS t) u = decide (u = t) := by
  rw [ok_is (by have := esc_len t; omega) (things_esc t), Bool.eq_iff_iff, like_text]
  simp
theorem esc_wide (a t b : List Nat) : (a ++ t ++ b = t) ↔ a.length + b.length = 0 := by
  constructor
  · intro h
    have := congrArg List.length h
    simp at this
    omega
  · intro h
    have h1 : a = [] := List.eq_nil_of_length_eq_zero (by omega)
    have h2 : b = [] := List.eq_nil_of_length_eq_zero (by omega)
    simp [h1, h2]
theorem esc_stars (t : List Nat) : thingsS ([42] ++ escS t ++ [42]) = some ([starT] ++ t.map oneT ++ [starT]) := things_join (things_join things_star (things_esc t)) things_star
theorem esc_small (t : List Nat) (h : ∀ d ∈ t, d < 256) : ∀ d ∈ escS t, d < 256 := by
  intro d hd
  unfold escS at hd
  obtain ⟨c, hc, hd⟩ := List.mem_flatMap.1 hd
  have := h c hc
  split at hd
  · simp at hd; omega
  · simp at hd; omega

set_option maxRecDepth 100000 in
set_option maxHeartbeats 2000000 in
theorem escapes_true (la lt lb : List Nat) (w : World) (ha : ∀ d ∈ la, d < 256) (ht : ∀ d ∈ lt, d < 256) (hb : ∀ d ∈ lb, d < 256) (hna : la.length ≤ 140737488351232) (hnt : lt.length ≤ 140737488351232) (hnb : lb.length ≤ 140737488351232) :
    Calls Try.prog 5 #[.string (str la), .string (str lt), .string (str lb)] w fun e w' => e = .returned (.bool true) ∧ Below w.heap.size w w' := by
  have hs1 := str_len la
  have hs2 := str_len lt
  have hs3 := str_len lb
  have b1 : ∀ d ∈ la.take 60, d < 256 := fun d hd => ha d (List.mem_of_mem_take hd)
  have b2 : ∀ d ∈ lt.take 60, d < 256 := fun d hd => ht d (List.mem_of_mem_take hd)
  have b3 : ∀ d ∈ lb.take 60, d < 256 := fun d hd => hb d (List.mem_of_mem_take hd)
  have n1 : (la.take 60).length ≤ 60 := by rw [List.length_take]; omega
  have n2 : (lt.take 60).length ≤ 60 := by rw [List.length_take]; omega
  have n3 : (lb.take 60).length ≤ 60 := by rw [List.length_take]; omega
  have HB := Lib.hid (And.intro b1 (And.intro b2 b3))
  clear ha ht hb b1 b2 b3
  go_enter Try.func5, Try.ntmps5
  go_wp2_with fail
  go_quiet (fail)
  simp only [strg_min60]
  generalize la.take 60 = a at *
  generalize lt.take 60 = t at *
  generalize lb.take 60 = b at *
  obtain ⟨b1, b2, b3⟩ := HB.out
  have X0 := Lib.hid (drewG_below w nq)
  generalize w.drewN nq = w0 at *
  clear hs1 hs2 hs3 hna hnt hnb
  have hs1 := str_len a
  have hs2 := str_len t
  have hs3 := str_len b
  have hel := esc_len t
  have HE := Lib.hid (Escape_is t b2 (by omega))
  have be := esc_small t b2
  have bab : ∀ d ∈ a ++ t, d < 256 := fun d hd => by
    rcases List.mem_append.1 hd with h | h
    · exact b1 d h
    · exact b2 d h
  have batb : ∀ d ∈ a ++ t ++ b, d < 256 := fun d hd => by
    rcases List.mem_append.1 hd with h | h
    · exact bab d h
    · exact b3 d h
  have bst : ∀ d ∈ [42] ++ escS t ++ [42], d < 256 := fun d hd => by
    simp only [List.mem_append, List.mem_singleton] at hd
    rcases hd with (rfl | h) | rfl
    · omega
    · exact be d h
    · omega
  have H1 : Hid (∀ W, Calls Try.prog 13 #[.string (str (escS t)), .string (str t)] W fun r w' => r = .returned (.tuple #[.bool true, .int .i64 0]) ∧ Below W.heap.size W w') := Lib.hid fun W => by
    have h := Match_is (escS t) t be (by omega) b2 (by omega) W
    rw [esc_ok t t n2, err_ok (by omega) (things_esc t), decide_eq_true rfl] at h
    exact h
  have H2 : Hid (∀ W, Calls Try.prog 13 #[.string (str (escS t)), .string (str a ++ str t ++ str b)] W fun r w' => r = .returned (.tuple #[.bool (decide (a.length + b.length = 0)), .int .i64 0]) ∧ Below W.heap.size W w') := Lib.hid fun W => by
    have h := Match_is (escS t) (a ++ t ++ b) be (by omega) batb (by simp; omega) W
    rw [esc_ok t _ n2, err_ok (by omega) (things_esc t), decide_eq_decide.2 (esc_wide a t b)] at h
    rw [str_app, str_app]
    exact h
  have H3 : Hid (∀ W, Calls Try.prog 13 #[.string (⟨#[42]⟩ ++ str (escS t) ++ ⟨#[42]⟩), .string (str a ++ str t ++ str b)] W fun r w' => r = .returned (.tuple #[.bool true, .int .i64 0]) ∧ Below W.heap.size W w') := Lib.hid fun W => by
    have h := Match_is ([42] ++ escS t ++ [42]) (a ++ t ++ b) bst (by simp; omega) batb (by simp; omega) W
    rw [ok_is (by simp; omega) (esc_stars t), err_ok (by simp; omega) (esc_stars t), show [starT] ++ t.map oneT ++ [starT] = starT :: (t.map oneT ++ [starT]) from rfl, like_escape_in] at h
    rw [show (⟨#[42]⟩ : ByteArray) = str [42] from rfl, str_app, str_app, str_app, str_app]
    exact h
  have H4 : Hid (∀ W, Calls Try.prog 16 #[.string (str (escS t)), .string (str a ++ str t), .int .i64 (t.length : Nat)] W fun r w' => r = .returned (.tuple #[.int .i64 (a.length : Nat), .bool true, .int .i64 0]) ∧ Below W.heap.size W w') := Lib.hid fun W => by
    have h := Span_is (escS t) (a ++ t) be (by omega) bab (by simp; omega) (t.length : Nat) (by omega) W
    rw [place_is (by omega) (things_esc t), err_ok (by omega) (things_esc t), span_text, show spanE (some a.length) 0 = .tuple #[.int .i64 (a.length : Nat), .bool true, .int .i64 0] from rfl] at h
    rw [str_app]
    exact h
  obtain ⟨q, hq⟩ : ∃ q, q = decide (a.length + b.length = 0) := ⟨_, rfl⟩
  rw [← hq] at H2
  have hq2 : q = decide ((a.length : Int) + (b.length : Int) = 0) := hq.trans (decide_eq_decide.2 (by omega))
  have HQ := Lib.hid hq2
  clear hq hq2
  have hE : (str (escS t)).size ≤ 120 := by rw [str_len]; omega
  clear hel
  generalize str (escS t) = E at *
  clear be bab batb bst
  go_wp2_with fail
  refine (HE.out w0).mono ?_
  rintro e w1 ⟨rfl, hb1⟩
  have X1 := Lib.hid (X0.out.trans (hb1.mono X0.out.size))
  clear hb1 X0 HE
  go_wp2_with fail
  refine (H1.out w1).mono ?_
  rintro e w2 ⟨rfl, hb2⟩
  have X2 := Lib.hid (X1.out.trans (hb2.mono X1.out.size))
  clear hb2 X1 H1
  go_wp2_with fail
  refine (H2.out w2).mono ?_
  rintro e w3 ⟨rfl, hb3⟩
  have X3 := Lib.hid (X2.out.trans (hb3.mono X2.out.size))
  clear hb3 X2 H2
  go_wp2_with fail
  refine (H3.out w3).mono ?_
  rintro e w4 ⟨rfl, hb4⟩
  have X4 := Lib.hid (X3.out.trans (hb4.mono X3.out.size))
  clear hb4 X3 H3
  go_wp2_with fail
  refine (H4.out w4).mono ?_
  rintro e w5 ⟨rfl, hb5⟩
  have X5 := Lib.hid (X4.out.trans (hb5.mono X4.out.size))
  clear hb5 X4 H4
  go_wp2_with fail
  refine (alive_true w5).mono ?_
  rintro e w6 ⟨rfl, hb6⟩
  have X6 := Lib.hid (X5.out.trans (hb6.mono X5.out.size))
  clear hb6 X5
  go_wp2_with fail
  all_goals
    go_ret
    refine ⟨ret_bool ?_, X6.out⟩
    have hq := HQ.out
    try simp_all
  done
end Go.Proofs.Ytgocngglpdgaiaa
