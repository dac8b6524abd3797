/-
  The law GlobSets.
  Conditions: strings of at most 140737488351232 bytes.
-/
import Derived.Test.YtgocngglpdgaiaaGlLaw
namespace Go.Proofs.Ytgocngglpdgaiaa
open Go.RowKit

/-- string([]byte{..}). -/
theorem lit_str (l : List Nat) (h0 : 0 < l.length) (h1 : l.length ≤ 65536) (W : World) : (convert 40 9 (.slice (some ⟨W.heap.size, 0, none⟩) l.length l.length)).run Try.prog (W.alloc (.cells (bv l).toArray 5)) = .ok (.string (str l)) (W.alloc (.cells (bv l).toArray 5)) := by
  have h := (Row.new W 5 (bv l).toArray l.length (by simp [bv_len]) (by simp only [maxLen]; omega) h0 (fun u hu => bv_one l u (by simpa using hu))).rd
  exact run_str h

theorem beq_num (a b : Nat) : ((a : Int) == (b : Int)) = decide (a = b) := by
  rw [Bool.eq_iff_iff]
  simp
  omega
theorem two_eq (c lo hi : Nat) : ((decide (c = lo) || decide (c = hi)) == (((c : Int) == (lo : Int)) || ((c : Int) == (hi : Int)))) = true := by
  rw [beq_num, beq_num]
  simp

set_option maxRecDepth 100000 in
set_option maxHeartbeats 4000000 in
theorem sets_true (lo hi c : Nat) (lt : List Nat) (w : World) (h1 : lo < 256) (h2 : hi < 256) (h3 : c < 256) (ht : ∀ d ∈ lt, d < 256) (hnt : lt.length ≤ 140737488351232) :
    Calls Try.prog 7 #[.agg #[.int .u8 (lo : Nat), .int .u8 (hi : Nat), .int .u8 (c : Nat)], .string (str lt)] w fun e w' => e = .returned (.bool true) ∧ Below w.heap.size w w' := by
  have HT := Lib.hid ht
  have hs := str_len lt
  clear ht
  go_enter Try.func7, Try.ntmps7
  go_wp2_with fail
  have k := Blk.new w 39 #[.int .u8 (lo : Nat), .int .u8 (hi : Nat), .int .u8 (c : Nat)]
  have k0 := k.cell 0
  have k1 := k.cell 1
  have k2 := k.cell 2
  simp at k0 k1 k2
  clear k
  go_quiet (fail)
  have X0 : Hid (Below w.heap.size w ((w.alloc (.cells #[.int .u8 (lo : Nat), .int .u8 (hi : Nat), .int .u8 (c : Nat)] 39)).drewN nq)) :=
    Lib.hid (((Below.refl _ w).alloc (Nat.le_refl _) _).trans ((drewG_below _ nq).mono (by simp)))
  generalize ((w.alloc (.cells #[.int .u8 (lo : Nat), .int .u8 (hi : Nat), .int .u8 (c : Nat)] 39)).drewN nq) = w0 at *
  clear k0 k1 k2
  by_cases hbad : lo = 93 ∨ hi = 93 ∨ lo = 92
  · have HA := Lib.hid (alive_true w0)
    by_cases q1 : lo = 93
    · subst q1
      go_wp2_with fail
      refine HA.out.mono ?_
      rintro e w1 ⟨rfl, hb1⟩
      have X1 := Lib.hid (X0.out.trans (hb1.mono X0.out.size))
      clear hb1
      go_wp2_with fail
      go_ret
      exact ⟨rfl, X1.out⟩
    · have r1 : ((lo : Int) == 93) = false := by simp; omega
      by_cases q2 : hi = 93
      · subst q2
        go_wp2_with fail
        refine HA.out.mono ?_
        rintro e w1 ⟨rfl, hb1⟩
        have X1 := Lib.hid (X0.out.trans (hb1.mono X0.out.size))
        clear hb1
        go_wp2_with fail
        go_ret
        exact ⟨rfl, X1.out⟩
      · have r2 : ((hi : Int) == 93) = false := by simp; omega
        obtain rfl : lo = 92 := by omega
        go_wp2_with fail
        refine HA.out.mono ?_
        rintro e w1 ⟨rfl, hb1⟩
        have X1 := Lib.hid (X0.out.trans (hb1.mono X0.out.size))
        clear hb1
        go_wp2_with fail
        go_ret
        exact ⟨rfl, X1.out⟩
  have r1 : ((lo : Int) == 93) = false := by simp; omega
  have r2 : ((hi : Int) == 93) = false := by simp; omega
  have r3 : ((lo : Int) == 92) = false := by simp; omega
  have hh : hi ≠ 93 := by omega
  have kc1 : ∀ W : World, (convert 40 9 (.slice (some ⟨W.heap.size, 0, none⟩) 1 1)).run Try.prog (W.alloc (.cells #[.int .u8 (c : Nat)] 5)) = .ok (.string (str [c])) (W.alloc (.cells #[.int .u8 (c : Nat)] 5)) := fun W => lit_str [c] (by simp) (by simp) W
  have kc2 : ∀ W : World, (convert 40 9 (.slice (some ⟨W.heap.size, 0, none⟩) 2 2)).run Try.prog (W.alloc (.cells #[.int .u8 (lo : Nat), .int .u8 (hi : Nat)] 5)) = .ok (.string (str [lo, hi])) (W.alloc (.cells #[.int .u8 (lo : Nat), .int .u8 (hi : Nat)] 5)) := fun W => lit_str [lo, hi] (by simp) (by simp) W
  have kc3 : ∀ W : World, (convert 40 9 (.slice (some ⟨W.heap.size, 0, none⟩) 3 3)).run Try.prog (W.alloc (.cells #[.int .u8 (lo : Nat), .int .u8 45, .int .u8 (hi : Nat)] 5)) = .ok (.string (str [lo, 45, hi])) (W.alloc (.cells #[.int .u8 (lo : Nat), .int .u8 45, .int .u8 (hi : Nat)] 5)) := fun W => lit_str [lo, 45, hi] (by simp) (by simp) W
  have kc3 := kc3 (w0.alloc (.cells #[.int .u8 (c : Nat)] 5))
  rw [show (w0.alloc (.cells #[.int .u8 (c : Nat)] 5)).heap.size = w0.heap.size + 1 by simp] at kc3
  have z1 := str_len [c]
  have z2 := str_len [lo, hi]
  have z3 := str_len [lo, 45, hi]
  obtain ⟨q, hq⟩ : ∃ q, q = decide (lo ≤ c ∧ c ≤ hi) := ⟨_, rfl⟩
  obtain ⟨r0, hr⟩ : ∃ r, r = (decide (c = lo) || decide (c = hi)) := ⟨_, rfl⟩
  have bc : ∀ d ∈ [c], d < 256 := byte_one h3
  have H1 : Hid (∀ W, Calls Try.prog 13 #[.string (⟨#[91]⟩ ++ str [lo, 45, hi] ++ ⟨#[93]⟩), .string (str [c])] W fun r w' => r = .returned (.tuple #[.bool q, .int .i64 0]) ∧ Below W.heap.size W w') := Lib.hid fun W => by
    have h := match_known (p := [91, lo, 45, hi, 93]) (t := [c]) (by simp; omega) (by simp) (things_range hh) bc (by simp) W
    rw [like_single rfl, show (setT [lo, 45, hi]).one c = setS [lo, 45, hi] c from rfl, set_range, ← hq] at h
    rw [show (⟨#[91]⟩ : ByteArray) = str [91] from rfl, show (⟨#[93]⟩ : ByteArray) = str [93] from rfl, str_app, str_app]
    exact h
  have H2 : Hid (∀ W, Calls Try.prog 13 #[.string ⟨#[63]⟩, .string (str [c])] W fun r w' => r = .returned (.tuple #[.bool true, .int .i64 0]) ∧ Below W.heap.size W w') := Lib.hid fun W => by
    have h := match_known (p := [63]) (t := [c]) (by simp) (by simp) things_all bc (by simp) W
    rw [like_single rfl] at h
    exact h
  have H3 : Hid (∀ W, Calls Try.prog 13 #[.string ⟨#[42]⟩, .string (str lt)] W fun r w' => r = .returned (.tuple #[.bool true, .int .i64 0]) ∧ Below W.heap.size W w') := Lib.hid fun W => by
    have h := match_known (p := [42]) (t := lt) (by simp) (by simp) things_star HT.out (by omega) W
    rw [like_star_alone] at h
    exact h
  have H4 : Hid (∀ W, Calls Try.prog 13 #[.string (⟨#[91]⟩ ++ str [lo, hi] ++ ⟨#[93]⟩), .string (str [c])] W fun r w' => r = .returned (.tuple #[.bool r0, .int .i64 0]) ∧ Below W.heap.size W w') := Lib.hid fun W => by
    have h := match_known (p := [91, lo, hi, 93]) (t := [c]) (by simp; omega) (by simp) (things_two hh) bc (by simp) W
    rw [like_single rfl, show (setT [lo, hi]).one c = setS [lo, hi] c from rfl, set_two, ← hr] at h
    rw [show (⟨#[91]⟩ : ByteArray) = str [91] from rfl, show (⟨#[93]⟩ : ByteArray) = str [93] from rfl, str_app, str_app]
    exact h
  generalize str [c] = C at *
  generalize str [lo, 45, hi] = R at *
  generalize str [lo, hi] = T at *
  clear bc hh hs
  go_wp2_with fail
  refine (H1.out _).mono ?_
  rintro e w1 ⟨rfl, hb1⟩
  have X1 := Lib.hid (X0.out.trans (((((Below.refl _ w0).alloc (Nat.le_refl _) (.cells #[.int .u8 (c : Nat)] 5)).alloc (by simp) (.cells #[.int .u8 (lo : Nat), .int .u8 45, .int .u8 (hi : Nat)] 5)).trans (hb1.mono (by simp; omega))).mono X0.out.size))
  clear hb1 X0 H1 kc1 kc3
  go_wp2_with fail
  refine (H2.out w1).mono ?_
  rintro e w2 ⟨rfl, hb2⟩
  have X2 := Lib.hid (X1.out.trans (hb2.mono X1.out.size))
  clear hb2 X1 H2
  go_wp2_with fail
  refine (H3.out w2).mono ?_
  rintro e w3 ⟨rfl, hb3⟩
  have X3 := Lib.hid (X2.out.trans (hb3.mono X2.out.size))
  clear hb3 X2 H3
  go_wp2_with fail
  refine (H4.out _).mono ?_
  rintro e w4 ⟨rfl, hb4⟩
  have X4 := Lib.hid (X3.out.trans ((((Below.refl _ w3).alloc (Nat.le_refl _) (.cells #[.int .u8 (lo : Nat), .int .u8 (hi : Nat)] 5)).trans (hb4.mono (by simp))).mono X3.out.size))
  clear hb4 X3 H4 kc2
  go_wp2_with fail
  all_goals
    refine (alive_true w4).mono ?_
    rintro e w5 ⟨rfl, hb5⟩
    have X5 := Lib.hid (X4.out.trans (hb5.mono X4.out.size))
    clear hb5 X4
    go_wp2_with fail
    all_goals
      go_ret
      refine ⟨ret_bool ?_, X5.out⟩
      first
        | exact two_eq c lo hi
        | (simp; omega)
        | (simp_all; done)
end Go.Proofs.Ytgocngglpdgaiaa
