/-
  The law GlobStars.
  Conditions: strings of at most 140737488351232 bytes.
-/
import Derived.Test.YtgocngglpdgaiaaGlLaw
namespace Go.Proofs.Ytgocngglpdgaiaa
open Go.RowKit

set_option maxRecDepth 100000 in
set_option maxHeartbeats 4000000 in
theorem stars_true (p q lt : List Nat) (z : Int) (w : World) (hp : ∀ d ∈ p, d < 256) (hq : ∀ d ∈ q, d < 256) (ht : ∀ d ∈ lt, d < 256) (hnp : p.length ≤ 9223372036854775807) (hnq : q.length ≤ 9223372036854775807) (hnt : lt.length ≤ 140737488351232)
    (hz : -9223372036854775808 ≤ z ∧ z ≤ 9223372036854775807) :
    Calls Try.prog 9 #[.agg #[.string (str p), .string (str q)], .string (str lt), .int .i64 z] w fun e w' => e = .returned (.bool true) ∧ Below w.heap.size w w' := by
  have hs0 := str_len p
  have hs3 := str_len q
  have hs1 := str_len lt
  have b1 : ∀ d ∈ lt.take 40, d < 256 := fun d hd => ht d (List.mem_of_mem_take hd)
  have n1 : (lt.take 40).length ≤ 40 := by rw [List.length_take]; omega
  have HB := Lib.hid b1
  have HP := Lib.hid hp
  have HQ := Lib.hid hq
  have HCp := Lib.hid (Check_is p hp (by omega))
  have HCq := Lib.hid (Check_is q hq (by omega))
  have h6 := err_small p
  have h7 := err_small q
  clear ht b1 hp hq
  go_enter Try.func9, Try.ntmps9
  go_wp2_with fail
  have k := Blk.new w 42 #[.string (str p), .string (str q)]
  have k0 := k.cell 0
  have k1 := k.cell 1
  simp at k0 k1
  clear k
  go_quiet (fail)
  have X0 : Hid (Below w.heap.size w ((w.alloc (.cells #[.string (str p), .string (str q)] 42)).drewN nq)) :=
    Lib.hid (((Below.refl _ w).alloc (Nat.le_refl _) _).trans ((drewG_below _ nq).mono (by simp)))
  generalize ((w.alloc (.cells #[.string (str p), .string (str q)] 42)).drewN nq) = w0 at *
  clear k0 k1
  go_wp2_with fail
  simp only [strg_min40]
  generalize lt.take 40 = t at *
  obtain ⟨k, hk, hkz⟩ : ∃ k : Nat, k < 45 ∧ max 0 z % 45 = (k : Int) := ⟨(max 0 z % 45).toNat, by omega, by omega⟩
  simp only [hkz]
  clear hs1 hnt hz hkz
  have hs1 := str_len t
  refine (alive_true w0).mono ?_
  rintro e w1 ⟨rfl, hb1⟩
  have X1 := Lib.hid (X0.out.trans (hb1.mono X0.out.size))
  clear hb1 X0
  by_cases hbp : 30 < p.length
  · go_wp2_with fail
    refine (alive_true w1).mono ?_
    rintro e w2 ⟨rfl, hb2⟩
    have X2 := Lib.hid (X1.out.trans (hb2.mono X1.out.size))
    clear hb2 X1 
    go_wp2_with fail
    go_ret
    exact ⟨rfl, X2.out⟩
  by_cases hbq : 30 < q.length
  · go_wp2_with fail
    refine (alive_true w1).mono ?_
    rintro e w2 ⟨rfl, hb2⟩
    have X2 := Lib.hid (X1.out.trans (hb2.mono X1.out.size))
    clear hb2 X1 
    go_wp2_with fail
    go_ret
    exact ⟨rfl, X2.out⟩
  by_cases hep : errS p = 0
  case neg =>
    generalize errS p = ep at *
    have he2 : ¬ (ep : Int) = 0 := by omega
    have he3 : ((ep : Int) != 0) = true := by simpa using he2
    go_wp2_with fail
    refine (HCp.out w1).mono ?_
    rintro e w2 ⟨rfl, hb2⟩
    have X2 := Lib.hid (X1.out.trans (hb2.mono X1.out.size))
    clear hb2 X1 
    go_wp2_with fail
    refine (alive_true w2).mono ?_
    rintro e w3 ⟨rfl, hb3⟩
    have X3 := Lib.hid (X2.out.trans (hb3.mono X2.out.size))
    clear hb3 X2 
    go_wp2_with fail
    go_ret
    exact ⟨rfl, X3.out⟩
  rw [hep] at HCp
  by_cases heq : errS q = 0
  case neg =>
    generalize errS q = eq at *
    have he2 : ¬ (eq : Int) = 0 := by omega
    have he3 : ((eq : Int) != 0) = true := by simpa using he2
    go_wp2_with fail
    refine (HCp.out w1).mono ?_
    rintro e w2 ⟨rfl, hb2⟩
    have X2 := Lib.hid (X1.out.trans (hb2.mono X1.out.size))
    clear hb2 X1 
    go_wp2_with fail
    refine (HCq.out w2).mono ?_
    rintro e w3 ⟨rfl, hb3⟩
    have X3 := Lib.hid (X2.out.trans (hb3.mono X2.out.size))
    clear hb3 X2 
    go_wp2_with fail
    refine (alive_true w3).mono ?_
    rintro e w4 ⟨rfl, hb4⟩
    have X4 := Lib.hid (X3.out.trans (hb4.mono X3.out.size))
    clear hb4 X3 
    go_wp2_with fail
    go_ret
    exact ⟨rfl, X4.out⟩
  rw [heq] at HCq

  obtain ⟨hlp, l, hkp⟩ := err_zero hep
  obtain ⟨hlq, m, hkq⟩ := err_zero heq
  clear hep heq
  obtain ⟨x0, hx0⟩ : ∃ x, x = likeS (l ++ starT :: m) t := ⟨_, rfl⟩
  obtain ⟨c0, hc0⟩ : ∃ x, x = decide (t.length = k) := ⟨_, rfl⟩
  obtain ⟨d0, hd0⟩ : ∃ x, x = decide (k ≤ t.length) := ⟨_, rfl⟩
  have bst : ∀ d ∈ [42], d < 256 := byte_one (by omega)
  have b2st : ∀ d ∈ [42, 42], d < 256 := by simp
  have brep : ∀ i, ∀ d ∈ List.replicate i 63, d < 256 := fun i d hd => by rw [List.eq_of_mem_replicate hd]; omega
  have H1 : Hid (∀ W, Calls Try.prog 13 #[.string (str p ++ ⟨#[42]⟩ ++ str q), .string (str t)] W fun r w' => r = .returned (.tuple #[.bool x0, .int .i64 0]) ∧ Below W.heap.size W w') := Lib.hid fun W => by
    rw [hx0, show l ++ starT :: m = l ++ [starT] ++ m by simp, show (⟨#[42]⟩ : ByteArray) = str [42] from rfl, str_app, str_app]
    exact match_known (bytes_app (bytes_app HP.out bst) HQ.out) (by simp; omega) (things_join (things_join hkp things_star) hkq) HB.out (by omega) W
  have H2 : Hid (∀ W, Calls Try.prog 13 #[.string (str p ++ ⟨#[42, 42]⟩ ++ str q), .string (str t)] W fun r w' => r = .returned (.tuple #[.bool x0, .int .i64 0]) ∧ Below W.heap.size W w') := Lib.hid fun W => by
    rw [hx0, ← like_stars, show l ++ starT :: starT :: m = l ++ [starT, starT] ++ m by simp, show (⟨#[42, 42]⟩ : ByteArray) = str [42, 42] from rfl, str_app, str_app]
    exact match_known (bytes_app (bytes_app HP.out b2st) HQ.out) (by simp; omega) (things_join (things_join hkp (things_join things_star things_star)) hkq) HB.out (by omega) W
  have H3 : Hid (∀ W, Calls Try.prog 13 #[.string (str (List.replicate k 63)), .string (str t)] W fun r w' => r = .returned (.tuple #[.bool c0, .int .i64 0]) ∧ Below W.heap.size W w') := Lib.hid fun W => by
    rw [hc0, ← like_alls]
    exact match_known (brep k) (by simp; omega) (things_alls k) HB.out (by omega) W
  have H4 : Hid (∀ W, Calls Try.prog 13 #[.string (str (List.replicate k 63) ++ ⟨#[42]⟩), .string (str t)] W fun r w' => r = .returned (.tuple #[.bool d0, .int .i64 0]) ∧ Below W.heap.size W w') := Lib.hid fun W => by
    rw [hd0, ← like_alls_star, show (⟨#[42]⟩ : ByteArray) = str [42] from rfl, str_app]
    exact match_known (bytes_app (brep k) bst) (by simp; omega) (things_join (things_alls k) things_star) HB.out (by omega) W
  have HC0 : Hid (c0 = decide ((t.length : Int) = (k : Int))) := Lib.hid (hc0.trans (decide_eq_decide.2 (by omega)))
  have HD0 : Hid (d0 = decide ((k : Int) ≤ (t.length : Int))) := Lib.hid (hd0.trans (decide_eq_decide.2 (by omega)))
  clear hkp hkq hx0 hc0 hd0 bst b2st brep
  go_wp2_with fail
  refine (HCp.out w1).mono ?_
  rintro e w2 ⟨rfl, hb2⟩
  have X2 := Lib.hid (X1.out.trans (hb2.mono X1.out.size))
  clear hb2 X1 
  go_wp2_with fail
  refine (HCq.out w2).mono ?_
  rintro e w3 ⟨rfl, hb3⟩
  have X3 := Lib.hid (X2.out.trans (hb3.mono X2.out.size))
  clear hb3 X2 
  go_wp2_with fail
  refine (H1.out w3).mono ?_
  rintro e w4 ⟨rfl, hb4⟩
  have X4 := Lib.hid (X3.out.trans (hb4.mono X3.out.size))
  clear hb4 X3 
  go_wp2_with fail
  refine (H2.out w4).mono ?_
  rintro e w5 ⟨rfl, hb5⟩
  have X5 := Lib.hid (X4.out.trans (hb5.mono X4.out.size))
  clear hb5 X4 

  go_wp2_with fail
  go_loopw [14, 73] (fun u v wr => ∃ i : Nat, i ≤ k ∧ v = .int .i64 i ∧ u = .string (str (List.replicate i 63)) ∧ Hid (Below w.heap.size w wr)) (fun _ v _ => k - (intOf v).toNat)
  case atStart => exact ⟨0, by omega, rfl, rfl, X5⟩
  case round =>
    obtain ⟨i, hi, rfl, rfl, XR⟩ := hrel
    have hsi := str_len (List.replicate i 63)
    rw [List.length_replicate] at hsi
    by_cases hil : i < k
    · go_wp2_with fail
      go_roundw
      case rel => exact ⟨i + 1, by omega, by go_num, by rw [show (⟨#[63]⟩ : ByteArray) = str [63] from rfl, str_app, List.replicate_succ'], XR⟩
      case measure => simp [intOf]; omega
    · obtain rfl : i = k := by omega
      go_wp2_with fail
      refine (H3.out wr).mono ?_
      rintro e w6 ⟨rfl, hb6⟩
      have X6 := Lib.hid (XR.out.trans (hb6.mono XR.out.size))
      clear hb6 XR
      go_wp2_with fail
      refine (H4.out w6).mono ?_
      rintro e w7 ⟨rfl, hb7⟩
      have X7 := Lib.hid (X6.out.trans (hb7.mono X6.out.size))
      clear hb7 X6
      go_wp2_with fail
      all_goals
        go_ret
        refine ⟨ret_bool ?_, X7.out⟩
        have hc := HC0.out
        have hd := HD0.out
        try simp_all
      done
end Go.Proofs.Ytgocngglpdgaiaa
