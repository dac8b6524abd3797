/-
  The law GlobJoins.
  Conditions: strings of at most 140737488351232 bytes.
-/
import Derived.Test.YtgocngglpdgaiaaGlLaw
namespace Go.Proofs.Ytgocngglpdgaiaa
open Go.RowKit

/-- Can a text be cut before i? -/
def cutB (l m : List Thg) (t : List Nat) (i : Nat) : Bool := (List.range i).any fun j => likeS l (t.take j) && likeS m (t.drop j)
theorem cut_snoc (l m : List Thg) (t : List Nat) (i : Nat) : cutB l m t (i + 1) = (cutB l m t i || (likeS l (t.take i) && likeS m (t.drop i))) := by simp [cutB, List.range_succ]
theorem cut_all (l m : List Thg) (t : List Nat) : cutB l m t (t.length + 1) = likeS (l ++ m) t := by
  rw [Bool.eq_iff_iff, like_append]
  simp only [cutB, List.any_eq_true, List.mem_range, Bool.and_eq_true]
  constructor
  · rintro ⟨j, hj, h⟩; exact ⟨j, by omega, h⟩
  · rintro ⟨j, hj, h⟩; exact ⟨j, by omega, h⟩

set_option maxRecDepth 100000 in
set_option maxHeartbeats 4000000 in
theorem joins_true (p q lt : List Nat) (w : World) (hp : ∀ d ∈ p, d < 256) (hq : ∀ d ∈ q, d < 256) (ht : ∀ d ∈ lt, d < 256) (hnp : p.length ≤ 140737488351232) (hnq : q.length ≤ 140737488351232) (hnt : lt.length ≤ 140737488351232) :
    Calls Try.prog 6 #[.string (str p), .string (str q), .string (str lt)] w fun e w' => e = .returned (.bool true) ∧ Below w.heap.size w w' := by
  have hs0 := str_len p
  have hs3 := str_len q
  have hs1 := str_len lt
  have b1 : ∀ d ∈ lt.take 40, d < 256 := fun d hd => ht d (List.mem_of_mem_take hd)
  have n1 : (lt.take 40).length ≤ 40 := by rw [List.length_take]; omega
  have HB := Lib.hid b1
  have HP := Lib.hid hp
  have HQ := Lib.hid hq
  have HCp := Lib.hid (Check_is p hp (by omega))
  have HCq := Lib.hid (Check_is q hq (by omega))
  have h6 := err_small p
  have h7 := err_small q
  clear ht b1 hp hq
  go_enter Try.func6, Try.ntmps6
  go_wp2_with fail
  simp only [strg_min40]
  generalize lt.take 40 = t at *
  have X0 := Lib.hid (Below.refl w.heap.size w)
  clear hs1 hnt
  have hs1 := str_len t
  go_wp2_with fail
  refine (alive_true w).mono ?_
  rintro e w1 ⟨rfl, hb1⟩
  have X1 := Lib.hid (X0.out.trans (hb1.mono X0.out.size))
  clear hb1 X0 
  by_cases hbp : 60 < p.length
  · go_wp2_with fail
    refine (alive_true w1).mono ?_
    rintro e w2 ⟨rfl, hb2⟩
    have X2 := Lib.hid (X1.out.trans (hb2.mono X1.out.size))
    clear hb2 X1 
    go_wp2_with fail
    go_ret
    exact ⟨rfl, X2.out⟩
  by_cases hbq : 60 < q.length
  · go_wp2_with fail
    refine (alive_true w1).mono ?_
    rintro e w2 ⟨rfl, hb2⟩
    have X2 := Lib.hid (X1.out.trans (hb2.mono X1.out.size))
    clear hb2 X1 
    go_wp2_with fail
    go_ret
    exact ⟨rfl, X2.out⟩
  by_cases hep : errS p = 0
  case neg =>
    generalize errS p = ep at *
    have he2 : ¬ (ep : Int) = 0 := by omega
    have he3 : ((ep : Int) != 0) = true := by simpa using he2
    go_wp2_with fail
    refine (HCp.out w1).mono ?_
    rintro e w2 ⟨rfl, hb2⟩
    have X2 := Lib.hid (X1.out.trans (hb2.mono X1.out.size))
    clear hb2 X1 
    go_wp2_with fail
    refine (alive_true w2).mono ?_
    rintro e w3 ⟨rfl, hb3⟩
    have X3 := Lib.hid (X2.out.trans (hb3.mono X2.out.size))
    clear hb3 X2 
    go_wp2_with fail
    go_ret
    exact ⟨rfl, X3.out⟩
  rw [hep] at HCp
  by_cases heq : errS q = 0
  case neg =>
    generalize errS q = eq at *
    have he2 : ¬ (eq : Int) = 0 := by omega
    have he3 : ((eq : Int) != 0) = true := by simpa using he2
    go_wp2_with fail
    refine (HCp.out w1).mono ?_
    rintro e w2 ⟨rfl, hb2⟩
    have X2 := Lib.hid (X1.out.trans (hb2.mono X1.out.size))
    clear hb2 X1 
    go_wp2_with fail
    refine (HCq.out w2).mono ?_
    rintro e w3 ⟨rfl, hb3⟩
    have X3 := Lib.hid (X2.out.trans (hb3.mono X2.out.size))
    clear hb3 X2 
    go_wp2_with fail
    refine (alive_true w3).mono ?_
    rintro e w4 ⟨rfl, hb4⟩
    have X4 := Lib.hid (X3.out.trans (hb4.mono X3.out.size))
    clear hb4 X3 
    go_wp2_with fail
    go_ret
    exact ⟨rfl, X4.out⟩
  rw [heq] at HCq

  obtain ⟨hlp, l, hkp⟩ := err_zero hep
  obtain ⟨hlq, m, hkq⟩ := err_zero heq
  clear hep heq
  have H1 : Hid (∀ W, Calls Try.prog 13 #[.string (str p ++ str q), .string (str t)] W fun r w' => r = .returned (.tuple #[.bool (likeS (l ++ m) t), .int .i64 0]) ∧ Below W.heap.size W w') := Lib.hid fun W => by
    rw [str_app]
    exact match_known (bytes_app HP.out HQ.out) (by simp; omega) (things_join hkp hkq) HB.out (by omega) W
  have H2 : Hid (∀ i W, Calls Try.prog 13 #[.string (str p), .string (str (t.take i))] W fun r w' => r = .returned (.tuple #[.bool (likeS l (t.take i)), .int .i64 0]) ∧ Below W.heap.size W w') := Lib.hid fun i W => by
    exact match_known HP.out hlp hkp (fun d hd => HB.out d (List.mem_of_mem_take hd)) (by simp; omega) W
  have H3 : Hid (∀ i W, Calls Try.prog 13 #[.string (str q), .string (str (t.drop i))] W fun r w' => r = .returned (.tuple #[.bool (likeS m (t.drop i)), .int .i64 0]) ∧ Below W.heap.size W w') := Lib.hid fun i W => by
    exact match_known HQ.out hlq hkq (fun d hd => HB.out d (List.mem_of_mem_drop hd)) (by simp; omega) W
  clear hkp hkq
  go_wp2_with fail
  refine (HCp.out w1).mono ?_
  rintro e w2 ⟨rfl, hb2⟩
  have X2 := Lib.hid (X1.out.trans (hb2.mono X1.out.size))
  clear hb2 X1 
  go_wp2_with fail
  refine (HCq.out w2).mono ?_
  rintro e w3 ⟨rfl, hb3⟩
  have X3 := Lib.hid (X2.out.trans (hb3.mono X2.out.size))
  clear hb3 X2 
  go_wp2_with fail
  refine (H1.out w3).mono ?_
  rintro e w4 ⟨rfl, hb4⟩
  have X4 := Lib.hid (X3.out.trans (hb4.mono X3.out.size))
  clear hb4 X3 

  go_wp2_with fail
  go_loopw [9, 54] (fun u v wr => ∃ i : Nat, i ≤ t.length + 1 ∧ v = .int .i64 i ∧ u = .bool (cutB l m t i) ∧ Hid (Below w.heap.size w wr)) (fun _ v _ => t.length + 1 - (intOf v).toNat)
  case atStart => exact ⟨0, by omega, rfl, by simp [cutB], X4⟩
  case round =>
    obtain ⟨i, hi, rfl, rfl, XR⟩ := hrel
    by_cases hil : i ≤ t.length
    · have e1 : (str t).extract 0 i = str (t.take i) := by rw [strg_mid, List.drop_zero]
      have e2 : (str t).extract i t.length = str (t.drop i) := by rw [strg_mid, List.take_of_length_le (Nat.le_refl _)]
      have HE1 := Lib.hid e1
      have HE2 := Lib.hid e2
      clear e1 e2
      go_wp2_with fail
      rw [HE1.out]
      refine (H2.out i wr).mono ?_
      rintro e w5 ⟨rfl, hb5⟩
      have X5 := Lib.hid (XR.out.trans (hb5.mono XR.out.size))
      clear hb5 XR
      go_wp2_with fail
      rw [HE2.out]
      refine (H3.out i w5).mono ?_
      rintro e w6 ⟨rfl, hb6⟩
      have X6 := Lib.hid (X5.out.trans (hb6.mono X5.out.size))
      clear hb6 X5
      have HS := Lib.hid (cut_snoc l m t i)
      generalize cutB l m t i = c0 at *
      generalize likeS l (t.take i) = x0 at *
      generalize likeS m (t.drop i) = y0 at *
      cases c0 <;> cases x0 <;> cases y0
      all_goals
        go_wp2_with fail
        go_roundw
        case rel => exact ⟨i + 1, by omega, by go_num, by rw [HS.out]; rfl, X6⟩
        case measure => simp [intOf]; omega
    · obtain rfl : i = t.length + 1 := by omega
      rw [cut_all]
      go_wp2_with fail
      go_ret
      exact ⟨ret_bool (by simp), XR.out⟩
end Go.Proofs.Ytgocngglpdgaiaa
