/-
  cuecardref09: at, Shortest.
  Conditions: at most 1048576 bytes.
-/
import Derived.Test.YtialecghpekcnaaCut
import Derived.Test.YtialecghpekcnaaRet
import Derived.Test.YtialecghpekcnaaTailMath
import Derived.WalkKit
import Derived.LoopTactic
import Derived.Lib.Hide
import Derived.IntWalk
import Derived.Deep.QuietTactic
import Derived.BigQuiet
namespace Go.Proofs.Ytialecghpekcnaa
open Go.RowKit

/-- b[a:a+k], under one name. -/
theorem run_mid {w : World} {A : Option Addr} {n c a k : Nat} {l : List Nat} (h : Rd w (.slice A n c) (bv l)) (ha : a + k ≤ n) :
    ∃ A' c', (∀ W, (Instr.slice 22 (.slice A n c) (some (.int .i64 (a : Int))) (some (.int .i64 ((a : Int) + (k : Int)))) none).run Try.prog W = .ok (.slice A' k c') W) ∧ Rd w (.slice A' k c') (bv ((l.drop a).take k)) := by
  refine ⟨_, _, fun W => ?_, by have := (h.drop (a := a) (by omega)).take (n := k) (by omega); rw [show ((bv l).drop a).take k = bv ((l.drop a).take k) by simp [bv]] at this; exact this⟩
  have hle := h.le
  obtain ⟨i0, hi0, hz0, hz1, hz2⟩ := info_parts byte_info
  have hs : (sizeOf (Try.prog.elem 22)).run Try.prog W = .ok 1 W := by
    rw [show Try.prog.elem 22 = 5 by kernel_rfl]
    simp [sizeOf, typeInfo, hi0, hz1]
  rw [run_slice_lh W 22 A n c (by kernel_rfl) .i64 .i64 (a : Int) ((a : Int) + (k : Int)) (by omega) (by omega) (by omega), hs]
  rw [show ((a : Int) + (k : Int)) = ((a + k : Nat) : Int) by omega]
  simp only [Result.andThen, Int.toNat_natCast, sliced, Nat.mul_one, Nat.add_sub_cancel_left]

set_option maxHeartbeats 1000000 in
theorem at_true (A B : Option Addr) (n c m d : Nat) (t p : List Nat) (i : Nat) (hi : i ≤ 4294967296) (hn : n ≤ 4294967296) (w : World) (ht : Rd w (.slice A n c) (bv t)) (hp : Rd w (.slice B m d) (bv p)) (hbt : ∀ b ∈ t, b < 256) (hbp : ∀ b ∈ p, b < 256) :
    Calls Try.prog 21 #[.slice A n c, .slice B m d, .int .i64 (i : Int)] w fun e w' => e = .returned (.bool (decide (At t p i))) ∧ ∃ n, w' = w.drewN n := by
  have hnl := ht.bytes
  have hml := hp.bytes
  have n0 : decide ((i : Int) ≥ 0) = true := by simp
  have n1 : decide (0 ≤ (i : Int)) = true := by simp
  by_cases h1 : n < i
  · have HF : Hid (decide (At t p i) = false) := Lib.hid (by simp; intro h; have := h.1; omega)
    have q1 : decide (i ≤ n) = false := by simp; omega
    clear h1 ht hp hnl hml
    go_enter Try.func21, Try.ntmps21
    go_wp2
    go_quiet (fail)
    go_wp2
    go_ret
    exact ⟨ret_bool HF.out.symm, _, rfl⟩
  · have q1 : decide (i ≤ n) = true := by simp; omega
    have w1 : IntKind.i64.wrap ((n : Int) - (i : Int)) = (n : Int) - (i : Int) := IntWalk.i64_in _ (by omega)
    by_cases h2 : n - i < m
    · have HF : Hid (decide (At t p i) = false) := Lib.hid (by simp; intro h; have := h.2.1; omega)
      have q2 : decide ((m : Int) ≤ (n : Int) - (i : Int)) = false := by simp; omega
      clear ht hp hnl hml
      go_enter Try.func21, Try.ntmps21
      go_wp2
      go_quiet (fail)
      go_wp2
      go_ret
      exact ⟨ret_bool HF.out.symm, _, rfl⟩
    · have q2 : decide ((m : Int) ≤ (n : Int) - (i : Int)) = true := by simp; omega
      have w2 : IntKind.i64.wrap ((i : Int) + (m : Int)) = (i : Int) + (m : Int) := IntWalk.i64_in _ (by omega)
      obtain ⟨A1, c1, hs1, hr1⟩ := run_mid (a := i) (k := m) ht (by omega)
      have s1 := fun nd => run_str (hr1.drewN nd)
      have s2 := fun nd => run_str (hp.drewN nd)
      have HE := Lib.hid (str_beq (l := (t.drop i).take m) (m := p) (fun b hb => hbt b (List.mem_of_mem_drop (List.mem_of_mem_take hb))) hbp)
      have HF : Hid (decide (At t p i) = decide ((t.drop i).take m = p)) := Lib.hid (by
        rw [Bool.eq_iff_iff]
        simp only [decide_eq_true_eq]
        subst hml
        exact ⟨fun h => h.2.2, fun h => ⟨by omega, by omega, h⟩⟩)
      clear ht hp hnl hml hr1 hbt hbp
      generalize (t.drop i).take m = u at *
      go_enter Try.func21, Try.ntmps21
      go_wp2
      go_quiet (fail)
      go_wp2
      rw [HE.out]
      go_ret
      exact ⟨ret_bool HF.out.symm, _, rfl⟩

theorem short_step (t : List Nat) (f n : Nat) : short t (f + 1) n = if count t (tail t n) = 1 then n else short t f (n + 1) := rfl
/-- How often a text stands at one of the first places. -/
def cnt (t p : List Nat) (i : Nat) : Nat := ((List.range i).filter (fun i => decide (At t p i))).length
theorem cnt_le (t p : List Nat) (i : Nat) : cnt t p i ≤ i := by
  have := List.length_filter_le (fun i => decide (At t p i)) (List.range i)
  rwa [List.length_range] at this
theorem cnt_next (t p : List Nat) (i : Nat) : cnt t p (i + 1) = if At t p i then cnt t p i + 1 else cnt t p i := by
  unfold cnt
  rw [List.range_succ, List.filter_append, List.length_append]
  by_cases h : At t p i <;> simp [h]

set_option maxRecDepth 100000 in
set_option maxHeartbeats 2000000 in
theorem RShortest_is (A : Option Addr) (n c : Nat) (t : List Nat) (hn : n ≤ 1048576) (w : World) (ht : Rd w (.slice A n c) (bv t)) (hbt : ∀ b ∈ t, b < 256) :
    Calls Try.prog 11 #[.slice A n c] w fun e w' => e = .returned (.int .i64 (shortest t : Nat)) ∧ ∃ n, w' = w.drewN n := by
  have hnl := ht.bytes
  have HA : Hid (∀ k, k ≤ n → ∃ A1 c1, (∀ W, (Instr.slice 22 (.slice A n c) (some (.int .i64 ((n : Int) - (k : Int)))) none none).run Try.prog W = .ok (.slice A1 k c1) W) ∧
      ∀ i nd, i ≤ n → Calls Try.prog 21 #[.slice A n c, .slice A1 k c1, .int .i64 ((i : Nat) : Int)] (w.drewN nd) fun e w' => e = .returned (.bool (decide (At t (tail t k) i))) ∧ ∃ n, w' = (w.drewN nd).drewN n) := Lib.hid fun k hk => by
    obtain ⟨A1, c1, N1, hs1, hr1, hN1⟩ := run_from ht (show n - k ≤ n by omega)
    obtain rfl : N1 = k := by omega
    rw [show ((n - N1 : Nat) : Int) = (n : Int) - (N1 : Int) by omega] at hs1
    refine ⟨A1, c1, hs1, fun i nd hi => ?_⟩
    have := at_true A A1 n c N1 c1 t (t.drop (n - N1)) i (by omega) (by omega) (w.drewN nd) ht hr1 hbt (fun b hb => hbt b (List.mem_of_mem_drop hb))
    rw [hnl] at this
    rw [hnl]
    exact this
  have HNL := Lib.hid hnl
  have HS0 : Hid (shortest t = short t (n + 1 - 1) 1) := Lib.hid (by rw [hnl]; rfl)
  clear ht hbt hnl
  go_enter Try.func11, Try.ntmps11
  go_wp2
  go_loopw [3] (fun i wr => ∃ k nd : Nat, 1 ≤ k ∧ k ≤ n + 1 ∧ i = .int .i64 k ∧ Hid (shortest t = short t (n + 1 - k) k) ∧ wr = w.drewN nd) (fun i _ => n + 1 - (intOf i).toNat)
  case atStart => exact ⟨1, 0, by omega, by omega, rfl, HS0, rfl⟩
  case round =>
    obtain ⟨k, nd, hk1, hk, rfl, HS, rfl⟩ := hrel
    by_cases hlt : k ≤ n
    · have q1 : decide (k ≤ n) = true := by simpa using hlt
      obtain ⟨A1, c1, hs1, hc⟩ := HA.out k hlt
      have HC := Lib.hid hc
      have HT : Hid (short t (n + 1 - k) k = if cnt t (tail t k) n = 1 then k else short t (n + 1 - (k + 1)) (k + 1)) := Lib.hid (by
        rw [show n + 1 - k = (n + 1 - (k + 1)) + 1 by omega]
        rw [short_step, show count t (tail t k) = cnt t (tail t k) n by rw [HNL.out]; rfl])
      clear hc
      generalize tail t k = p at *
      have w1 : IntKind.i64.wrap ((n : Int) - (k : Int)) = (n : Int) - (k : Int) := IntWalk.i64_in _ (by omega)
      go_wp2
      go_loopw [5, 6] (fun v i wi => ∃ j nd : Nat, j ≤ n ∧ i = .int .i64 j ∧ v = .int .i64 (cnt t p j : Nat) ∧ wi = w.drewN nd) (fun _ i _ => n - (intOf i).toNat)
      case atStart => exact ⟨0, nd, by omega, rfl, rfl, rfl⟩
      case round =>
        obtain ⟨j, nd2, hj, rfl, rfl, rfl⟩ := hrel
        by_cases hlt2 : j < n
        · have HN := Lib.hid (cnt_next t p j)
          have HC2 := Lib.hid (HC.out j nd2 hj)
          have hcl := cnt_le t p j
          by_cases hat : At t p j
          · rw [if_pos hat] at HN
            rw [show decide (At t p j) = true by simpa using hat] at HC2
            clear hat
            go_wp2_with fail
            refine HC2.out.mono ?_
            rintro e w5 ⟨rfl, nd3, rfl⟩
            go_wp2
            go_roundw
            case rel => exact ⟨j + 1, nd2 + nd3, by omega, by go_num, by rw [HN.out]; go_num, rfl⟩
            case measure => simp [intOf]; omega
          · rw [if_neg hat] at HN
            rw [show decide (At t p j) = false by simpa using hat] at HC2
            clear hat
            go_wp2_with fail
            refine HC2.out.mono ?_
            rintro e w5 ⟨rfl, nd3, rfl⟩
            go_wp2
            go_roundw
            case rel => exact ⟨j + 1, nd2 + nd3, by omega, by go_num, by rw [HN.out], rfl⟩
            case measure => simp [intOf]; omega
        · obtain rfl : j = n := by omega
          by_cases h1 : cnt t p j = 1
          · rw [if_pos h1] at HT
            rw [h1]
            clear h1
            go_wp2
            go_ret
            exact ⟨ret_int (by rw [HS.out, HT.out]), _, rfl⟩
          · rw [if_neg h1] at HT
            have q2 : decide (cnt t p j = 1) = false := by simpa using h1
            have q3 : (((cnt t p j : Nat) : Int) == 1) = false := beq_eq_false_iff_ne.2 (by omega)
            clear h1
            generalize cnt t p j = cc at *
            go_wp2
            go_roundw
            case rel => exact ⟨k + 1, nd2, by omega, by omega, by go_num, Lib.hid (HS.out.trans HT.out), rfl⟩
            case measure => simp [intOf]; omega
    · obtain rfl : k = n + 1 := by omega
      have q1 : decide (n + 1 ≤ n) = false := by simp
      have HE : Hid (shortest t = 0) := Lib.hid (by rw [HS.out, Nat.sub_self]; rfl)
      go_wp2
      go_ret
      exact ⟨ret_int (by rw [HE.out]; rfl), _, rfl⟩
end Go.Proofs.Ytialecghpekcnaa
