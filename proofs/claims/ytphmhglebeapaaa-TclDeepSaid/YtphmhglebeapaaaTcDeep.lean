/-
  The law TclDeep.
  Conditions: none.
-/
import Derived.Test.YtphmhglebeapaaaTclLaw
import Derived.Test.YtphmhglebeapaaaTcBk
namespace Go.Proofs.Ytphmhglebeapaaa
open Go.RowKit

theorem deep_num (z : Int) : ∃ k : Nat, max 0 z % 100 = (k : Int) ∧ k < 100 := ⟨(max 0 z % 100).toNat, by omega, by omega⟩
theorem deepT_bytes (a k : Nat) : ∀ c ∈ deepT a k, c < 256 := by
  intro c hc
  unfold deepT at hc
  rcases List.mem_append.1 hc with h | h
  · rw [List.eq_of_mem_replicate h]; omega
  · rcases List.mem_append.1 h with h | h
    · rw [List.eq_of_mem_replicate h]; omega
    · rw [List.eq_of_mem_replicate h]; omega
set_option maxRecDepth 100000 in
set_option maxHeartbeats 8000000 in
theorem deep_true (z : Int) (A : Option Addr) (n c : Nat) (w : World) :
    Calls Try.prog 7 #[.int .i64 z, .slice A n c] w fun e w' => e = .returned (.bool true) ∧ Below w.heap.size w w' := by
  obtain ⟨k, hk, hk1⟩ := deep_num z
  obtain ⟨a, ha, ha1⟩ : ∃ a : Nat, min (n : Int) 20 = (a : Int) ∧ a ≤ 20 := ⟨min n 20, by omega, by omega⟩
  have HLEN : Hid ((deepT a k).length ≤ 1048576) := Lib.hid (by unfold deepT; simp; omega)
  have HT : Hid (List.replicate a 32 ++ List.replicate k 123 ++ List.replicate k 125 = deepT a k) := Lib.hid (by unfold deepT; rw [List.append_assoc])
  go_enter Try.func7, Try.ntmps7
  go_wp2_with fail
  go_loop [6, 17] (fun sv iv => ∃ i : Nat, i ≤ a ∧ iv = .int .i64 (i : Nat) ∧ sv = .string (str (([] : List Nat) ++ List.replicate i 32))) (fun _ iv => a - (intOf iv).toNat)
  case atStart => exact ⟨0, by omega, rfl, by first | rfl | rw [List.replicate_zero, List.append_nil]⟩
  case round =>
    obtain ⟨i, hi, rfl, rfl⟩ := hrel
    by_cases hlt : i < a
    · have r1 : decide ((i : Int) < (a : Int)) = true := decide_eq_true (by omega)
      have r1n : decide (i < a) = true := decide_eq_true hlt
      obtain ⟨Z, hZ⟩ : ∃ Z, Z = ([] : List Nat) ++ List.replicate i 32 := ⟨_, rfl⟩
      have hzl : Z.length ≤ 300 := by rw [hZ]; simp; omega
      rw [← hZ]
      have hcat : str Z ++ ⟨#[32]⟩ = str (([] : List Nat) ++ List.replicate (i + 1) 32) := by rw [hZ, List.replicate_succ', ← List.append_assoc]; exact str_app (([] : List Nat) ++ List.replicate i 32) [32]
      have hz : (str Z).size + (⟨#[32]⟩ : ByteArray).size ≤ 9223372036854775807 := by rw [str_len]; show Z.length + 1 ≤ _; omega
      have hi2 : i + 1 ≤ a := hlt
      clear hlt hZ
      generalize hY : str (([] : List Nat) ++ List.replicate (i + 1) 32) = Y at *
      have HY := Lib.hid hY
      clear hY
      go_wp2_with fail
      go_round
      case rel => exact ⟨i + 1, hi2, by go_num, by rw [HY.out]⟩
      case measure => simp [intOf]; omega
    · have r1 : decide ((i : Int) < (a : Int)) = false := decide_eq_false (by omega)
      have r1n : decide (i < a) = false := decide_eq_false hlt
      obtain rfl : a = i := by omega
      clear hlt hi
      have hsa := str_len (List.replicate a 32)
      rw [List.nil_append]
      rw [List.length_replicate] at hsa
      go_wp2_with fail
      go_loop [6, 25] (fun sv iv => ∃ i : Nat, i ≤ k ∧ iv = .int .i64 (i : Nat) ∧ sv = .string (str (List.replicate a 32 ++ List.replicate i 123))) (fun _ iv => k - (intOf iv).toNat)
      case atStart => exact ⟨0, by omega, rfl, by first | rfl | rw [List.replicate_zero, List.append_nil]⟩
      case round =>
        obtain ⟨i, hi, rfl, rfl⟩ := hrel
        by_cases hlt : i < k
        · have r1 : decide ((i : Int) < (k : Int)) = true := decide_eq_true (by omega)
          have r1n : decide (i < k) = true := decide_eq_true hlt
          obtain ⟨Z, hZ⟩ : ∃ Z, Z = List.replicate a 32 ++ List.replicate i 123 := ⟨_, rfl⟩
          have hzl : Z.length ≤ 300 := by rw [hZ]; simp; omega
          rw [← hZ]
          have hcat : str Z ++ ⟨#[123]⟩ = str (List.replicate a 32 ++ List.replicate (i + 1) 123) := by rw [hZ, List.replicate_succ', ← List.append_assoc]; exact str_app (List.replicate a 32 ++ List.replicate i 123) [123]
          have hz : (str Z).size + (⟨#[123]⟩ : ByteArray).size ≤ 9223372036854775807 := by rw [str_len]; show Z.length + 1 ≤ _; omega
          have hi2 : i + 1 ≤ k := hlt
          clear hlt hZ
          generalize hY : str (List.replicate a 32 ++ List.replicate (i + 1) 123) = Y at *
          have HY := Lib.hid hY
          clear hY
          go_wp2_with fail
          go_round
          case rel => exact ⟨i + 1, hi2, by go_num, by rw [HY.out]⟩
          case measure => simp [intOf]; omega
        · have r1 : decide ((i : Int) < (k : Int)) = false := decide_eq_false (by omega)
          have r1n : decide (i < k) = false := decide_eq_false hlt
          obtain rfl : k = i := by omega
          clear hlt hi
          go_wp2_with fail
          go_loop [6, 31] (fun sv iv => ∃ i : Nat, i ≤ k ∧ iv = .int .i64 (i : Nat) ∧ sv = .string (str (List.replicate a 32 ++ List.replicate k 123 ++ List.replicate i 125))) (fun _ iv => k - (intOf iv).toNat)
          case atStart => exact ⟨0, by omega, rfl, by first | rfl | rw [List.replicate_zero, List.append_nil]⟩
          case round =>
            obtain ⟨i, hi, rfl, rfl⟩ := hrel
            by_cases hlt : i < k
            · have r1 : decide ((i : Int) < (k : Int)) = true := decide_eq_true (by omega)
              have r1n : decide (i < k) = true := decide_eq_true hlt
              obtain ⟨Z, hZ⟩ : ∃ Z, Z = List.replicate a 32 ++ List.replicate k 123 ++ List.replicate i 125 := ⟨_, rfl⟩
              have hzl : Z.length ≤ 300 := by rw [hZ]; simp; omega
              rw [← hZ]
              have hcat : str Z ++ ⟨#[125]⟩ = str (List.replicate a 32 ++ List.replicate k 123 ++ List.replicate (i + 1) 125) := by rw [hZ, List.replicate_succ', ← List.append_assoc]; exact str_app (List.replicate a 32 ++ List.replicate k 123 ++ List.replicate i 125) [125]
              have hz : (str Z).size + (⟨#[125]⟩ : ByteArray).size ≤ 9223372036854775807 := by rw [str_len]; show Z.length + 1 ≤ _; omega
              have hi2 : i + 1 ≤ k := hlt
              clear hlt hZ
              generalize hY : str (List.replicate a 32 ++ List.replicate k 123 ++ List.replicate (i + 1) 125) = Y at *
              have HY := Lib.hid hY
              clear hY
              go_wp2_with fail
              go_round
              case rel => exact ⟨i + 1, hi2, by go_num, by rw [HY.out]⟩
              case measure => simp [intOf]; omega
            · have r1 : decide ((i : Int) < (k : Int)) = false := decide_eq_false (by omega)
              have r1n : decide (i < k) = false := decide_eq_false hlt
              obtain rfl : k = i := by omega
              clear hlt hi
              rw [HT.out]
              by_cases h64 : 64 < k
              · have r2 : decide ((64 : Int) < (k : Int)) = true := decide_eq_true (by omega)
                have HP := Lib.hid (fun W => parse_at (deepT_bytes a k) HLEN.out (parseR_bad (by have := HLEN.out; omega) (deep_over (a := a) h64)) W)
                have q5 : (((a + 64 : Nat) : Int) == (a : Int) + 64) = true := by simp
                clear h64
                generalize str (deepT a k) = s at *
                go_wp2_with fail
                refine (HP.out w).mono ?_
                rintro e w1 ⟨v1, rfl, hc1, hb1⟩
                obtain ⟨A1, c1, rfl, _⟩ := hc1.form
                have X1 := Lib.hid hb1
                clear hc1 hb1 HP
                simp only [List.length_nil] at *
                go_wp2_with fail
                refine (alive_true w1).mono ?_
                rintro e w2 ⟨rfl, hb2⟩
                have X2 := Lib.hid (X1.out.trans (hb2.mono X1.out.size))
                clear hb2
                go_wp2_with fail
                go_ret
                exact ⟨rfl, X2.out⟩
              · have r2 : decide ((64 : Int) < (k : Int)) = false := decide_eq_false (by omega)
                by_cases h0 : k = 0
                · have r3 : ((k : Int) == 0) = true := beq_iff_eq.2 (by omega)
                  have HP := Lib.hid (fun W => parse_at (deepT_bytes a k) HLEN.out (parseR_ok (by have := HLEN.out; omega) (by rw [h0]; exact deep_none a)) W)
                  clear h64 h0
                  generalize str (deepT a k) = s at *
                  go_wp2_with fail
                  refine (HP.out w).mono ?_
                  rintro e w1 ⟨v1, rfl, hc1, hb1⟩
                  obtain ⟨A1, c1, rfl, _⟩ := hc1.form
                  have X1 := Lib.hid hb1
                  clear hc1 hb1 HP
                  simp only [List.length_nil] at *
                  go_wp2_with fail
                  refine (alive_true w1).mono ?_
                  rintro e w2 ⟨rfl, hb2⟩
                  have X2 := Lib.hid (X1.out.trans (hb2.mono X1.out.size))
                  clear hb2
                  go_wp2_with fail
                  go_ret
                  exact ⟨rfl, X2.out⟩
                · have r3 : ((k : Int) == 0) = false := beq_eq_false_iff_ne.2 (by omega)
                  obtain ⟨ps, hps⟩ := deep_some (a := a) (k := k) (by omega) (by omega)
                  have HP := Lib.hid (fun W => parse_at (deepT_bytes a k) HLEN.out (parseR_ok (by have := HLEN.out; omega) hps) W)
                  clear h64 h0 hps
                  generalize str (deepT a k) = s at *
                  go_wp2_with fail
                  refine (HP.out w).mono ?_
                  rintro e w1 ⟨v1, rfl, hc1, hb1⟩
                  have X1 := Lib.hid (And.intro hc1 hb1)
                  obtain ⟨A0, c0, rfl, _⟩ := hc1.form
                  clear hc1 hb1 HP
                  simp only [List.length_cons, List.length_nil] at *
                  go_wp2_with fail
                  refine (alive_true w1).mono ?_
                  rintro e w2 ⟨rfl, hb2⟩
                  obtain ⟨b1, o1, u1, rfl, x0, x1, Y1⟩ := cmds_at (k := 0) (SlI.below cmd_ok X1.out.1 hb2) (by simp)
                  obtain ⟨A2, c2, rfl, _⟩ := Y1.form
                  obtain ⟨b2, o2, u2, rfl, y0, y1, y2, _⟩ := words_at (k := 0) Y1 (by simp)
                  have X2 := Lib.hid (X1.out.2.trans (hb2.mono X1.out.2.size))
                  simp only [List.getElem_cons_zero, List.length_cons, List.length_nil] at x0 x1 y0 y1 y2
                  simp at x0 x1 y0 y1
                  clear hb2 X1 Y1 y2
                  go_wp2_with fail
                  go_ret
                  exact ⟨rfl, X2.out⟩
end Go.Proofs.Ytphmhglebeapaaa
