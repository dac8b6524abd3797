/-
  The law TclBack.
  Conditions: at most 1048576 things in the list.
-/
import Derived.Test.YtphmhglebeapaaaTclLaw
import Derived.Test.YtphmhglebeapaaaTcPri
namespace Go.Proofs.Ytphmhglebeapaaa
open Go.RowKit

/-- A parser's contract, where what it tells is known. -/
theorem parse_at {m : List Nat} (hm : ∀ c ∈ m, c < 256) (hn : m.length ≤ 1048576) {cs : List Cmd} {p e : Nat} (h : parseR m = (cs, p, e)) (W : World) : Calls Try.prog 11 #[.string (str m)] W fun r w' => ∃ v, r = .returned (.tuple #[v, .int .i64 (p : Nat), .int .i64 (e : Nat)]) ∧ Cmds all w' v cs ∧ Below W.heap.size W w' := by
  refine (Parse_is (w := W) m hm hn).mono ?_
  rintro r w' ⟨v, hr, hc, hb⟩
  rw [h] at hr hc
  exact ⟨v, hr, hc, hb⟩
set_option maxRecDepth 100000 in
set_option maxHeartbeats 8000000 in
theorem back_true (l : List Cmd) (t : List Nat) {va : Value} (w : World) (hx : Cmds all w va l) (il : ∀ c ∈ l, CmdIn c) (nl : countC l ≤ 1048576) (ht : ∀ d ∈ t, d < 256) :
    Calls Try.prog 5 #[va, .string (str t)] w fun e w' => e = .returned (.bool true) ∧ Below w.heap.size w w' := by
  have wl := weightC_count l
  have HX := Lib.hid hx
  have HB1 := Lib.hid (in_bytes il)
  obtain ⟨k, hk1, hk2, hk3⟩ : ∃ k : Nat, k ≤ t.length ∧ k ≤ 5000 ∧ min (t.length : Int) 5000 = (k : Int) := ⟨min t.length 5000, Nat.min_le_left _ _, Nat.min_le_right _ _, by omega⟩
  have hrun := run_upto_str t k hk1
  have hsz := str_len t
  have hm : ∀ d ∈ t.take k, d < 256 := fun d hd => ht d (List.mem_of_mem_take hd)
  have hml : (t.take k).length ≤ 5000 := by rw [List.length_take]; omega
  generalize t.take k = m at *
  have hsm := str_len m
  have HFL := Lib.hid (fit_of (l := l) (by omega) HB1.out)
  clear ht il
  by_cases gl : 4000 < countC l
  · have HG : Hid (∀ W, Below w.heap.size w W → Calls Try.prog 16 #[va] W fun e w' => e = .returned (.bool true) ∧ Below W.heap.size W w') := Lib.hid fun W hb => (great_is l (SlI.below cmd_ok hx hb) (by omega)).mono (by rintro e w' ⟨rfl, h⟩; rw [decide_eq_true gl]; exact ⟨rfl, h⟩)
    clear hx nl wl gl hm hml
    generalize str t = s at *
    go_enter Try.func5, Try.ntmps5
    go_wp2_with fail
    refine (alive_true w).mono ?_
    rintro e w1 ⟨rfl, hb1⟩
    have X1 := Lib.hid hb1
    clear hb1
    go_wp2_with fail
    refine (HG.out w1 X1.out).mono ?_
    rintro e w2 ⟨rfl, hb2⟩
    have X2 := Lib.hid (X1.out.trans (hb2.mono X1.out.size))
    clear hb2
    go_wp2_with fail
    refine (alive_true w2).mono ?_
    rintro e w3 ⟨rfl, hb3⟩
    have X3 := Lib.hid (X2.out.trans (hb3.mono X2.out.size))
    clear hb3
    go_wp2_with fail
    go_ret
    exact ⟨rfl, X3.out⟩
  · have HG : Hid (∀ W, Below w.heap.size w W → Calls Try.prog 16 #[va] W fun e w' => e = .returned (.bool false) ∧ Below W.heap.size W w') := Lib.hid fun W hb => (great_is l (SlI.below cmd_ok hx hb) (by omega)).mono (by rintro e w' ⟨rfl, h⟩; rw [decide_eq_false gl]; exact ⟨rfl, h⟩)
    have HPR : Hid (∀ W, Below w.heap.size w W → Calls Try.prog 17 #[va] W (PrintTo W l)) := Lib.hid fun W hb => Print_is l (SlI.below cmd_ok hx hb) ⟨by omega, HB1.out⟩
    have HWL := Lib.hid (show weightC l ≤ 262144 by omega)
    have HM := Lib.hid hm
    have HS := Lib.hid (parseR_small m hm (by omega))
    have HC := Lib.hid (parseR_cases m)
    clear hx nl wl gl hm
    by_cases hpo : printOk l
    · obtain ⟨l', ha1, ha2, ha3⟩ := back_of hpo HB1.out HWL.out
      have HFL2 := Lib.hid ha3
      have HSA := Lib.hid ha2
      have HPT := Lib.hid (fun W => parse_at (printT_bytes HB1.out) (by have := printT_len l; have := HWL.out; omega) ha1 W)
      have HPR2 : Hid (∀ W, Below w.heap.size w W → Calls Try.prog 17 #[va] W fun e w' => e = .returned (.tuple #[.string (str (printT l)), .int .i64 0]) ∧ Below W.heap.size W w') := Lib.hid fun W hb => (HPR.out W hb).mono (by
        rintro e w' ⟨T, R, rfl, h1, _, hb⟩
        obtain ⟨rfl, rfl⟩ := h1 hpo
        exact ⟨rfl, hb⟩)
      clear hpo ha1 ha2 ha3 HPR
      generalize str (printT l) = x at *
      rcases HC.out with ⟨cs, hpm, _⟩ | ⟨pl, er, hpm, hpl, hpe4, hpe7⟩
      · have HSO : Hid (weightC cs ≤ 6 * m.length ∧ (∀ c ∈ cs, bytesC c) ∧ printOk cs) := Lib.hid (by have h := HS.out; rw [hpm] at h; exact h)
        have hwc : weightC cs ≤ 30000 := by have := HSO.out.1; omega
        have HF3 := Lib.hid (fit_of (l := cs) (by omega) HSO.out.2.1)
        obtain ⟨cs', hb1, hb2, hb3⟩ := back_of HSO.out.2.2 HSO.out.2.1 (by omega)
        have HF4 := Lib.hid hb3
        have HSB := Lib.hid hb2
        have HPM : Hid (∀ W, _) := Lib.hid (fun W => parse_at HM.out (by omega) hpm W)
        have HPB := Lib.hid (fun W => parse_at (printT_bytes HSO.out.2.1) (by have := printT_len cs; omega) hb1 W)
        have HP2 : Hid (∀ W v, Cmds all W v cs → Calls Try.prog 17 #[v] W fun e w' => e = .returned (.tuple #[.string (str (printT cs)), .int .i64 0]) ∧ Below W.heap.size W w') := Lib.hid fun W v hc => (Print_is cs hc ⟨by omega, HSO.out.2.1⟩).mono (by
          rintro e w' ⟨T, R, rfl, h1, _, hb⟩
          obtain ⟨rfl, rfl⟩ := h1 HSO.out.2.2
          exact ⟨rfl, hb⟩)
        clear hpm hwc hb1 hb2 hb3 HS
        generalize hst : str t = s at *
        generalize hsu : str m = u at *
        generalize str (printT cs) = y at *
        go_enter Try.func5, Try.ntmps5
        go_wp2_with fail
        refine (alive_true w).mono ?_
        rintro e w1 ⟨rfl, hb1⟩
        have X1 := Lib.hid hb1
        clear hb1
        go_wp2_with fail
        refine (HG.out w1 X1.out).mono ?_
        rintro e w2 ⟨rfl, hb2⟩
        have X2 := Lib.hid (X1.out.trans (hb2.mono X1.out.size))
        clear hb2
        go_wp2_with fail
        refine (HPR2.out w2 X2.out).mono ?_
        rintro e w3 ⟨rfl, hb3⟩
        have X3 := Lib.hid (X2.out.trans (hb3.mono X2.out.size))
        clear hb3
        go_wp2_with fail
        refine (HPT.out w3).mono ?_
        rintro e w4 ⟨v4, rfl, hc4, hb4⟩
        have X4 := Lib.hid (And.intro hc4 (X3.out.trans (hb4.mono X3.out.size)))
        clear hc4 hb4
        go_wp2_with fail
        refine (RSame_is l l' (SlI.below cmd_ok HX.out X4.out.2) X4.out.1 HFL.out HFL2.out).mono ?_
        intro e w5 h5
        obtain ⟨rfl, hb5⟩ := h5.yes HSA.out
        have X5 := Lib.hid (X4.out.2.trans (hb5.mono X4.out.2.size))
        clear h5 hb5
        generalize w5 = wz at *
        have XZ := X5
        go_wp2_with fail
        refine (HPM.out wz).mono ?_
        rintro e w6 ⟨v6, rfl, hc6, hb6⟩
        have X6 := Lib.hid (And.intro hc6 (XZ.out.trans (hb6.mono XZ.out.size)))
        clear hc6 hb6
        go_wp2_with fail
        refine (HP2.out w6 v6 X6.out.1).mono ?_
        rintro e w7 ⟨rfl, hb7⟩
        have X7 := Lib.hid (And.intro (SlI.below cmd_ok X6.out.1 hb7) (X6.out.2.trans (hb7.mono X6.out.2.size)))
        clear hb7
        go_wp2_with fail
        refine (HPB.out w7).mono ?_
        rintro e w8 ⟨v8, rfl, hc8, hb8⟩
        have X8 := Lib.hid (And.intro (SlI.below cmd_ok X7.out.1 hb8) (And.intro hc8 (X7.out.2.trans (hb8.mono X7.out.2.size))))
        clear hc8 hb8
        go_wp2_with fail
        refine (RSame_is cs cs' X8.out.1 X8.out.2.1 HF3.out HF4.out).mono ?_
        intro e w9 h9
        obtain ⟨rfl, hb9⟩ := h9.yes HSB.out
        have X9 := Lib.hid (X8.out.2.2.trans (hb9.mono X8.out.2.2.size))
        clear h9 hb9
        go_wp2_with fail
        go_ret
        exact ⟨rfl, X9.out⟩
      · have HPM := Lib.hid (fun W => parse_at HM.out (by omega) hpm W)
        have q1 : ((er : Int) != 0) = true := by simp; omega
        have q3 : decide ((0 : Int) ≤ (pl : Int)) = true := decide_eq_true (by omega)
        have q4 : decide ((pl : Int) ≤ (m.length : Int)) = true := decide_eq_true (by omega)
        have q4n : decide (pl ≤ m.length) = true := decide_eq_true (by omega)
        clear hpm hpe4 hpe7
        generalize hst : str t = s at *
        generalize hsu : str m = u at *
        go_enter Try.func5, Try.ntmps5
        go_wp2_with fail
        refine (alive_true w).mono ?_
        rintro e w1 ⟨rfl, hb1⟩
        have X1 := Lib.hid hb1
        clear hb1
        go_wp2_with fail
        refine (HG.out w1 X1.out).mono ?_
        rintro e w2 ⟨rfl, hb2⟩
        have X2 := Lib.hid (X1.out.trans (hb2.mono X1.out.size))
        clear hb2
        go_wp2_with fail
        refine (HPR2.out w2 X2.out).mono ?_
        rintro e w3 ⟨rfl, hb3⟩
        have X3 := Lib.hid (X2.out.trans (hb3.mono X2.out.size))
        clear hb3
        go_wp2_with fail
        refine (HPT.out w3).mono ?_
        rintro e w4 ⟨v4, rfl, hc4, hb4⟩
        have X4 := Lib.hid (And.intro hc4 (X3.out.trans (hb4.mono X3.out.size)))
        clear hc4 hb4
        go_wp2_with fail
        refine (RSame_is l l' (SlI.below cmd_ok HX.out X4.out.2) X4.out.1 HFL.out HFL2.out).mono ?_
        intro e w5 h5
        obtain ⟨rfl, hb5⟩ := h5.yes HSA.out
        have X5 := Lib.hid (X4.out.2.trans (hb5.mono X4.out.2.size))
        clear h5 hb5
        generalize w5 = wz at *
        have XZ := X5
        go_wp2_with fail
        refine (HPM.out wz).mono ?_
        rintro e w6 ⟨v6, rfl, hc6, hb6⟩
        obtain ⟨A6, c6, rfl, _⟩ := hc6.form
        have X6 := Lib.hid (XZ.out.trans (hb6.mono XZ.out.size))
        clear hc6 hb6
        simp only [List.length_nil] at *
        go_wp2_with fail
        go_ret
        exact ⟨rfl, X6.out⟩
    · have HPR2 : Hid (∀ W, Below w.heap.size w W → Calls Try.prog 17 #[va] W fun e w' => e = .returned (.tuple #[.string ⟨#[]⟩, .int .i64 2]) ∧ Below W.heap.size W w') := Lib.hid fun W hb => (HPR.out W hb).mono (by
        rintro e w' ⟨T, R, rfl, _, h1, hb⟩
        obtain ⟨rfl, rfl⟩ := h1 hpo
        exact ⟨rfl, hb⟩)
      clear hpo HPR
      rcases HC.out with ⟨cs, hpm, _⟩ | ⟨pl, er, hpm, hpl, hpe4, hpe7⟩
      · have HSO : Hid (weightC cs ≤ 6 * m.length ∧ (∀ c ∈ cs, bytesC c) ∧ printOk cs) := Lib.hid (by have h := HS.out; rw [hpm] at h; exact h)
        have hwc : weightC cs ≤ 30000 := by have := HSO.out.1; omega
        have HF3 := Lib.hid (fit_of (l := cs) (by omega) HSO.out.2.1)
        obtain ⟨cs', hb1, hb2, hb3⟩ := back_of HSO.out.2.2 HSO.out.2.1 (by omega)
        have HF4 := Lib.hid hb3
        have HSB := Lib.hid hb2
        have HPM : Hid (∀ W, _) := Lib.hid (fun W => parse_at HM.out (by omega) hpm W)
        have HPB := Lib.hid (fun W => parse_at (printT_bytes HSO.out.2.1) (by have := printT_len cs; omega) hb1 W)
        have HP2 : Hid (∀ W v, Cmds all W v cs → Calls Try.prog 17 #[v] W fun e w' => e = .returned (.tuple #[.string (str (printT cs)), .int .i64 0]) ∧ Below W.heap.size W w') := Lib.hid fun W v hc => (Print_is cs hc ⟨by omega, HSO.out.2.1⟩).mono (by
          rintro e w' ⟨T, R, rfl, h1, _, hb⟩
          obtain ⟨rfl, rfl⟩ := h1 HSO.out.2.2
          exact ⟨rfl, hb⟩)
        clear hpm hwc hb1 hb2 hb3 HS
        generalize hst : str t = s at *
        generalize hsu : str m = u at *
        generalize str (printT cs) = y at *
        go_enter Try.func5, Try.ntmps5
        go_wp2_with fail
        refine (alive_true w).mono ?_
        rintro e w1 ⟨rfl, hb1⟩
        have X1 := Lib.hid hb1
        clear hb1
        go_wp2_with fail
        refine (HG.out w1 X1.out).mono ?_
        rintro e w2 ⟨rfl, hb2⟩
        have X2 := Lib.hid (X1.out.trans (hb2.mono X1.out.size))
        clear hb2
        go_wp2_with fail
        refine (HPR2.out w2 X2.out).mono ?_
        rintro e w3 ⟨rfl, hb3⟩
        have X3 := Lib.hid (X2.out.trans (hb3.mono X2.out.size))
        clear hb3
        generalize w3 = wz at *
        have XZ := X3
        go_wp2_with fail
        refine (HPM.out wz).mono ?_
        rintro e w6 ⟨v6, rfl, hc6, hb6⟩
        have X6 := Lib.hid (And.intro hc6 (XZ.out.trans (hb6.mono XZ.out.size)))
        clear hc6 hb6
        go_wp2_with fail
        refine (HP2.out w6 v6 X6.out.1).mono ?_
        rintro e w7 ⟨rfl, hb7⟩
        have X7 := Lib.hid (And.intro (SlI.below cmd_ok X6.out.1 hb7) (X6.out.2.trans (hb7.mono X6.out.2.size)))
        clear hb7
        go_wp2_with fail
        refine (HPB.out w7).mono ?_
        rintro e w8 ⟨v8, rfl, hc8, hb8⟩
        have X8 := Lib.hid (And.intro (SlI.below cmd_ok X7.out.1 hb8) (And.intro hc8 (X7.out.2.trans (hb8.mono X7.out.2.size))))
        clear hc8 hb8
        go_wp2_with fail
        refine (RSame_is cs cs' X8.out.1 X8.out.2.1 HF3.out HF4.out).mono ?_
        intro e w9 h9
        obtain ⟨rfl, hb9⟩ := h9.yes HSB.out
        have X9 := Lib.hid (X8.out.2.2.trans (hb9.mono X8.out.2.2.size))
        clear h9 hb9
        go_wp2_with fail
        go_ret
        exact ⟨rfl, X9.out⟩
      · have HPM := Lib.hid (fun W => parse_at HM.out (by omega) hpm W)
        have q1 : ((er : Int) != 0) = true := by simp; omega
        have q3 : decide ((0 : Int) ≤ (pl : Int)) = true := decide_eq_true (by omega)
        have q4 : decide ((pl : Int) ≤ (m.length : Int)) = true := decide_eq_true (by omega)
        have q4n : decide (pl ≤ m.length) = true := decide_eq_true (by omega)
        clear hpm hpe4 hpe7
        generalize hst : str t = s at *
        generalize hsu : str m = u at *
        go_enter Try.func5, Try.ntmps5
        go_wp2_with fail
        refine (alive_true w).mono ?_
        rintro e w1 ⟨rfl, hb1⟩
        have X1 := Lib.hid hb1
        clear hb1
        go_wp2_with fail
        refine (HG.out w1 X1.out).mono ?_
        rintro e w2 ⟨rfl, hb2⟩
        have X2 := Lib.hid (X1.out.trans (hb2.mono X1.out.size))
        clear hb2
        go_wp2_with fail
        refine (HPR2.out w2 X2.out).mono ?_
        rintro e w3 ⟨rfl, hb3⟩
        have X3 := Lib.hid (X2.out.trans (hb3.mono X2.out.size))
        clear hb3
        generalize w3 = wz at *
        have XZ := X3
        go_wp2_with fail
        refine (HPM.out wz).mono ?_
        rintro e w6 ⟨v6, rfl, hc6, hb6⟩
        obtain ⟨A6, c6, rfl, _⟩ := hc6.form
        have X6 := Lib.hid (XZ.out.trans (hb6.mono XZ.out.size))
        clear hc6 hb6
        simp only [List.length_nil] at *
        go_wp2_with fail
        go_ret
        exact ⟨rfl, X6.out⟩
end Go.Proofs.Ytphmhglebeapaaa
