/-
  The law TclPrints.
  Conditions: at most 1048576 things in each list.
-/
import Derived.Test.YtphmhglebeapaaaTclLaw
import Derived.Test.YtphmhglebeapaaaTclBulk
namespace Go.Proofs.Ytphmhglebeapaaa
open Go.RowKit

theorem in_bytes {l : List Cmd} (h : ∀ c ∈ l, CmdIn c) : ∀ c ∈ l, bytesC c := fun c hc x hx p hp => ((((h c hc).1 x hx).2.1 p hp)).1
set_option maxRecDepth 100000 in
set_option maxHeartbeats 4000000 in
theorem prints_true (l m : List Cmd) {va vb : Value} (w : World) (hx : Cmds all w va l) (hy : Cmds all w vb m) (il : ∀ c ∈ l, CmdIn c) (im : ∀ c ∈ m, CmdIn c) (nl : countC l ≤ 1048576) (nm : countC m ≤ 1048576) :
    Calls Try.prog 4 #[va, vb] w fun e w' => e = .returned (.bool true) ∧ Below w.heap.size w w' := by
  have wl := weightC_count l
  have wm := weightC_count m
  have HFL := Lib.hid (fit_of (by omega) (in_bytes il))
  have HFM := Lib.hid (fit_of (by omega) (in_bytes im))
  obtain ⟨T, R, _, _, hdet⟩ := print_det l
  have HD := Lib.hid hdet
  have HX := Lib.hid hx
  have HY := Lib.hid hy
  have HB1 := Lib.hid (in_bytes il)
  clear hdet
  by_cases gl : 4000 < countC l
  · have HG : Hid (∀ W, Below w.heap.size w W → Calls Try.prog 16 #[va] W fun e w' => e = .returned (.bool true) ∧ Below W.heap.size W w') := Lib.hid fun W hb => (great_is l (SlI.below cmd_ok hx hb) (by omega)).mono (by rintro e w' ⟨rfl, h⟩; rw [decide_eq_true gl]; exact ⟨rfl, h⟩)
    clear hx hy il im nl nm wl wm gl
    go_enter Try.func4, Try.ntmps4
    go_wp2_with fail
    refine (alive_true w).mono ?_
    rintro e w1 ⟨rfl, hb1⟩
    have X1 := Lib.hid hb1
    clear hb1
    go_wp2_with fail
    refine (HG.out w1 X1.out).mono ?_
    rintro e w2 ⟨rfl, hb2⟩
    have X2 := Lib.hid (X1.out.trans (hb2.mono X1.out.size))
    clear hb2
    go_wp2_with fail
    refine (alive_true w2).mono ?_
    rintro e w3 ⟨rfl, hb3⟩
    have X3 := Lib.hid (X2.out.trans (hb3.mono X2.out.size))
    clear hb3
    go_wp2_with fail
    go_ret
    exact ⟨rfl, X3.out⟩
  · have HG : Hid (∀ W, Below w.heap.size w W → Calls Try.prog 16 #[va] W fun e w' => e = .returned (.bool false) ∧ Below W.heap.size W w') := Lib.hid fun W hb => (great_is l (SlI.below cmd_ok hx hb) (by omega)).mono (by rintro e w' ⟨rfl, h⟩; rw [decide_eq_false gl]; exact ⟨rfl, h⟩)
    by_cases gm : 4000 < countC m
    · have HH : Hid (∀ W, Below w.heap.size w W → Calls Try.prog 16 #[vb] W fun e w' => e = .returned (.bool true) ∧ Below W.heap.size W w') := Lib.hid fun W hb => (great_is m (SlI.below cmd_ok hy hb) (by omega)).mono (by rintro e w' ⟨rfl, h⟩; rw [decide_eq_true gm]; exact ⟨rfl, h⟩)
      clear hx hy il im nl nm wl wm gl gm
      go_enter Try.func4, Try.ntmps4
      go_wp2_with fail
      refine (alive_true w).mono ?_
      rintro e w1 ⟨rfl, hb1⟩
      have X1 := Lib.hid hb1
      clear hb1
      go_wp2_with fail
      refine (HG.out w1 X1.out).mono ?_
      rintro e w2 ⟨rfl, hb2⟩
      have X2 := Lib.hid (X1.out.trans (hb2.mono X1.out.size))
      clear hb2
      go_wp2_with fail
      refine (HH.out w2 X2.out).mono ?_
      rintro e w3 ⟨rfl, hb3⟩
      have X3 := Lib.hid (X2.out.trans (hb3.mono X2.out.size))
      clear hb3
      go_wp2_with fail
      refine (alive_true w3).mono ?_
      rintro e w4 ⟨rfl, hb4⟩
      have X4 := Lib.hid (X3.out.trans (hb4.mono X3.out.size))
      clear hb4
      go_wp2_with fail
      go_ret
      exact ⟨rfl, X4.out⟩
    · have HH : Hid (∀ W, Below w.heap.size w W → Calls Try.prog 16 #[vb] W fun e w' => e = .returned (.bool false) ∧ Below W.heap.size W w') := Lib.hid fun W hb => (great_is m (SlI.below cmd_ok hy hb) (by omega)).mono (by rintro e w' ⟨rfl, h⟩; rw [decide_eq_false gm]; exact ⟨rfl, h⟩)
      have HP : Hid (∀ W, Below w.heap.size w W → Calls Try.prog 17 #[va] W fun e w' => e = .returned (.tuple #[.string (str T), .int .i64 R]) ∧ Below W.heap.size W w') := Lib.hid fun W hb => (Print_is l (SlI.below cmd_ok hx hb) ⟨by omega, HB1.out⟩).mono fun e w' h => HD.out W e w' h
      have HQ : Hid (∀ W, Below w.heap.size w W → Calls Try.prog 18 #[va] W fun e w' => e = .returned (.tuple #[.string (str T), .int .i64 R]) ∧ Below W.heap.size W w') := Lib.hid fun W hb => (RPrint_is l (SlI.below cmd_ok hx hb) ⟨by omega, HB1.out⟩).mono fun e w' h => HD.out W e w' h
      clear hx hy il im nl nm wl wm gl gm HD
      generalize str T = s at *
      go_enter Try.func4, Try.ntmps4
      go_wp2_with fail
      refine (alive_true w).mono ?_
      rintro e w1 ⟨rfl, hb1⟩
      have X1 := Lib.hid hb1
      clear hb1
      go_wp2_with fail
      refine (HG.out w1 X1.out).mono ?_
      rintro e w2 ⟨rfl, hb2⟩
      have X2 := Lib.hid (X1.out.trans (hb2.mono X1.out.size))
      clear hb2
      go_wp2_with fail
      refine (HH.out w2 X2.out).mono ?_
      rintro e w3 ⟨rfl, hb3⟩
      have X3 := Lib.hid (X2.out.trans (hb3.mono X2.out.size))
      clear hb3
      go_wp2_with fail
      refine (HP.out w3 X3.out).mono ?_
      rintro e w4 ⟨rfl, hb4⟩
      have X4 := Lib.hid (X3.out.trans (hb4.mono X3.out.size))
      clear hb4
      go_wp2_with fail
      refine (HQ.out w4 X4.out).mono ?_
      rintro e w5 ⟨rfl, hb5⟩
      have X5 := Lib.hid (X4.out.trans (hb5.mono X4.out.size))
      clear hb5
      go_wp2_with fail
      refine (Same_is l m (SlI.below cmd_ok HX.out X5.out) (SlI.below cmd_ok HY.out X5.out) HFL.out HFM.out).mono ?_
      rintro e w6 ⟨⟨r1, rfl, hr1⟩, hb6⟩
      have X6 := Lib.hid (X5.out.trans (hb6.mono X5.out.size))
      have HR1 := Lib.hid hr1
      clear hb6 hr1
      go_wp2_with fail
      refine (RSame_is l m (SlI.below cmd_ok HX.out X6.out) (SlI.below cmd_ok HY.out X6.out) HFL.out HFM.out).mono ?_
      rintro e w7 ⟨⟨r2, rfl, hr2⟩, hb7⟩
      have X7 := Lib.hid (X6.out.trans (hb7.mono X6.out.size))
      have hrr : r2 = r1 := by
        have h := HR1.out
        cases r1 <;> cases r2 <;> simp_all
      subst hrr
      clear hb7 hr2 HR1
      go_wp2_with fail
      refine (Same_is l l (SlI.below cmd_ok HX.out X7.out) (SlI.below cmd_ok HX.out X7.out) HFL.out HFL.out).mono ?_
      intro e w8 h8
      obtain ⟨rfl, hb8⟩ := h8.yes (samesC_refl l)
      have X8 := Lib.hid (X7.out.trans (hb8.mono X7.out.size))
      clear h8 hb8
      go_wp2_with fail
      go_ret
      exact ⟨rfl, X8.out⟩
end Go.Proofs.Ytphmhglebeapaaa
