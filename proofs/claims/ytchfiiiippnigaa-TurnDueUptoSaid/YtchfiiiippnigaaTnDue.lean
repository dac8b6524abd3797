/-
  The law TurnDue: what the child may have said, when it was told what was said ahead of a turn's answer, is what was seen up to that turn.
  Conditions: events and bytes together at most 1048576.
-/
import Derived.Test.YtchfiiiippnigaaTnAlive
namespace Go.Proofs.Ytchfiiiippnigaa
open Go.RowKit

set_option maxRecDepth 100000 in
set_option maxHeartbeats 4000000 in
theorem due_true (v : Value) (L : List Ev) (w : World) (h : Evs w v L) (hw : L.length + whole (pes L) ≤ 1048576) :
    Calls Try.prog 7 #[v] w fun e w' => e = .returned (.bool true) ∧ Below w.heap.size w w' := by
  have HO := Lib.hid (Of_is v L w h (by omega))
  obtain ⟨hby, hl, ho, hi⟩ := turns_small h hw
  have hs := turns_sound (pes L)
  clear h
  generalize turns (pes L) = t at *
  have HS := Lib.hid (And.intro hby hs)
  have HD : Hid (∀ k : Nat, k < t.length → due (told k t : Nat) (tevs t) = seen k t ∧ (0 < k → due ((told k t : Int) - 1) (tevs t) < seen k t) ∧ told k t ≤ 1048576 ∧ seen k t ≤ 1048576) := Lib.hid fun k hk =>
    ⟨due_told hs hk, fun h0 => due_less hs h0 hk, by have := told_le k t t.length; rw [told_all] at this; omega, by have := seen_le k t t.length; rw [seen_all] at this; omega⟩
  have HW : Hid (whole (tevs t) ≤ 4611686018427387904) := Lib.hid (by rw [whole_tevs]; omega)
  clear hby hs
  go_enter Try.func7, Try.ntmps7
  go_wp2_with fail
  refine HO.out.mono ?_
  rintro e w1 ⟨A1, c1, rfl, ht, hb1⟩
  have X1 := Lib.hid (And.intro hb1 ht)
  clear hb1 ht HO
  go_wp2
  go_loopw [11] (fun i wr => ∃ k : Nat, k ≤ t.length ∧ i = .int .i64 k ∧ Hid (Below w1.heap.size w1 wr)) (fun i _ => t.length - (intOf i).toNat)
  case atStart => exact ⟨0, by omega, rfl, Lib.hid (Below.refl _ _)⟩
  case round =>
    obtain ⟨k, hk, rfl, HB⟩ := hrel
    by_cases hlt : k < t.length
    · obtain ⟨d1, d2, b1, b2⟩ := HD.out k hlt
      have X2 := Lib.hid (X1.out.2.below HB.out)
      have T1 := Lib.hid (Told_is k t _ wr X2.out (by omega) (by omega))
      have HDD := Lib.hid (And.intro d1 d2)
      clear d1 d2
      generalize told k t = a at *
      generalize hsb : seen k t = b at *
      go_wp2_with fail
      refine T1.out.mono ?_
      rintro e w2 ⟨rfl, hb2⟩
      have X3 := Lib.hid (X2.out.below hb2)
      have S1 := Lib.hid (Seen_is k t _ w2 X3.out (by omega) (by omega))
      have B3 := Lib.hid (HB.out.trans (hb2.mono HB.out.size))
      rw [hsb] at S1
      clear hb2 T1 X2 HB
      go_wp2_with fail
      refine S1.out.mono ?_
      rintro e w3 ⟨rfl, hb3⟩
      have X4 := Lib.hid (X3.out.below hb3)
      have B4 := Lib.hid (B3.out.trans (hb3.mono B3.out.size))
      have E1 := Lib.hid (REvents_is t _ w3 X4.out HS.out.1 hl (by omega))
      clear hb3 S1 X3 B3 hsb
      go_wp2_with fail
      refine E1.out.mono ?_
      rintro e w4 ⟨A4, c4, l4, rfl, hl4, hp4, hb4⟩
      have X5 := Lib.hid (X4.out.below hb4)
      have B5 := Lib.hid (B4.out.trans (hb4.mono B4.out.size))
      have D1 := Lib.hid (RDue_any a _ l4 w4 hl4 (by rw [hp4]; exact HW.out))
      rw [hp4, HDD.out.1] at D1
      clear hl4 hp4 hb4 E1 X4 B4
      go_wp2_with fail
      refine D1.out.mono ?_
      rintro e w5 ⟨rfl, rfl⟩
      by_cases hk0 : k = 0
      · have q1 : decide (0 < k) = false := by simp; omega
        have q2 : decide ((0 : Int) < (k : Int)) = false := by simp; omega
        clear hk0
        go_wp2
        go_roundw
        case rel => exact ⟨k + 1, by omega, by go_num, B5⟩
        case measure => simp [intOf]; omega
      · have q1 : decide (0 < k) = true := by simp; omega
        have hdl := HDD.out.2 (by omega)
        have E2 := Lib.hid (REvents_is t _ w4 X5.out HS.out.1 hl (by omega))
        clear hk0 D1
        go_wp2_with fail
        refine E2.out.mono ?_
        rintro e w6 ⟨A6, c6, l6, rfl, hl6, hp6, hb6⟩
        have B6 := Lib.hid (B5.out.trans (hb6.mono B5.out.size))
        have D2 := Lib.hid (RDue_any ((a : Int) - 1) _ l6 w6 hl6 (by rw [hp6]; exact HW.out))
        rw [hp6] at D2
        generalize due ((a : Int) - 1) (tevs t) = dd at *
        have q3 : decide (b ≤ dd) = false := by simp; omega
        have q4 : decide ((b : Int) ≤ (dd : Int)) = false := by simp; omega
        clear hl6 hp6 hb6 E2 hdl
        go_wp2_with fail
        refine D2.out.mono ?_
        rintro e w7 ⟨rfl, rfl⟩
        go_wp2
        go_roundw
        case rel => exact ⟨k + 1, by omega, by go_num, B6⟩
        case measure => simp [intOf]; omega
    · obtain rfl : k = t.length := by omega
      have X2 := Lib.hid (X1.out.1.trans (HB.out.mono X1.out.1.size))
      go_wp2_with (go_at_call 9; refine (alive_true wr).mono ?_; rintro e w6 ⟨rfl, hb6⟩; have X6 := Lib.hid (X2.out.trans (hb6.mono X2.out.size)); clear hb6)
      go_ret
      exact ⟨rfl, X6.out⟩
end Go.Proofs.Ytchfiiiippnigaa
