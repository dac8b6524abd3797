/-
  The law WindowNews.
  Conditions: none.
-/
import Derived.Test.YtkfpameaopjjnaaWnOps
namespace Go.Proofs.Ytkfpameaopjjnaa
open Go.RowKit

set_option maxRecDepth 100000 in
set_option maxHeartbeats 2000000 in
theorem news_true (z : Int) (hz : -9223372036854775808 ≤ z ∧ z ≤ 9223372036854775807) (w : World) : Calls Try.prog 4 #[.int .i64 z] w fun e w' => e = .returned (.bool true) ∧ Below w.heap.size w w' := by
  obtain ⟨hz1, hz2⟩ := hz
  go_enter Try.func4, Try.ntmps4
  have X0 := Lib.hid ((Below.refl _ w).alloc (Nat.le_refl _) (.cells #[.int .u8 1] 5))
  go_wp2_with fail
  refine (NPut_is _ _).mono ?_
  rintro e w1 ⟨rfl, hb⟩
  have X1 := Lib.hid (X0.out.trans (hb.mono X0.out.size))
  clear hb X0
  go_wp2_with fail
  refine (NCut_is _).mono ?_
  rintro e w2 ⟨rfl, hb⟩
  have X2 := Lib.hid (X1.out.trans (hb.mono X1.out.size))
  clear hb X1
  go_wp2_with fail
  refine (NMost_is _).mono ?_
  rintro e w3 ⟨rfl, hb⟩
  have X3 := Lib.hid (X2.out.trans (hb.mono X2.out.size))
  clear hb X2
  go_wp2_with fail
  refine (NBytes_is _).mono ?_
  rintro e w4 ⟨⟨A4, c4, rfl⟩, hb⟩
  have X4 := Lib.hid (X3.out.trans (hb.mono X3.out.size))
  clear hb X3
  go_wp2_with fail
  refine (NTotal_is _).mono ?_
  rintro e w5 ⟨rfl, hb⟩
  have X5 := Lib.hid (X4.out.trans (hb.mono X4.out.size))
  clear hb X4
  go_wp2_with fail
  refine (NHeld_is _).mono ?_
  rintro e w6 ⟨rfl, hb⟩
  have X6 := Lib.hid (X5.out.trans (hb.mono X5.out.size))
  clear hb X5
  go_wp2_with fail
  by_cases hr : z < 1 ∨ 1048576 < z
  · refine (New_bad z hr _).mono ?_
    rintro e w7 ⟨rfl, hb⟩
    have X7 := Lib.hid (X6.out.trans (hb.mono X6.out.size))
    clear hb X6
    rcases hr with hr | hr
    all_goals
      go_wp2_with fail
      refine (alive_true _).mono ?_
      rintro e w8 ⟨rfl, hb⟩
      have X8 := Lib.hid (X7.out.trans (hb.mono X7.out.size))
      clear hb X7
      go_wp2_with fail
      go_ret
      exact ⟨rfl, X8.out⟩
  · obtain ⟨n, rfl⟩ : ∃ n : Nat, z = (n : Int) := ⟨z.toNat, by omega⟩
    have h1 : ¬ (n : Int) < 1 := by omega
    have h2 : ¬ (1048576 : Int) < (n : Int) := by omega
    refine (new_has n (by omega) (by omega) X6.out).mono ?_
    rintro e w7 ⟨b, rfl, hw⟩
    have H7 := Lib.hid hw
    clear hw hr
    go_wp2_with fail
    refine (alive_true _).mono ?_
    rintro e w8 ⟨rfl, hb⟩
    have H8 := Lib.hid (H7.out.keep (win_framed _ _ _ _ _) hb)
    clear hb H7
    go_wp2_with fail
    refine (bytes_1 H8.out).mono ?_
    rintro e w9 ⟨A9, c9, g9, rfl, -, -, hb⟩
    have H9 := Lib.hid (H8.out.keep (win_framed _ _ _ _ _) hb)
    clear hb H8
    go_wp2_with fail
    obtain ⟨F9, h9⟩ := H9.out
    refine (Total_is h9.it).mono ?_
    rintro e w10 ⟨rfl, hd⟩
    have H10 := Lib.hid (H9.out.drewL (win_framed _ _ _ _ _) hd)
    clear hd h9
    go_wp2_with fail
    go_ret
    exact ⟨rfl, H10.out.below⟩
end Go.Proofs.Ytkfpameaopjjnaa
