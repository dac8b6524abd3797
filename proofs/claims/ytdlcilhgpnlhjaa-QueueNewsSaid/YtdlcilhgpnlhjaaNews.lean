/-
  cuecardlaw01.QueueNews answers true for every number.
  Conditions: none.
-/
import Derived.Test.YtdlcilhgpnlhjaaIter
import Derived.Test.YtdlcilhgpnlhjaaQs
namespace Go.Proofs.Ytdlcilhgpnlhjaa
open Go.RowKit

set_option maxHeartbeats 2000000 in
set_option maxRecDepth 100000 in
theorem news_true (room : Int) (w : World) : Calls Try.prog 4 #[.int .i64 room] w fun e w' => e = .returned (.bool true) ∧ Below w.heap.size w w' := by
  by_cases hr : room < 1 ∨ 65536 < room
  · have HR := Lib.hid hr
    clear hr
    go_enter Try.func4, Try.ntmps4
    go_wp2_with fail
    refine (alive_true w).mono ?_
    rintro e w1 ⟨rfl, hb1⟩
    have B1 := Lib.hid hb1
    clear hb1
    go_wp2_with (first
      | (go_at_call 19; refine (End_nil _).mono ?_; rintro e w' ⟨rfl, rfl⟩)
      | (go_at_call 12; refine (Put_nil _ _ _ _).mono ?_; rintro e w' ⟨rfl, rfl⟩)
      | (go_at_call 15; refine (Take_nil _ _).mono ?_; rintro e w' ⟨rfl, rfl⟩)
      | (go_at_call 17; refine (Peek_nil _ _).mono ?_; rintro e w' ⟨rfl, rfl⟩)
      | (go_at_call 20; refine (Len_nil _).mono ?_; rintro e w' ⟨rfl, rfl⟩)
      | (go_at_call 21; refine (Room_nil _).mono ?_; rintro e w' ⟨rfl, rfl⟩)
      | (go_at_call 23; refine (Over_nil _).mono ?_; rintro e w' ⟨rfl, rfl⟩))
    refine (all_of (.pointer none) [] (by simp) _ (All_nil _)).mono ?_
    rintro e w3 ⟨A, c, rfl, -, hb3⟩
    have B3 : Hid (Below w.heap.size w w3) := (B1.out.alloc B1.out.size _).trans (hb3.mono (by have := B1.out.size; simp; omega))
    clear hb3 B1
    go_wp2_with fail
    refine (Str.New_no room _ HR.out).mono ?_
    rintro e w4 ⟨rfl, rfl⟩
    rcases HR.out with h1 | h1
    · go_wp2
      go_ret
      exact ⟨rfl, B3.out⟩
    · have h2 : ¬ room < 1 := by omega
      go_wp2
      go_ret
      exact ⟨rfl, B3.out⟩
  · obtain ⟨r, rfl⟩ := Int.eq_ofNat_of_zero_le (show 0 ≤ room by omega)
    have h1 : 1 ≤ r := by omega
    have h2 : r ≤ 65536 := by omega
    have h3 : ¬ ((r : Int) < 1) := by omega
    have h4 : ¬ ((65536 : Int) < r) := by omega
    clear hr
    go_enter Try.func4, Try.ntmps4
    go_wp2_with fail
    refine (alive_true w).mono ?_
    rintro e w1 ⟨rfl, hb1⟩
    have B1 := Lib.hid hb1
    clear hb1
    go_wp2_with (first
      | (go_at_call 19; refine (End_nil _).mono ?_; rintro e w' ⟨rfl, rfl⟩)
      | (go_at_call 12; refine (Put_nil _ _ _ _).mono ?_; rintro e w' ⟨rfl, rfl⟩)
      | (go_at_call 15; refine (Take_nil _ _).mono ?_; rintro e w' ⟨rfl, rfl⟩)
      | (go_at_call 17; refine (Peek_nil _ _).mono ?_; rintro e w' ⟨rfl, rfl⟩)
      | (go_at_call 20; refine (Len_nil _).mono ?_; rintro e w' ⟨rfl, rfl⟩)
      | (go_at_call 21; refine (Room_nil _).mono ?_; rintro e w' ⟨rfl, rfl⟩)
      | (go_at_call 23; refine (Over_nil _).mono ?_; rintro e w' ⟨rfl, rfl⟩))
    refine (all_of (.pointer none) [] (by simp) _ (All_nil _)).mono ?_
    rintro e w3 ⟨A, c, rfl, -, hb3⟩
    have B3 : Hid (Below w.heap.size w w3) := (B1.out.alloc B1.out.size _).trans (hb3.mono (by have := B1.out.size; simp; omega))
    clear hb3 B1
    go_wp2_with fail
    refine (Str.New_yes r _ h1 h2).mono ?_
    rintro e w4 ⟨rfl, hq, hb4, -⟩
    have B4 : Hid (Below w.heap.size w w4 ∧ Str.QAt w4 w3.heap.size none r false []) := ⟨B3.out.trans (hb4.mono B3.out.size), hq⟩
    clear hq hb4
    go_wp2_with fail
    have P1 : Calls Try.prog 26 #[.pointer (some ⟨w3.heap.size, 0, none⟩)] w4 fun e w' => e = .returned (.int .i64 r) ∧ ∃ n, w' = w4.drewN n := by
      have := Str.Room_at B4.out.2 h2 (by simp)
      simpa [Str.roomOf] using this
    refine P1.mono ?_
    clear P1
    rintro e w5 ⟨rfl, nd, rfl⟩
    go_wp2_with fail
    refine (Str.Len_at (B4.out.2.drewN nd)).mono ?_
    rintro e w5 ⟨rfl, rfl⟩
    go_wp2_with fail
    refine (Str.Over_at (B4.out.2.drewN nd)).mono ?_
    rintro e w5 ⟨rfl, rfl⟩
    go_wp2
    go_ret
    have hb := B4.out.1
    exact ⟨rfl, ⟨hb.os, hb.tape, hb.output, hb.size, hb.block⟩⟩
end Go.Proofs.Ytdlcilhgpnlhjaa
