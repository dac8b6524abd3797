/-
  cuecardlaw06.PtyNews answers true for every two numbers.
  Conditions: the package's table holds what its initialiser lays (Oth).
-/
import Derived.Test.YtniikeciccfjoaaDoorPAlive
namespace Go.Proofs.YtniikeciccfjoaaDoor
open Go.RowKit

set_option maxHeartbeats 2000000 in
set_option maxRecDepth 100000 in
theorem news_true (room side : Int) (w : World) (ho : Oth w) : Calls Tryd.prog 4 #[.int .i64 room, .int .i64 side] w fun e w' => e = .returned (.bool true) ∧ Below w.heap.size w w' := by
  have HO := Lib.hid ho
  clear ho
  go_enter Tryd.func4, Tryd.ntmps4
  go_wp2_with (first
    | (go_at_call 12; refine (PHang_nil side _).mono ?_; rintro e w' ⟨rfl, rfl⟩)
    | (go_at_call 13; refine (PWrite_nil side _ _ _ _).mono ?_; rintro e w' ⟨rfl, rfl⟩; have HO1 : Hid (Oth (w.alloc (.cells #[.int .u8 1] 5))) := HO.out.below ((Below.refl _ w).alloc (Nat.le_refl _) _))
    | (go_at_call 14; refine (PRead_nil side 1 _ HO1.out).mono ?_; rintro e w' ⟨rfl, rfl⟩)
    | (go_at_call 15; refine (POver_nil side _ HO1.out).mono ?_; rintro e w' ⟨rfl, rfl⟩)
    | (go_at_call 16; refine (PWaits_nil side _ HO1.out).mono ?_; rintro e w' ⟨rfl, rfl⟩)
    | (go_at_call 17; refine (PRoom_nil side _).mono ?_; rintro e w' ⟨rfl, rfl⟩))
  have B1 : Hid (Below w.heap.size w (w.alloc (.cells #[.int .u8 1] 5))) := (Below.refl _ w).alloc (Nat.le_refl _) _
  generalize hw1 : w.alloc (.cells #[.int .u8 1] 5) = w1 at *
  clear hw1
  by_cases hr : room < 1 ∨ 65536 < room
  · refine (PNew_no room w1 hr).mono ?_
    rintro e w2 ⟨rfl, hb2⟩
    have B2 : Hid (Below w.heap.size w w2) := B1.out.trans (hb2.mono B1.out.size)
    have HA : Hid (Calls Tryd.prog 8 #[] w2 fun e w' => e = .returned (.bool true) ∧ Below w2.heap.size w2 w') := alive_true w2 (HO1.out.below hb2)
    clear hb2
    have HE : Hid (∀ w3, Below w2.heap.size w2 w3 → Below w.heap.size w w3) := fun w3 hb => B2.out.trans (hb.mono B2.out.size)
    rcases hr with h1 | h1
    · go_wp2_with (go_at_call 8; refine HA.out.mono ?_; rintro e w3 ⟨rfl, hb3⟩; have B3 := Lib.hid hb3; clear hb3)
      go_ret
      exact ⟨rfl, HE.out w3 B3.out⟩
    · have h2 : ¬ room < 1 := by omega
      go_wp2_with (go_at_call 8; refine HA.out.mono ?_; rintro e w3 ⟨rfl, hb3⟩; have B3 := Lib.hid hb3; clear hb3)
      go_ret
      exact ⟨rfl, HE.out w3 B3.out⟩
  · obtain ⟨r, rfl⟩ := Int.eq_ofNat_of_zero_le (show 0 ≤ room by omega)
    have h1 : 1 ≤ r := by omega
    have h2 : r ≤ 65536 := by omega
    have h3 : ¬ ((r : Int) < 1) := by omega
    have h4 : ¬ ((65536 : Int) < r) := by omega
    clear hr
    refine (PNew_yes r w1 h1 h2).mono ?_
    rintro e w2 ⟨rfl, hq, hb2⟩
    have B2 : Hid (POwn w w2 w1.heap.size r (fun _ => ⟨false, []⟩)) := POwn.new B1.out hq hb2
    have HA : Hid (Calls Tryd.prog 8 #[] w2 fun e w' => e = .returned (.bool true) ∧ Below w2.heap.size w2 w') := alive_true w2 (HO1.out.below hb2)
    clear hb2 hq
    generalize w1.heap.size = p at *
    go_wp2_with fail
    refine HA.out.mono ?_
    rintro e w3 ⟨rfl, hb3⟩
    have B3 : Hid (POwn w w3 p r (fun _ => ⟨false, []⟩)) := B2.out.keep hb3
    clear hb3
    go_wp2_with fail
    have P1 : Calls Tryd.prog 17 #[.pointer (some ⟨p, 0, none⟩), .int .i64 0] w3 fun e w' => e = .returned (.int .i64 r) ∧ ∃ n, w' = w3.drewN n := by
      simpa [roomOf] using RoomOwn B3.out 0 (by omega)
    refine P1.mono ?_
    rintro e w' ⟨rfl, n1, rfl⟩
    clear P1
    go_wp2_with fail
    have P2 : Calls Tryd.prog 17 #[.pointer (some ⟨p, 0, none⟩), .int .i64 1] (w3.drewN n1) fun e w' => e = .returned (.int .i64 r) ∧ ∃ n, w' = (w3.drewN n1).drewN n := by
      simpa [roomOf] using RoomOwn (B3.out.drewN n1) 1 (by omega)
    refine P2.mono ?_
    rintro e w' ⟨rfl, n2, rfl⟩
    clear P2
    go_wp2_with fail
    have P3 : Calls Tryd.prog 15 #[.pointer (some ⟨p, 0, none⟩), .int .i64 0] (w3.drewN (n1 + n2)) fun e w' => e = .returned (.bool false) ∧ w3.drewN (n1 + n2) = w' := OverOwn (B3.out.drewN (n1 + n2)) HO.out 0 (by omega)
    refine P3.mono ?_
    rintro e w' ⟨rfl, rfl⟩
    clear P3
    go_wp2_with fail
    go_ret
    exact ⟨rfl, (B3.out.drewN (n1 + n2)).below⟩
end Go.Proofs.YtniikeciccfjoaaDoor
