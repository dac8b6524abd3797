/-
  cuecardlaw02.VaryRises answers true for every two numbers.
  Conditions: none.
-/
import Derived.Test.YtmgmklhajapebaaVAlive
namespace Go.Proofs.Ytmgmklhajapebaa
open Go.RowKit

theorem zig_up (p q : Nat) (h : p ≤ q) : zig ((p : Int) / 2) ≤ zig ((q : Int) / 2) := by
  unfold zig; rw [if_neg (by omega), if_neg (by omega)]; omega
theorem zig_down (p q : Nat) (h : p ≤ q) : zig (-((p : Int) / 2) - 1) ≤ zig (-((q : Int) / 2) - 1) := by
  unfold zig; rw [if_pos (by omega), if_pos (by omega)]; omega

set_option maxHeartbeats 1000000 in
set_option maxRecDepth 100000 in
theorem rises_true (x y : Nat) (w : World) (hx : x < 18446744073709551616) (hy : y < 18446744073709551616) :
    Calls Try.prog 8 #[.int .u64 x, .int .u64 y] w fun e w' => e = .returned (.bool true) ∧ Below w.heap.size w w' := by
  by_cases hxy : y < x
  · have u1 := zig_up y x (by omega)
    have u2 := zig_down y x (by omega)
    have l1 := Var.enc_pos y
    have l2 := Var.enc_mono x y (by omega)
    have l3 := Var.enc_len10 hx
    have l4 : (1 : Int) ≤ (Var.enc y).length := by omega
    have l5 : 1 ≤ (Var.enc y).length := by omega
    go_enter Try.func8, Try.ntmps8
    go_wp2_with fail
    refine (Put_any y w hy).mono ?_
    rintro e w1 ⟨A, c, g, rfl, -, -, hb⟩
    have H1 := Lib.hid hb
    clear hb
    go_wp2_with fail
    refine (Put_any x w1 hx).mono ?_
    rintro e w2 ⟨A2, c2, g2, rfl, -, -, hb⟩
    have H2 : Hid (Below w.heap.size w w2) := H1.out.trans (hb.mono H1.out.size)
    clear hb H1
    go_wp2_with fail
    refine (alive_true w2).mono ?_
    rintro e w3 ⟨rfl, hb⟩
    have H3 : Hid (Below w.heap.size w w3) := H2.out.trans (hb.mono H2.out.size)
    clear hb H2
    go_wp2_with fail
    refine (Zig_any _ _ (by omega) (by omega)).mono ?_
    rintro e w4 ⟨rfl, rfl⟩
    go_wp2_with fail
    refine (Zig_any _ _ (by omega) (by omega)).mono ?_
    rintro e w4 ⟨rfl, rfl⟩
    go_wp2_with fail
    refine (Zig_any _ _ (by omega) (by omega)).mono ?_
    rintro e w4 ⟨rfl, rfl⟩
    go_wp2_with fail
    refine (Zig_any _ _ (by omega) (by omega)).mono ?_
    rintro e w4 ⟨rfl, rfl⟩
    go_wp2_with fail
    go_ret
    exact ⟨rfl, H3.out⟩
  · have u1 := zig_up x y (by omega)
    have u2 := zig_down x y (by omega)
    have l1 := Var.enc_pos x
    have l2 := Var.enc_mono y x (by omega)
    have l3 := Var.enc_len10 hy
    have l4 : (1 : Int) ≤ (Var.enc x).length := by omega
    have l5 : 1 ≤ (Var.enc x).length := by omega
    go_enter Try.func8, Try.ntmps8
    go_wp2_with fail
    refine (Put_any x w hx).mono ?_
    rintro e w1 ⟨A, c, g, rfl, -, -, hb⟩
    have H1 := Lib.hid hb
    clear hb
    go_wp2_with fail
    refine (Put_any y w1 hy).mono ?_
    rintro e w2 ⟨A2, c2, g2, rfl, -, -, hb⟩
    have H2 : Hid (Below w.heap.size w w2) := H1.out.trans (hb.mono H1.out.size)
    clear hb H1
    go_wp2_with fail
    refine (alive_true w2).mono ?_
    rintro e w3 ⟨rfl, hb⟩
    have H3 : Hid (Below w.heap.size w w3) := H2.out.trans (hb.mono H2.out.size)
    clear hb H2
    go_wp2_with fail
    refine (Zig_any _ _ (by omega) (by omega)).mono ?_
    rintro e w4 ⟨rfl, rfl⟩
    go_wp2_with fail
    refine (Zig_any _ _ (by omega) (by omega)).mono ?_
    rintro e w4 ⟨rfl, rfl⟩
    go_wp2_with fail
    refine (Zig_any _ _ (by omega) (by omega)).mono ?_
    rintro e w4 ⟨rfl, rfl⟩
    go_wp2_with fail
    refine (Zig_any _ _ (by omega) (by omega)).mono ?_
    rintro e w4 ⟨rfl, rfl⟩
    go_wp2_with fail
    go_ret
    exact ⟨rfl, H3.out⟩
end Go.Proofs.Ytmgmklhajapebaa
