/-
  The law TurnEvents: of any turns the events, and how much was said by whom ahead of any of them, are the document's.
  Conditions: turns and bytes together at most 1048576.
-/
import Derived.Test.YtchfiiiippnigaaTnAlive
import Derived.Test.YtchfiiiippnigaaEvSame
namespace Go.Proofs.Ytchfiiiippnigaa
open Go.RowKit

set_option maxRecDepth 100000 in
set_option maxHeartbeats 4000000 in
theorem events_true (v : Value) (t : List Tn) (i : Int) (w : World) (h : Tns w v t) (hby : TnBytes t) (hw : t.length + (outs t).length + (inns t).length ≤ 1048576) (_ : -9223372036854775808 ≤ i ∧ i ≤ 9223372036854775807) :
    Calls Try.prog 4 #[v, .int .i64 i] w fun e w' => e = .returned (.bool true) ∧ Below w.heap.size w w' := by
  have H := Lib.hid (And.intro h hby)
  have HB : Hid (told i t ≤ 1048576 ∧ seen i t ≤ 1048576) := Lib.hid ⟨by have := told_le i t t.length; rw [told_all] at this; omega, by have := seen_le i t t.length; rw [seen_all] at this; omega⟩
  have E1 : Hid (∀ W, Below w.heap.size w W → Calls Try.prog 15 #[v] W (EvtTo W (tevs t))) := Lib.hid fun W hb => Events_is t v W (h.below hb) hby (by omega) (by omega)
  have E2 : Hid (∀ W, Below w.heap.size w W → Calls Try.prog 16 #[v] W (EvtTo W (tevs t))) := Lib.hid fun W hb => REvents_is t v W (h.below hb) hby (by omega) (by omega)
  have T1 : Hid (∀ W, Below w.heap.size w W → Calls Try.prog 17 #[.int .i64 i, v] W fun e w' => e = .returned (.int .i64 (told i t : Nat)) ∧ Below W.heap.size W w') := Lib.hid fun W hb => Told_is i t v W (h.below hb) (by omega) (by omega)
  have T2 : Hid (∀ W, Below w.heap.size w W → Calls Try.prog 18 #[.int .i64 i, v] W fun e w' => e = .returned (.int .i64 (told i t : Nat)) ∧ w' = W) := Lib.hid fun W hb => RTold_is i t v W (h.below hb) (by omega) (by omega)
  have S1 : Hid (∀ W, Below w.heap.size w W → Calls Try.prog 19 #[.int .i64 i, v] W fun e w' => e = .returned (.int .i64 (seen i t : Nat)) ∧ Below W.heap.size W w') := Lib.hid fun W hb => Seen_is i t v W (h.below hb) (by omega) (by omega)
  have S2 : Hid (∀ W, Below w.heap.size w W → Calls Try.prog 20 #[.int .i64 i, v] W fun e w' => e = .returned (.int .i64 (seen i t : Nat)) ∧ w' = W) := Lib.hid fun W hb => RSeen_is i t v W (h.below hb) (by omega) (by omega)
  clear h hby
  generalize told i t = a at *
  generalize seen i t = b at *
  generalize tevs t = ps at *
  go_enter Try.func4, Try.ntmps4
  go_wp2_with (first
    | (go_at_call 9; refine (alive_true w).mono ?_; rintro e w1 ⟨rfl, hb1⟩; have X1 := Lib.hid hb1; clear hb1)
    | (go_at_call 15; refine (E1.out w1 X1.out).mono ?_; rintro e w2 ⟨A2, c2, l2, rfl, hl2, hp2, hb2⟩; have X2 := Lib.hid (And.intro (X1.out.trans (hb2.mono X1.out.size)) (And.intro hl2 hp2)); clear hb2 hl2 hp2)
    | (go_at_call 16; refine (E2.out w2 X2.out.1).mono ?_; rintro e w3 ⟨A3, c3, l3, rfl, hl3, hp3, hb3⟩; have X3 := Lib.hid (And.intro (X2.out.1.trans (hb3.mono X2.out.1.size)) (And.intro (X2.out.2.1.below hb3) (And.intro hl3 hp3))); clear hb3 hl3 hp3)
    | (go_at_call 14; refine (RSame_any _ _ l2 l3 w3 X3.out.2.1 X3.out.2.2.1).mono ?_; rw [decide_eq_true (X2.out.2.2.trans X3.out.2.2.2.symm)]; rintro e w4 ⟨rfl, hb4⟩; have X4 := Lib.hid (X3.out.1.trans (hb4.mono X3.out.1.size)); clear hb4)
    | (go_at_call 17; refine (T1.out w4 X4.out).mono ?_; rintro e w5 ⟨rfl, hb5⟩; have X5 := Lib.hid (X4.out.trans (hb5.mono X4.out.size)); clear hb5)
    | (go_at_call 18; refine (T2.out w5 X5.out).mono ?_; rintro e w6 ⟨rfl, rfl⟩)
    | (go_at_call 19; refine (S1.out _ X5.out).mono ?_; rintro e w7 ⟨rfl, hb7⟩; have X7 := Lib.hid (X5.out.trans (hb7.mono X5.out.size)); clear hb7)
    | (go_at_call 20; refine (S2.out w7 X7.out).mono ?_; rintro e w8 ⟨rfl, rfl⟩))
  go_ret
  exact ⟨rfl, X7.out⟩
end Go.Proofs.Ytchfiiiippnigaa
