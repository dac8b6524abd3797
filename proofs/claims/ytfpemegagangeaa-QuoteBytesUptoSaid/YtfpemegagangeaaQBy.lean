/-
  The law QuoteBytes: plain bytes, octal digits, what is quoted.
  Conditions: at most 1048576 bytes.
-/
import Derived.Test.YtfpemegagangeaaQAlive
namespace Go.Proofs.Ytfpemegagangeaa
open Go.RowKit

set_option maxRecDepth 100000 in
set_option maxHeartbeats 2000000 in
theorem bytes_true (A : Option Addr) (n c : Nat) (b : List Nat) (x : Nat) (w : World) (h : Rd w (.slice A n c) (bv b)) (hb : ∀ d ∈ b, d < 256) (hn : b.length ≤ 1048576) (hx : x < 256) :
    Calls Try.prog 3 #[.slice A n c, .int .u8 (x : Nat)] w fun e w' => e = .returned (.bool true) ∧ Below w.heap.size w w' := by
  have HE := Lib.hid (And.intro h hb)
  have HP : Hid (∀ W, Calls Try.prog 10 #[.int .u8 (x : Nat)] W fun e w' => e = .returned (.bool (plain x)) ∧ Below W.heap.size W w') := Lib.hid fun W => Plain_is x hx W
  have HRP : Hid (∀ W, Calls Try.prog 11 #[.int .u8 (x : Nat)] W fun e w' => e = .returned (.bool (plain x)) ∧ W = w') := Lib.hid fun W => RPlain_is x hx W
  have HO : Hid (∀ W, Calls Try.prog 12 #[.int .u8 (x : Nat)] W fun e w' => e = .returned (.string (str (octs x))) ∧ Below W.heap.size W w') := Lib.hid fun W => Octal_is x hx W
  have HRO : Hid (∀ W, Calls Try.prog 13 #[.int .u8 (x : Nat)] W fun e w' => e = .returned (.string (str (octs x))) ∧ Below W.heap.size W w') := Lib.hid fun W => ROctal_is x hx W
  have HQ : Hid (∀ W, Below w.heap.size w W → Calls Try.prog 14 #[.slice A n c] W fun e w' => e = .returned (.string (str (quoteL b))) ∧ Below W.heap.size W w') := Lib.hid fun W hW => Quote_is A n c b W (h.kept hW) hb (by omega)
  have HRQ : Hid (∀ W, Below w.heap.size w W → Calls Try.prog 15 #[.slice A n c] W fun e w' => e = .returned (.string (str (quoteL b))) ∧ Below W.heap.size W w') := Lib.hid fun W hW => RQuote_is A n c b W (h.kept hW) hb (by omega)
  clear h hb hx
  generalize str (quoteL b) = s1 at *
  generalize str (octs x) = s2 at *
  generalize plain x = p at *
  go_enter Try.func3, Try.ntmps3
  go_wp2_with (first
    | (go_at_call 9; (with_reducible refine (alive_true w).mono ?_); rintro e w1 ⟨rfl, hb1⟩; have Y1 := Lib.hid hb1; clear hb1)
    | (go_at_call 10; (with_reducible refine (HP.out w1).mono ?_); rintro e w2 ⟨rfl, hb2⟩; have Y2 := Lib.hid (Y1.out.trans (hb2.mono Y1.out.size)); clear hb2)
    | (go_at_call 11; (with_reducible refine (HRP.out w2).mono ?_); rintro e w3 ⟨rfl, rfl⟩)
    | (go_at_call 12; (with_reducible refine (HO.out w2).mono ?_); rintro e w4 ⟨rfl, hb4⟩; have Y4 := Lib.hid (Y2.out.trans (hb4.mono Y2.out.size)); clear hb4)
    | (go_at_call 13; (with_reducible refine (HRO.out w4).mono ?_); rintro e w5 ⟨rfl, hb5⟩; have Y5 := Lib.hid (Y4.out.trans (hb5.mono Y4.out.size)); clear hb5)
    | (go_at_call 14; (with_reducible refine (HQ.out w5 Y5.out).mono ?_); rintro e w6 ⟨rfl, hb6⟩; have Y6 := Lib.hid (Y5.out.trans (hb6.mono Y5.out.size)); clear hb6)
    | (go_at_call 15; (with_reducible refine (HRQ.out w6 Y6.out).mono ?_); rintro e w7 ⟨rfl, hb7⟩; have Y7 := Lib.hid (Y6.out.trans (hb7.mono Y6.out.size)); clear hb7))
  go_ret
  exact ⟨rfl, Y7.out⟩
end Go.Proofs.Ytfpemegagangeaa
