/-
  cuecardlaw02.VaryGets answers true for all bytes and every place.
  Conditions: none.
-/
import Derived.Test.YtmgmklhajapebaaRGet
import Derived.Test.YtmgmklhajapebaaVAlive
namespace Go.Proofs.Ytmgmklhajapebaa
open Go.RowKit

/-- What both Gets tell: one triple. -/
theorem Gets_both (A : Option Addr) (n c : Nat) (bs : List Nat) (at_ : Int) (hb : ∀ b ∈ bs, b < 256) (hn : n ≤ 9223372036854775807) :
    ∃ r : Nat × Nat × Nat, (∀ w, Rd w (.slice A n c) (bv bs) → Calls Try.prog 16 #[.slice A n c, .int .i64 at_] w (Told w r)) ∧ (∀ w, Rd w (.slice A n c) (bv bs) → Calls Try.prog 17 #[.slice A n c, .int .i64 at_] w (Tells w r)) := by
  by_cases h : at_ < 0 ∨ (n : Int) < at_
  · exact ⟨(0, 0, 3), fun w _ => Get_range A n c at_ w h, fun w _ => RGet_range A n c at_ w h⟩
  · obtain ⟨a, rfl⟩ : ∃ a : Nat, at_ = (a : Int) := ⟨at_.toNat, by omega⟩
    exact ⟨getIn bs a, fun w hr => Get_in A n c a bs w hr hb hn (by omega), fun w hr => RGet_in A n c a bs w hr hb hn (by omega)⟩

set_option maxHeartbeats 1000000 in
set_option maxRecDepth 100000 in
theorem gets_true (A : Option Addr) (n c : Nat) (bs : List Nat) (at_ : Int) (w : World) (hr : Rd w (.slice A n c) (bv bs)) (hb : ∀ b ∈ bs, b < 256) (hn : n ≤ 9223372036854775807) (_ : -9223372036854775808 ≤ at_) (_ : at_ ≤ 9223372036854775807) :
    Calls Try.prog 4 #[.slice A n c, .int .i64 at_] w fun e w' => e = .returned (.bool true) ∧ Below w.heap.size w w' := by
  obtain ⟨r, g1, g2⟩ := Gets_both A n c bs at_ hb hn
  have G1 := Lib.hid (g1 w hr)
  have G2 := Lib.hid (g2 w hr)
  clear g1 g2 hr hb
  go_enter Try.func4, Try.ntmps4
  go_wp2_with fail
  refine G1.out.mono ?_
  rintro e w1 ⟨rfl, rfl⟩
  go_wp2_with fail
  refine G2.out.mono ?_
  rintro e w1 ⟨rfl, h1⟩
  have H1 := Lib.hid h1
  clear h1
  go_wp2_with fail
  refine (alive_true w1).mono ?_
  rintro e w2 ⟨rfl, h2⟩
  have H2 : Hid (Below w.heap.size w w2) := H1.out.trans (h2.mono H1.out.size)
  clear h2 H1
  go_wp2_with fail
  go_ret
  exact ⟨rfl, H2.out⟩
end Go.Proofs.Ytmgmklhajapebaa
