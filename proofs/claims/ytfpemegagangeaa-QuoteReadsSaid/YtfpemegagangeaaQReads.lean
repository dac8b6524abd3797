/-
  The law QuoteReads: what a text between quotes tells, and an escape at any place.
  Conditions: at most 140737488351232 bytes.
-/
import Derived.Test.YtfpemegagangeaaQAlive
namespace Go.Proofs.Ytfpemegagangeaa
open Go.RowKit

set_option maxRecDepth 100000 in
set_option maxHeartbeats 2000000 in
theorem reads_true (l : List Nat) (z : Int) (w : World) (hl : ∀ d ∈ l, d < 256) (hn : l.length ≤ 140737488351232) (hz : -9223372036854775808 ≤ z ∧ z ≤ 9223372036854775807) :
    Calls Try.prog 4 #[.string (str l), .int .i64 z] w fun e w' => e = .returned (.bool true) ∧ Below w.heap.size w w' := by
  have HU := Lib.hid (Unquote_is l hl hn w)
  have HRU := Lib.hid (RUnquote_is l hl hn)
  have HE := Lib.hid (Escape_is l hl hn z hz)
  have HRE := Lib.hid (REscape_is l hl (by omega) z)
  clear hz hl hn
  unfold EscTo at HRE
  unfold UnqTo at HU HRU
  generalize (escape l z).1 = x1 at *
  generalize (escape l z).2.1 = x2 at *
  generalize (escape l z).2.2 = x3 at *
  generalize (unquoteL l).2.1 = y1 at *
  generalize (unquoteL l).2.2 = y2 at *
  generalize (unquoteL l).1 = m at *
  generalize str l = s at *
  go_enter Try.func4, Try.ntmps4
  go_wp2_with fail
  refine HU.out.mono ?_
  rintro e w1 ⟨A1, n1, c1, rfl, hr1, rfl, hb1⟩
  have X1 := Lib.hid (And.intro hb1 hr1)
  clear hb1 hr1 HU
  go_wp2_with fail
  refine (HRU.out w1).mono ?_
  rintro e w2 ⟨A2, n2, c2, rfl, hr2, rfl, hb2⟩
  have X2 := Lib.hid (And.intro (X1.out.1.trans (hb2.mono X1.out.1.size)) (And.intro (X1.out.2.kept hb2) hr2))
  clear hb2 hr2 HRU X1
  go_wp2_with fail
  refine (HE.out w2).mono ?_
  rintro e w3 ⟨rfl, hb3⟩
  have X3 := Lib.hid (And.intro (X2.out.1.trans (hb3.mono X2.out.1.size)) (And.intro (X2.out.2.1.kept hb3) (X2.out.2.2.kept hb3)))
  clear hb3 HE X2
  go_wp2_with fail
  refine (HRE.out w3).mono ?_
  rintro e w4 ⟨rfl, rfl⟩
  go_wp2_with fail
  refine (alive_true w3).mono ?_
  rintro e w5 ⟨rfl, hb5⟩
  have s1 := run_str (X3.out.2.1.kept hb5)
  have s2 := run_str (X3.out.2.2.kept hb5)
  have X5 := Lib.hid (X3.out.1.trans (hb5.mono X3.out.1.size))
  clear hb5 X3 HRE
  generalize str m = t at *
  go_wp2_with fail
  go_ret
  exact ⟨rfl, X5.out⟩
end Go.Proofs.Ytfpemegagangeaa
