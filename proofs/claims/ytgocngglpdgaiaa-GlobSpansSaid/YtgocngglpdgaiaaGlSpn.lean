/-
  The law GlobSpans.
  Conditions: strings of at most 140737488351232 bytes.
-/
import Derived.Test.YtgocngglpdgaiaaGlLaw
namespace Go.Proofs.Ytgocngglpdgaiaa
open Go.RowKit

set_option maxRecDepth 100000 in
set_option maxHeartbeats 2000000 in
theorem spans_true (p t : List Nat) (z : Int) (w : World) (hp : ∀ d ∈ p, d < 256) (ht : ∀ d ∈ t, d < 256) (hn : p.length ≤ 140737488351232) (hm : t.length ≤ 140737488351232) (hz : -9223372036854775808 ≤ z ∧ z ≤ 9223372036854775807) :
    Calls Try.prog 4 #[.string (str p), .string (str t), .int .i64 z] w fun e w' => e = .returned (.bool true) ∧ Below w.heap.size w w' := by
  have HG := Lib.hid (great_is p t hn hm)
  have HM := Lib.hid (Span_is p t hp (by omega) ht hm z hz)
  have HT := Lib.hid (RThings_is p hp (by omega))
  have HL := Lib.hid ht
  have h6 := err_small p
  clear hp ht
  go_enter Try.func4, Try.ntmps4
  go_wp2_with fail
  refine (alive_true w).mono ?_
  rintro e w1 ⟨rfl, hb1⟩
  have X1 := Lib.hid hb1
  clear hb1
  go_wp2_with fail
  refine (HG.out w1).mono ?_
  rintro e w2 ⟨rfl, rfl⟩
  by_cases hg : 120 < t.length ∨ 60 < p.length ∧ p.length ≤ 1024
  · rw [decide_eq_true hg]
    go_wp2_with fail
    refine (alive_true w1).mono ?_
    rintro e w3 ⟨rfl, hb3⟩
    have X3 := Lib.hid (X1.out.trans (hb3.mono X1.out.size))
    clear hb3
    go_wp2_with fail
    go_ret
    exact ⟨rfl, X3.out⟩
  rw [decide_eq_false hg]
  go_wp2_with fail
  refine (HT.out w1).mono ?_
  intro e w2 hth
  by_cases he : errS p = 0
  · obtain ⟨v, l, rfl, hr, hk, hl, hb2⟩ := hth.ok he
    have ho := place_is (err_zero he).1 hk t z
    rw [he, ho] at HM
    have HS := Lib.hid (fun W hr => RSpan_is v l t HL.out (by omega) hl z W hr)
    have X2 := Lib.hid (And.intro (X1.out.trans (hb2.mono X1.out.size)) hr)
    clear hth hb2 hr X1 ho
    cases hq : spanS l t z with
    | none =>
      rw [hq] at HM HS
      rw [show spanE none 0 = .tuple #[.int .i64 0, .bool false, .int .i64 0] from rfl] at HM
      rw [show spanV none = .tuple #[.int .i64 0, .bool false] from rfl] at HS
      go_wp2_with fail
      refine (HM.out w2).mono ?_
      rintro e w3 ⟨rfl, hb3⟩
      have X3 := Lib.hid (And.intro (X2.out.1.trans (hb3.mono X2.out.1.size)) (X2.out.2.kept hb3))
      clear hb3 X2
      go_wp2_with fail
      refine (HS.out w3 X3.out.2).mono ?_
      rintro e w4 ⟨rfl, hb4⟩
      have X4 := Lib.hid (X3.out.1.trans (hb4.mono X3.out.1.size))
      clear hb4 X3
      go_wp2_with fail
      go_ret
      exact ⟨rfl, X4.out⟩
    | some k =>
      rw [hq] at HM HS
      rw [show spanE (some k) 0 = .tuple #[.int .i64 (k : Nat), .bool true, .int .i64 0] from rfl] at HM
      rw [show spanV (some k) = .tuple #[.int .i64 (k : Nat), .bool true] from rfl] at HS
      go_wp2_with fail
      refine (HM.out w2).mono ?_
      rintro e w3 ⟨rfl, hb3⟩
      have X3 := Lib.hid (And.intro (X2.out.1.trans (hb3.mono X2.out.1.size)) (X2.out.2.kept hb3))
      clear hb3 X2
      go_wp2_with fail
      refine (HS.out w3 X3.out.2).mono ?_
      rintro e w4 ⟨rfl, hb4⟩
      have X4 := Lib.hid (X3.out.1.trans (hb4.mono X3.out.1.size))
      clear hb4 X3
      go_wp2_with fail
      go_ret
      exact ⟨rfl, X4.out⟩
  · obtain ⟨rfl, hb2⟩ := hth.err he
    have ho := place_not he t z
    rw [ho, show spanE none (errS p) = .tuple #[.int .i64 0, .bool false, .int .i64 (errS p : Nat)] from rfl] at HM
    have X2 := Lib.hid (X1.out.trans (hb2.mono X1.out.size))
    clear hth hb2 X1 ho
    generalize errS p = q at *
    have he2 : ¬ (q : Int) = 0 := by omega
    go_wp2_with fail
    refine (HM.out w2).mono ?_
    rintro e w3 ⟨rfl, hb3⟩
    have X3 := Lib.hid (X2.out.trans (hb3.mono X2.out.size))
    clear hb3 X2
    go_wp2_with fail
    go_ret
    exact ⟨rfl, X3.out⟩
end Go.Proofs.Ytgocngglpdgaiaa
