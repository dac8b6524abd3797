/-
  The law GlobMatches.
  Conditions: strings of at most 140737488351232 bytes.
-/
import Derived.Test.YtgocngglpdgaiaaGlLaw
namespace Go.Proofs.Ytgocngglpdgaiaa
open Go.RowKit

set_option maxRecDepth 100000 in
set_option maxHeartbeats 2000000 in
theorem matches_true (p t : List Nat) (w : World) (hp : ∀ d ∈ p, d < 256) (ht : ∀ d ∈ t, d < 256) (hn : p.length ≤ 140737488351232) (hm : t.length ≤ 140737488351232) :
    Calls Try.prog 3 #[.string (str p), .string (str t)] w fun e w' => e = .returned (.bool true) ∧ Below w.heap.size w w' := by
  have HG := Lib.hid (great_is p t hn hm)
  have HM := Lib.hid (Match_is p t hp (by omega) ht hm)
  have HC := Lib.hid (Check_is p hp (by omega))
  have HT := Lib.hid (RThings_is p hp (by omega))
  have HL := Lib.hid ht
  have h6 := err_small p
  clear hp ht
  go_enter Try.func3, Try.ntmps3
  go_wp2_with fail
  refine (alive_true w).mono ?_
  rintro e w1 ⟨rfl, hb1⟩
  have X1 := Lib.hid hb1
  clear hb1
  go_wp2_with fail
  refine (HG.out w1).mono ?_
  rintro e w2 ⟨rfl, rfl⟩
  by_cases hg : 120 < t.length ∨ 60 < p.length ∧ p.length ≤ 1024
  · rw [decide_eq_true hg]
    go_wp2_with fail
    refine (alive_true w1).mono ?_
    rintro e w3 ⟨rfl, hb3⟩
    have X3 := Lib.hid (X1.out.trans (hb3.mono X1.out.size))
    clear hb3
    go_wp2_with fail
    go_ret
    exact ⟨rfl, X3.out⟩
  rw [decide_eq_false hg]
  go_wp2_with fail
  refine (HT.out w1).mono ?_
  intro e w2 hth
  by_cases he : errS p = 0
  · obtain ⟨v, l, rfl, hr, hk, hl, hb2⟩ := hth.ok he
    have ho := ok_is (err_zero he).1 hk t
    rw [he] at HM HC
    rw [ho] at HM
    have X2 := Lib.hid (And.intro (X1.out.trans (hb2.mono X1.out.size)) hr)
    clear hth hb2 hr X1
    go_wp2_with fail
    refine (HM.out w2).mono ?_
    rintro e w3 ⟨rfl, hb3⟩
    have X3 := Lib.hid (And.intro (X2.out.1.trans (hb3.mono X2.out.1.size)) (X2.out.2.kept hb3))
    clear hb3 X2
    go_wp2_with fail
    refine (HC.out w3).mono ?_
    rintro e w4 ⟨rfl, hb4⟩
    have X4 := Lib.hid (And.intro (X3.out.1.trans (hb4.mono X3.out.1.size)) (X3.out.2.kept hb4))
    clear hb4 X3
    go_wp2_with fail
    refine (RLike_is v l t HL.out (by omega) hl w4 X4.out.2).mono ?_
    rintro e w5 ⟨rfl, hb5⟩
    have X5 := Lib.hid (X4.out.1.trans (hb5.mono X4.out.1.size))
    clear hb5 X4
    go_wp2_with fail
    go_ret
    exact ⟨ret_bool (by simp), X5.out⟩
  · obtain ⟨rfl, hb2⟩ := hth.err he
    have ho := ok_not he t
    rw [ho] at HM
    have X2 := Lib.hid (X1.out.trans (hb2.mono X1.out.size))
    clear hth hb2 X1
    generalize errS p = q at *
    go_wp2_with fail
    refine (HM.out w2).mono ?_
    rintro e w3 ⟨rfl, hb3⟩
    have X3 := Lib.hid (X2.out.trans (hb3.mono X2.out.size))
    clear hb3 X2
    go_wp2_with fail
    refine (HC.out w3).mono ?_
    rintro e w4 ⟨rfl, hb4⟩
    have X4 := Lib.hid (X3.out.trans (hb4.mono X3.out.size))
    clear hb4 X3
    go_wp2_with fail
    go_ret
    exact ⟨rfl, X4.out⟩
end Go.Proofs.Ytgocngglpdgaiaa
