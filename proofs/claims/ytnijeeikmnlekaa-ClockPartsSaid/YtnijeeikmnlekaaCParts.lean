/-
  cuecardlaw03.ClockParts answers true for all times.
  Conditions: none.
-/
import Derived.Test.YtnijeeikmnlekaaTimes
import Derived.Deep.QuietTactic
import Derived.BigQuiet
namespace Go.Proofs.Ytnijeeikmnlekaa
open Go.RowKit

/-- Two clocks of the call's own, each at its own place. -/
def Both (w0 w : World) (a b : Nat) (x y : Option Int) : Prop := CAt w a x ∧ CAt w b y ∧ a ≠ b ∧ w0.heap.size ≤ a ∧ w0.heap.size ≤ b ∧ Below w0.heap.size w0 w
theorem Both.left {w0 w w' : World} {a b : Nat} {x y : Option Int} {z : Int} {e : Ending} (h : Both w0 w a b x y) (hs : Saw w a z e w') : Both w0 w' a b (some z) y :=
  ⟨hs.2.1, h.2.1.only hs.2.2 (fun e => h.2.2.1 e.symm), h.2.2.1, h.2.2.2.1, h.2.2.2.2.1, hs.more h.2.2.2.2.2 h.2.2.2.1⟩
theorem Both.right {w0 w w' : World} {a b : Nat} {x y : Option Int} {z : Int} {e : Ending} (h : Both w0 w a b x y) (hs : Saw w b z e w') : Both w0 w' a b x (some z) :=
  ⟨h.1.only hs.2.2 h.2.2.1, hs.2.1, h.2.2.1, h.2.2.2.1, h.2.2.2.2.1, hs.more h.2.2.2.2.2 h.2.2.2.2.1⟩
theorem seen_some {l : List Int} (h : 0 < l.length) : ∃ g, seen l = some g := by
  have e := seen_snoc (l := l) (k := l.length - 1) (List.getElem?_eq_getElem (by omega))
  rw [show l.length - 1 + 1 = l.length by omega, List.take_length] at e
  exact ⟨_, e⟩

set_option maxRecDepth 100000 in
theorem parts_true (A : Option Addr) (n c : Nat) (l : List Int) (A2 : Option Addr) (n2 c2 : Nat) (l2 : List Int) (w : World) (hr : Rd w (.slice A n c) (tv l)) (hr2 : Rd w (.slice A2 n2 c2) (tv l2))
    (hn : n ≤ 9223372036854775807) (hn2 : n2 ≤ 9223372036854775807) :
    Calls Try.prog 8 #[.slice A n c, .slice A2 n2 c2] w fun e w' => e = .returned (.bool true) ∧ Below w.heap.size w w' := by
  obtain ⟨m, hm1, hm2, hm3⟩ : ∃ m : Nat, m ≤ n ∧ m ≤ 100 ∧ min (n : Int) 100 = (m : Int) := ⟨min n 100, Nat.min_le_left _ _, Nat.min_le_right _ _, by omega⟩
  obtain ⟨A', hsl, hr'⟩ := run_first hr hm1
  have hlm := hr'.times
  generalize l.take m = xs at *
  obtain ⟨p, hp1, hp2, hp3⟩ : ∃ p : Nat, p ≤ n2 ∧ p ≤ 100 ∧ min (n2 : Int) 100 = (p : Int) := ⟨min n2 100, Nat.min_le_left _ _, Nat.min_le_right _ _, by omega⟩
  obtain ⟨A2', hsl2, hr2'⟩ := run_first hr2 hp1
  have hlp := hr2'.times
  generalize l2.take p = ys at *
  have HR := Lib.hid hr'
  have HL := Lib.hid hlm
  have HR2 := Lib.hid hr2'
  have HL2 := Lib.hid hlp
  clear hr hr' hlm hr2 hr2' hlp
  go_enter Try.func8, Try.ntmps8
  go_wp2_with fail
  go_quiet (fail)
  clear hsl hm3 hsl2 hp3
  generalize hv : World.drewN w _ = v
  have HV : Hid (Below w.heap.size w v) := by subst hv; exact ⟨rfl, rfl, rfl, Nat.le_refl _, fun _ _ => rfl⟩
  clear hv
  by_cases h0 : m = 0
  · subst h0
    go_wp2_with fail
    refine (alive_true v).mono ?_
    rintro e w2 ⟨rfl, hA⟩
    have H2 : Hid (Below w.heap.size w w2) := HV.out.trans (hA.mono HV.out.size)
    clear hA
    go_wp2_with fail
    go_ret
    exact ⟨rfl, H2.out⟩
  · obtain ⟨g, hg⟩ := seen_some (l := xs) (by have := HL.out; omega)
    have HG := Lib.hid hg
    clear hg
    go_wp2_with fail
    refine (New_any v).mono ?_
    rintro e w1 ⟨a, rfl, hc, hq, hb⟩
    have H := Lib.hid (And.intro hc (And.intro (Nat.le_trans HV.out.size hq) (HV.out.trans (hb.mono HV.out.size))))
    clear hc hq hb
    go_wp2_with fail
    refine (New_any w1).mono ?_
    rintro e w2 ⟨b, rfl, hc, hq, hb⟩
    have H2 : Hid (Both w w2 a b none none) := ⟨H.out.1.below hb H.out.1.lt, hc, by have := H.out.1.lt; omega, H.out.2.1, Nat.le_trans H.out.2.2.size hq, H.out.2.2.trans (hb.mono H.out.2.2.size)⟩
    clear hc hq hb H
    go_wp2_with fail
    refine (alive_true w2).mono ?_
    rintro e w3 ⟨rfl, hA⟩
    have H3 : Hid (Both w w3 a b none none) := by
      obtain ⟨k1, k2, k3, k4, k5, k6⟩ := H2.out
      exact ⟨k1.below hA k1.lt, k2.below hA k2.lt, k3, k4, k5, k6.trans (hA.mono k6.size)⟩
    clear hA H2
    go_wp2_with fail
    go_loopw [45] (fun i wr => ∃ k : Nat, k ≤ m ∧ i = .int .i64 k ∧ Hid (Both w wr a b (seen (xs.take k)) none)) (fun i _ => m - (intOf i).toNat)
    case atStart => exact ⟨0, by omega, rfl, H3.out⟩
    case round =>
      obtain ⟨k, hk, rfl, HW⟩ := hrel
      by_cases hlt : k < m
      · obtain ⟨B, o, t, hA', hcx, hx⟩ := (HR.out.kept HW.out.2.2.2.2.2).timeAt hlt
        subst hA'
        have HX := Lib.hid (seen_snoc hx)
        clear hx
        go_wp2_with fail
        clear hcx
        refine (See_at t HW.out.1).mono ?_
        intro e w5 h5
        have H5 := Lib.hid (HW.out.left h5)
        obtain ⟨rfl, -, -⟩ := h5
        go_wp2_with fail
        exact ⟨⟨k + 1, by omega, by go_num, by rw [HX.out]; exact H5.out⟩, by simp [intOf]; omega⟩
      · obtain rfl : k = m := by omega
        rw [show xs.take k = xs by rw [HL.out, List.take_length], HG.out] at HW
        go_wp2_with fail
        refine (Last_some HW.out.1).mono ?_
        rintro e w5 ⟨rfl, rfl⟩
        go_wp2_with fail
        refine (See_none g HW.out.2.1).mono ?_
        intro e w5 h5
        have H5 := Lib.hid (HW.out.right h5)
        obtain ⟨rfl, -, -⟩ := h5
        clear HW
        go_wp2_with fail
        go_loopw [63] (fun i wr => ∃ (j : Nat) (z : Int), j ≤ p ∧ i = .int .i64 j ∧ Hid (Both w wr a b (some z) (some z))) (fun i _ => p - (intOf i).toNat)
        case atStart => exact ⟨0, g, by omega, rfl, H5.out⟩
        case round =>
          obtain ⟨j, z, hj, rfl, HW⟩ := hrel
          by_cases hjl : j < p
          · obtain ⟨B, o, t, hA', hcx, -⟩ := (HR2.out.kept HW.out.2.2.2.2.2).timeAt hjl
            subst hA'
            go_wp2_with fail
            clear hcx
            refine (See_some t z HW.out.1).mono ?_
            intro e w6 h6
            have H6 := Lib.hid (HW.out.left h6)
            obtain ⟨rfl, -, -⟩ := h6
            go_wp2_with fail
            refine (See_some t z H6.out.2.1).mono ?_
            intro e w7 h7
            have H7 := Lib.hid (H6.out.right h7)
            obtain ⟨rfl, -, -⟩ := h7
            generalize max t z = z' at *
            go_wp2_with fail
            exact ⟨⟨j + 1, z', by omega, by go_num, H7.out⟩, by simp [intOf]; omega⟩
          · go_wp2_with fail
            refine (Last_some HW.out.1).mono ?_
            rintro e w5 ⟨rfl, rfl⟩
            go_wp2_with fail
            refine (Last_some HW.out.2.1).mono ?_
            rintro e w5 ⟨rfl, rfl⟩
            go_wp2_with fail
            go_ret
            exact ⟨rfl, HW.out.2.2.2.2.2⟩
end Go.Proofs.Ytnijeeikmnlekaa
