/-
  The law KmpPlaces: for every text and pattern the places, the first one and the borders are the document's.
  Conditions: none.
-/
import Derived.Test.YtigapfgfbdofoaaKLaw
namespace Go.Proofs.Ytigapfgfbdofoaa
open Go.RowKit

/-- A quiet call behind old memory. -/
theorem quiet_on {w W W' : World} {n : Nat} (h : Below w.heap.size w W) (e : W' = W.drewN n) : Below w.heap.size w W' := by
  rw [e]; exact ⟨h.os, h.tape, h.output, h.size, h.block⟩
theorem rd_quiet {W W' : World} {n : Nat} {v : Value} {xs : List Value} (h : Rd W v xs) (e : W' = W.drewN n) : Rd W' v xs := by rw [e]; exact h.drewN n
theorem below_quiet {W W' : World} {n : Nat} (e : W' = W.drewN n) : Below W.heap.size W W' := by
  rw [e]; exact ⟨rfl, rfl, rfl, Nat.le_refl _, fun _ _ => rfl⟩

/-- Two slices in a list of slices. -/
theorem great_two (A B : Option Addr) (n c m d : Nat) (W : World) : Calls Try.prog 11 #[.slice (some ⟨W.heap.size, 0, none⟩) 2 2] (W.alloc (.cells #[.slice A n c, .slice B m d] 22)) fun e w' => e = .returned (.bool (decide (100 < n) || decide (100 < m))) ∧ (W.alloc (.cells #[.slice A n c, .slice B m d] 22)) = w' := by
  have := great_any (some ⟨W.heap.size, 0, none⟩) 2 2 [(A, n, c), (B, m, d)] (by simp) _ (Rd.lit W 22 #[.slice A n c, .slice B m d] 2 rfl (by omega) (by omega) (by simp [Value.oneCell']))
  simpa [List.any] using this

set_option maxRecDepth 100000 in
set_option maxHeartbeats 4000000 in
theorem places_true (A : Option Addr) (n c : Nat) (l : List Int) (B : Option Addr) (m d : Nat) (p : List Int) (w : World) (ht : Rd w (.slice A n c) (iv l)) (hp : Rd w (.slice B m d) (iv p)) :
    Calls Try.prog 3 #[.slice A n c, .slice B m d] w fun e w' => e = .returned (.bool true) ∧ Below w.heap.size w w' := by
  obtain ⟨hnl, -⟩ := ht.ints
  obtain ⟨hml, -⟩ := hp.ints
  have HT := Lib.hid (And.intro ht hp)
  have HNL := Lib.hid (And.intro hnl hml)
  clear ht hp hnl hml
  go_enter Try.func3, Try.ntmps3
  go_wp2_with fail
  refine (alive_true w).mono ?_
  rintro e w1 ⟨rfl, hb1⟩
  have X1 := Lib.hid hb1
  clear hb1
  by_cases hg : n ≤ 100 ∧ m ≤ 100
  case neg =>
    have G := great_two A B n c m d w1
    rw [show (decide (100 < n) || decide (100 < m)) = true by simp; omega] at G
    have HG := Lib.hid G
    clear G
    go_wp2_with fail
    refine HG.out.mono ?_
    rintro e w2 ⟨rfl, hw2⟩
    have X2 : Hid (Below w.heap.size w w2) := Lib.hid (by rw [← hw2]; exact X1.out.alloc X1.out.size _)
    clear hw2 HG
    go_wp2_with fail
    refine (alive_true w2).mono ?_
    rintro e w3 ⟨rfl, hb3⟩
    have X3 := Lib.hid (X2.out.trans (hb3.mono X2.out.size))
    clear hb3
    go_wp2
    go_ret
    exact ⟨rfl, X3.out⟩
  case pos =>
    have G := great_two A B n c m d w1
    rw [show (decide (100 < n) || decide (100 < m)) = false by simp; omega] at G
    have HG := Lib.hid G
    have hlt : l.length ≤ 1048576 := by have := HNL.out; omega
    have hlp : p.length ≤ 1048576 := by have := HNL.out; omega
    clear G
    go_wp2_with fail
    refine HG.out.mono ?_
    rintro e w2 ⟨rfl, hw2⟩
    have X2 : Hid (Below w.heap.size w w2) := Lib.hid (by rw [← hw2]; exact X1.out.alloc X1.out.size _)
    clear hw2 HG
    have HC := Lib.hid (RAll_i A B n c m d l p hlt hlp w2 (HT.out.1.kept X2.out) (HT.out.2.kept X2.out))
    go_wp2_with fail
    refine HC.out.mono ?_
    rintro e w3 h3
    obtain ⟨A3, c3, -, rfl, -⟩ := id h3
    have h3' := h3.rd
    have X3 : Hid (Below w.heap.size w w3 ∧ Rd w3 (.slice A3 (ni (places l p)).length c3) (iv (ni (places l p)))) := Lib.hid ⟨X2.out.trans (h3'.2.2.mono X2.out.size), h3'.2.1⟩
    clear h3 h3' HC
    have HF := Lib.hid (First_i A B n c m d l p (by omega) (by omega) w3 (HT.out.1.kept X3.out.1) (HT.out.2.kept X3.out.1))
    go_wp2_with fail
    refine HF.out.mono ?_
    rintro e w4 ⟨rfl, hb4⟩
    have X4 := Lib.hid (And.intro (X3.out.1.trans (hb4.mono X3.out.1.size)) (X3.out.2.kept hb4))
    clear hb4 HF X3
    have HA : Hid (∀ W, Below w.heap.size w W → Calls Try.prog 15 #[.slice A n c, .slice B m d] W (IntsTo W (ni (places l p)))) := Lib.hid (fun W (hb : Below w.heap.size w W) => all_i A B n c m d l p (by omega) (by omega) W (HT.out.1.kept hb) (HT.out.2.kept hb))
    have HL4 := Lib.hid (ni_len (places l p))
    have hx5 := places_len l p
    rw [HL4.out] at X4 ⊢
    generalize places l p = xs at *
    cases xs
    case' nil =>
      simp only [List.headD_nil, List.isEmpty_nil, List.length_nil]
      go_wp2_with fail
    case' cons x xs =>
      obtain ⟨b, o, rfl, hx⟩ := X4.out.2.ints.2.2 (by simp [ni])
      have y := hx 0 (by simp [ni])
      simp only [ni, List.map_cons, List.getElem?_cons_zero, Option.getD_some, Nat.add_zero] at y
      simp only [List.headD_cons, List.isEmpty_cons, List.length_cons]
      clear hx
      go_wp2_with fail
      clear y
    all_goals
      refine (HA.out _ X4.out.1).mono ?_
      rintro e w5 h5
      obtain ⟨A5, c5, -, rfl, -⟩ := id h5
      obtain ⟨-, r5, hb5⟩ := h5.rd
      have X5 := Lib.hid (X4.out.1.trans (hb5.mono X4.out.1.size))
      have HS := Lib.hid (Same_eq _ _ _ _ _ _ _ w5 r5 (X4.out.2.kept hb5) (by rw [ni_len]; exact Nat.le_trans hx5 (by omega)))
      rw [ni_len] at HS ⊢
      clear h5 r5 hb5
      go_wp2_with fail
      refine HS.out.mono ?_
      rintro e w6 ⟨rfl, nd6, hw6⟩
      have X6 := Lib.hid (quiet_on X5.out hw6)
      clear hw6 HS X5
      have HB := Lib.hid (Borders_i l A n c w6 (HT.out.1.kept X6.out) (by omega))
      go_wp2_with fail
      refine HB.out.mono ?_
      rintro e w7 ⟨g7, rfl, k7, -, hb7⟩
      have X7 := Lib.hid (X6.out.trans (hb7.mono X6.out.size))
      have K7 := Lib.hid k7.ints
      clear k7 hb7 HB X6
      have HB := Lib.hid (RBorders_i A n c l hlt w7 (HT.out.1.kept X7.out))
      go_wp2_with fail
      refine HB.out.mono ?_
      rintro e w8 h8
      obtain ⟨A8, c8, -, rfl, -⟩ := id h8
      obtain ⟨-, r8, hb8⟩ := h8.rd
      have X8 := Lib.hid (X7.out.trans (hb8.mono X7.out.size))
      have HS := Lib.hid (Same_eq _ _ _ _ _ _ _ w8 (K7.out.kept hb8) r8 (by rw [bords_len]; omega))
      rw [bords_len] at HS ⊢
      clear h8 r8 hb8 HB X7 K7
      go_wp2_with fail
      refine HS.out.mono ?_
      rintro e w9 ⟨rfl, nd9, hw9⟩
      have X9 := Lib.hid (quiet_on X8.out hw9)
      clear hw9 HS X8
      have HB := Lib.hid (Borders_i p B m d w9 (HT.out.2.kept X9.out) (by omega))
      go_wp2_with fail
      refine HB.out.mono ?_
      rintro e w10 ⟨g10, rfl, k10, -, hb10⟩
      have X10 := Lib.hid (X9.out.trans (hb10.mono X9.out.size))
      have K10 := Lib.hid k10.ints
      clear k10 hb10 HB X9
      have HB := Lib.hid (RBorders_i B m d p hlp w10 (HT.out.2.kept X10.out))
      go_wp2_with fail
      refine HB.out.mono ?_
      rintro e w11 h11
      obtain ⟨A11, c11, -, rfl, -⟩ := id h11
      obtain ⟨-, r11, hb11⟩ := h11.rd
      have X11 := Lib.hid (X10.out.trans (hb11.mono X10.out.size))
      have HS := Lib.hid (Same_eq _ _ _ _ _ _ _ w11 (K10.out.kept hb11) r11 (by rw [bords_len]; omega))
      rw [bords_len] at HS ⊢
      clear h11 r11 hb11 HB X10 K10
      go_wp2_with fail
      refine HS.out.mono ?_
      rintro e w12 ⟨rfl, nd12, hw12⟩
      have X12 := Lib.hid (quiet_on X11.out hw12)
      clear hw12 HS X11
      go_wp2
      go_ret
      exact ⟨rfl, X12.out⟩
end Go.Proofs.Ytigapfgfbdofoaa
