/-
  cuecardlaw05.TransOne answers true for all bytes.
  Conditions: none.
-/
import Derived.Test.YtbaibabnfbjdeaaTBack
namespace Go.Proofs.Ytbaibabnfbjdeaa
open Go.RowKit

set_option maxRecDepth 100000 in
set_option maxHeartbeats 2000000 in
theorem one_true (A : Option Addr) (n c : Nat) (bs : List Nat) (w : World) (hr : Rd w (.slice A n c) (bv bs)) (hb : ∀ b ∈ bs, b < 256) (hn : n ≤ 9223372036854775807) :
    Calls Try.prog 6 #[.slice A n c] w fun e w' => e = .returned (.bool true) ∧ Below w.heap.size w w' := by
  have HD := Lib.hid (Decode_any A n c bs w hr hb hn)
  have HR := Lib.hid hr
  have HN := Lib.hid hr.bytes
  by_cases he : (dec bs).err = 0
  · obtain ⟨d1, d2, d3, d4⟩ := dec_ok hb he
    obtain ⟨⟨L, en, pl, er⟩, hD⟩ : ∃ D, dec bs = D := ⟨_, rfl⟩
    rw [hD] at HD d1 d2 d3 he
    simp only at d1 d2 d3 he
    subst d2 he
    have HX := Lib.hid d1
    have HRI := Lib.hid d3
    clear hr hb d1 d3 d4 hD
    go_enter Try.func6, Try.ntmps6
    go_wp2_with fail
    refine HD.out.mono ?_
    rintro e W1 ⟨A1, c1, l1, rfl, hp1, hE1, hb1⟩
    simp only at hp1
    have HP := Lib.hid hp1
    have HE1 := Lib.hid hE1
    have HB1 := Lib.hid hb1
    clear hp1 hE1 hb1 HD
    go_wp2_with fail
    refine (Encode_good _ l1 en _ (HE1.out.alloc _) (by rw [HP.out]; exact HRI.out)).mono ?_
    rw [HP.out, ← HX.out]
    rintro e W2 ⟨A2, c2, rfl, hr2, hb2⟩
    have HB2 := Lib.hid (below2 (below2 HB1.out ((Below.refl _ W1).alloc (Nat.le_refl _) _)) hb2)
    have HR2 := Lib.hid hr2
    clear hr2 hb2 HB1 HE1
    go_wp2_with fail
    refine (alive_true _).mono ?_
    rintro e W3 ⟨rfl, hb3⟩
    have HB3 := Lib.hid (below2 HB2.out hb3)
    have s1 := run_str (HR.out.kept HB3.out)
    have s2 := run_str (HR2.out.kept hb3)
    clear hb3
    go_wp2_with fail
    go_ret
    exact ⟨rfl, HB3.out⟩
  · obtain ⟨d1, d2, d3⟩ := dec_bad hb he
    obtain ⟨⟨L, en, pl, er⟩, hD⟩ : ∃ D, dec bs = D := ⟨_, rfl⟩
    rw [hD] at HD d1 d2 d3 he
    simp only at d1 d2 d3 he
    subst d1 d2
    have hpl : pl ≤ n := by have := HN.out; omega
    have hne : ((er : Int) != 0) = true := by simp; exact he
    have q1 : decide ((pl : Int) ≥ 0) = true := by simp
    clear hr hb d3 hD he
    go_enter Try.func6, Try.ntmps6
    go_wp2_with fail
    refine HD.out.mono ?_
    rintro e W1 ⟨A1, c1, l1, rfl, hp1, hE1, hb1⟩
    simp only at hp1
    have hl1 : l1 = [] := List.eq_nil_of_length_eq_zero (by rw [← pes_len, hp1]; rfl)
    subst hl1
    have HB1 := Lib.hid hb1
    clear hp1 hE1 hb1 HD
    go_wp2_with fail
    refine (alive_true _).mono ?_
    rintro e W3 ⟨rfl, hb3⟩
    have bu := (Blk.new W1 24 #[.slice A1 0 c1, .bool false]).below hb3 (by simp)
    have y0 : W3.cell? ⟨W1.heap.size, 0, none⟩ = some (.slice A1 0 c1) := bu.cell 0
    have y1 : W3.cell? ⟨W1.heap.size, 1, none⟩ = some (.bool false) := bu.cell 1
    have HB3 := Lib.hid (below2 (below2 HB1.out ((Below.refl _ W1).alloc (Nat.le_refl _) _)) hb3)
    clear hb3 bu
    go_wp2_with fail
    go_ret
    exact ⟨rfl, HB3.out⟩
end Go.Proofs.Ytbaibabnfbjdeaa
