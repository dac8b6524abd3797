/-
  cuecardlaw05.TransGets answers true for all bytes.
  Conditions: the slice reads as these bytes.
-/
import Derived.Test.YtbaibabnfbjdeaaTrRDec
import Derived.Test.YtbaibabnfbjdeaaTrAlive
namespace Go.Proofs.Ytbaibabnfbjdeaa
open Go.RowKit

set_option maxRecDepth 100000 in
set_option maxHeartbeats 1000000 in
theorem gets_true (A : Option Addr) (n c : Nat) (bs : List Nat) (w : World) (hr : Rd w (.slice A n c) (bv bs)) (hb : ∀ b ∈ bs, b < 256) (hn : n ≤ 9223372036854775807) :
    Calls Try.prog 4 #[.slice A n c] w fun e w' => e = .returned (.bool true) ∧ Below w.heap.size w w' := by
  have HR := Lib.hid hr
  have HB := Lib.hid hb
  clear hr hb
  obtain ⟨D, hD⟩ : ∃ D, dec bs = D := ⟨_, rfl⟩
  have HD := Lib.hid hD
  obtain ⟨P, hP⟩ : ∃ P : Int, ((D.place : Nat) : Int) = P := ⟨_, rfl⟩
  obtain ⟨E, hE⟩ : ∃ E : Int, ((D.err : Nat) : Int) = E := ⟨_, rfl⟩
  have HPE := Lib.hid (And.intro hP hE)
  clear hD hP hE
  go_enter Try.func4, Try.ntmps4
  go_wp2_with fail
  refine (Decode_any A n c bs _ HR.out HB.out hn).mono ?_
  rw [HD.out]
  rintro e W1 ⟨A1, c1, l1, rfl, hp1, hE1, hb1⟩
  rw [HPE.out.1, HPE.out.2]
  have HP1 := Lib.hid hp1
  have HE1 := Lib.hid hE1
  have HB1 := Lib.hid hb1
  clear hp1 hE1 hb1
  go_wp2_with fail
  have HR1 := Lib.hid ((HR.out.kept HB1.out).alloc (.cells #[.slice A1 l1.length c1, .bool D.fin] 24))
  refine (RDecode_any A n c bs _ HR1.out HB.out hn).mono ?_
  rw [HD.out]
  rintro e W2 ⟨A2, c2, l2, rfl, hp2, hE2, hb2⟩
  rw [HPE.out.1, HPE.out.2]
  have HP2 := Lib.hid hp2
  have HE2 := Lib.hid hE2
  have hb12 := below2 ((Below.refl _ W1).alloc (Nat.le_refl _) (.cells #[.slice A1 l1.length c1, .bool D.fin] 24)) hb2
  have HT2 := Lib.hid ((Blk.new W1 24 #[.slice A1 l1.length c1, .bool D.fin]).below hb2 (by simp))
  have HB2 := Lib.hid (And.intro hb12 (below2 HB1.out hb12))
  clear hp2 hE2 hb2 hb12 HR1
  go_wp2_with fail
  refine (alive_true _).mono ?_
  rintro e W3 ⟨rfl, hb3⟩
  have hb23 := below2 ((Below.refl _ W2).alloc (Nat.le_refl _) _) hb3
  have bt := HT2.out.below hb23 HT2.out.lt
  have bu := (Blk.new W2 24 #[.slice A2 l2.length c2, .bool D.fin]).below hb3 (by simp)
  have x0 : W3.cell? ⟨W1.heap.size, 0, none⟩ = some (.slice A1 l1.length c1) := bt.cell 0
  have x1 : W3.cell? ⟨W1.heap.size, 1, none⟩ = some (.bool D.fin) := bt.cell 1
  have y0 : W3.cell? ⟨W2.heap.size, 0, none⟩ = some (.slice A2 l2.length c2) := bu.cell 0
  have y1 : W3.cell? ⟨W2.heap.size, 1, none⟩ = some (.bool D.fin) := bu.cell 1
  have HB3 := Lib.hid (below2 HB2.out.2 hb23)
  have HE3 := Lib.hid (And.intro ((HE1.out.below HB2.out.1).below hb23) (HE2.out.below hb23))
  clear hb3 hb23 bt bu HT2 HE2 HB2
  go_wp2_with fail
  refine (tsame_any _ _ l1 l2 D.fin D.fin _ HE3.out.1 HE3.out.2).mono ?_
  rw [HP1.out, HP2.out]
  simp only [BEq.rfl, decide_true, Bool.and_self]
  rintro e W4 ⟨rfl, hb4⟩
  have HB4 := Lib.hid (below2 HB3.out hb4)
  clear hb4
  go_wp2_with fail
  go_ret
  exact ⟨rfl, HB4.out⟩
end Go.Proofs.Ytbaibabnfbjdeaa
