/-
  cuecardlaw05.TransBack answers true for all events.
  Conditions: times within an int64.
-/
import Derived.Test.YtbaibabnfbjdeaaTrAlive
namespace Go.Proofs.Ytbaibabnfbjdeaa
open Go.RowKit

theorem trEnc_le {l : List PE} (e : Bool) (h : Right 0 0 l) : (trEnc l e).length ≤ 400000 := by
  obtain ⟨h2, h3⟩ := right_len (by omega) (by omega) h
  have := encs_len (l := l) 0 (by omega)
  have h4 : (fin e).length ≤ 1 := by cases e <;> simp [fin]
  simp only [trEnc, List.length_append]
  simp [hd]
  omega
theorem evs_byte {w : World} {v : Value} {l : List Ev} (h : Evs w v l) : ∀ a ∈ pes l, ∀ x ∈ a.data, x < 256 := by
  intro a ha
  obtain ⟨b, hb, rfl⟩ := List.mem_map.1 ha
  exact (h.ok hb).byte
theorem pes_time {l : List Ev} (h : ∀ a ∈ l, In64 a.time) : ∀ a ∈ pes l, In64 a.time := by
  intro a ha
  obtain ⟨b, hb, rfl⟩ := List.mem_map.1 ha
  exact h b hb

set_option maxRecDepth 100000 in
set_option maxHeartbeats 2000000 in
theorem back_true (v : Value) (l : List Ev) (en : Bool) (w : World) (h : Evs w v l) (ht : ∀ a ∈ l, In64 a.time) :
    Calls Try.prog 5 #[v, .bool en] w fun e w' => e = .returned (.bool true) ∧ Below w.heap.size w w' := by
  have HE := Lib.hid h
  obtain ⟨A, c, rfl, -⟩ := h.form
  by_cases hc : chkAll (pes l) = 0
  · have hr := chkAll_right hc (pes_time ht)
    have HR := Lib.hid hr
    have HL := Lib.hid (trEnc_le en hr)
    have HD := Lib.hid (dec_enc en hr)
    have HX := Lib.hid (trEnc_lt en (evs_byte h))
    clear h ht hc hr
    go_enter Try.func5, Try.ntmps5
    go_wp2_with fail
    refine (Encode_good _ l en _ (HE.out.alloc _) HR.out).mono ?_
    rintro e W1 ⟨A1, c1, rfl, hr1, hb1⟩
    have HT1 := Lib.hid ((Blk.new w 24 #[.slice A l.length c, .bool en]).below hb1 (by simp))
    have HB1 := Lib.hid (below2 ((Below.refl _ w).alloc (Nat.le_refl _) _) hb1)
    have HR1 := Lib.hid hr1
    clear hr1 hb1
    go_wp2_with fail
    refine (Decode_any A1 _ c1 _ _ HR1.out HX.out (by have := HL.out; omega)).mono ?_
    rw [HD.out]
    rintro e W2 ⟨A2, c2, l2, rfl, hp2, hE2, hb2⟩
    have HP2 := Lib.hid hp2
    have HE2 := Lib.hid hE2
    have HT2 := Lib.hid (HT1.out.below hb2 HT1.out.lt)
    have HB2 := Lib.hid (below2 HB1.out hb2)
    clear hp2 hE2 hb2 HT1 HB1 HR1
    go_wp2_with fail
    refine (alive_true _).mono ?_
    rintro e W3 ⟨rfl, hb3⟩
    have hb23 := below2 ((Below.refl _ W2).alloc (Nat.le_refl _) _) hb3
    have bt := HT2.out.below hb23 HT2.out.lt
    have bu := (Blk.new W2 24 #[.slice A2 l2.length c2, .bool en]).below hb3 (by simp)
    have x0 : W3.cell? ⟨w.heap.size, 0, none⟩ = some (.slice A l.length c) := bt.cell 0
    have x1 : W3.cell? ⟨w.heap.size, 1, none⟩ = some (.bool en) := bt.cell 1
    have y0 : W3.cell? ⟨W2.heap.size, 0, none⟩ = some (.slice A2 l2.length c2) := bu.cell 0
    have y1 : W3.cell? ⟨W2.heap.size, 1, none⟩ = some (.bool en) := bu.cell 1
    have HB3 := Lib.hid (below2 HB2.out hb23)
    have HE3 := Lib.hid (HE2.out.below hb23)
    clear hb3 hb23 bt bu HT2 HE2 HB2
    go_wp2_with fail
    refine (tsame_any _ _ l l2 en en _ (HE.out.below HB3.out) HE3.out).mono ?_
    rw [HP2.out]
    simp only [BEq.rfl, decide_true, Bool.and_self]
    rintro e W4 ⟨rfl, hb4⟩
    have HB4 := Lib.hid (below2 HB3.out hb4)
    clear hb4
    go_wp2_with fail
    go_ret
    exact ⟨rfl, HB4.out⟩
  · have hne : (chkAll (pes l) != 0) = true := by simpa using hc
    have HC := Lib.hid hc
    clear h ht hc
    go_enter Try.func5, Try.ntmps5
    go_wp2_with fail
    refine (Encode_bad _ l en _ (HE.out.alloc _) HC.out).mono ?_
    rintro e W1 ⟨rfl, hb1⟩
    have HB1 := Lib.hid (below2 ((Below.refl _ w).alloc (Nat.le_refl _) _) hb1)
    clear hb1
    go_wp2_with fail
    refine (alive_true _).mono ?_
    rintro e W3 ⟨rfl, hb3⟩
    have HB3 := Lib.hid (below2 HB1.out hb3)
    clear hb3 HB1
    go_wp2_with fail
    refine (RCheck_any _ l _ (HE.out.below HB3.out)).mono ?_
    rintro e W4 ⟨rfl, rfl⟩
    go_wp2_with fail
    go_ret
    exact ⟨rfl, HB3.out⟩
end Go.Proofs.Ytbaibabnfbjdeaa
