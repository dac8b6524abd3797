/-
  cuecardlaw04.EventDues answers true for all events and every number.
  Conditions: events and bytes together at most 1048576.
-/
import Derived.Test.YtakcoplpmhgoiaaEvRef
namespace Go.Proofs.Ytakcoplpmhgoiaa
open Go.RowKit

set_option maxRecDepth 100000 in
set_option maxHeartbeats 2000000 in
theorem dues_true (v : Value) (l : List Ev) (x : Int) (w : World) (h : Evs w v l) (hw : l.length + whole (pes l) ≤ 1048576) (hx : -9223372036854775808 ≤ x ∧ x ≤ 9223372036854775807) :
    Calls Try.prog 5 #[v, .int .i64 x] w fun e w' => e = .returned (.bool true) ∧ Below w.heap.size w w' := by
  obtain ⟨A, c, rfl, hle⟩ := h.form
  have HE := Lib.hid h
  have hmono : due x (pes l) ≤ due (x + 1) (pes l) := dueF_mono (by omega) _ _
  have hall : due ((byts 1 (pes l)).length : Int) (pes l) = (byts 0 (pes l)).length := dueF_all _ _ (by omega)
  have HA := Lib.hid hall
  clear h hle hall
  go_enter Try.func5, Try.ntmps5
  go_wp2_with fail
  refine (Due_any x _ _ _ HE.out (by omega)).mono ?_
  rintro e w1 ⟨rfl, hb⟩
  have HB1 := Lib.hid hb
  clear hb
  go_wp2_with fail
  refine (RDue_any x _ _ _ (HE.out.below HB1.out) (by omega)).mono ?_
  rintro e w2 ⟨rfl, rfl⟩
  by_cases hbig : x < 4611686018427387904
  · go_wp2_with fail
    refine (Due_any (x + 1) _ _ _ (HE.out.below HB1.out) (by omega)).mono ?_
    rintro e w2 ⟨rfl, hb⟩
    have HB2 : Hid (Below w.heap.size w w2) := HB1.out.trans (hb.mono HB1.out.size)
    clear hb HB1
    have hn : ¬ ((due (x + 1) (pes l) : Nat) : Int) < ((due x (pes l) : Nat) : Int) := by omega
    go_wp2_with fail
    refine (alive_true _).mono ?_
    rintro e w3 ⟨rfl, hb⟩
    have HB3 : Hid (Below w.heap.size w w3) := HB2.out.trans (hb.mono HB2.out.size)
    clear hb HB2
    go_wp2_with fail
    refine (RBytes_any 1 _ _ _ (HE.out.below HB3.out) (by omega)).mono ?_
    rintro e w4 ⟨A1, c1, g1, rfl, -, -, hb⟩
    have HB4 : Hid (Below w.heap.size w w4) := HB3.out.trans (hb.mono HB3.out.size)
    clear hb HB3
    go_wp2_with fail
    refine (Due_any _ _ _ _ (HE.out.below HB4.out) (by omega)).mono ?_
    rintro e w5 ⟨rfl, hb⟩
    have HB5 : Hid (Below w.heap.size w w5) := HB4.out.trans (hb.mono HB4.out.size)
    rw [HA.out]
    clear hb HB4
    go_wp2_with fail
    refine (RBytes_any 0 _ _ _ (HE.out.below HB5.out) (by omega)).mono ?_
    rintro e w6 ⟨A2, c2, g2, rfl, -, -, hb⟩
    have HB6 : Hid (Below w.heap.size w w6) := HB5.out.trans (hb.mono HB5.out.size)
    clear hb HB5
    go_wp2_with fail
    go_ret
    exact ⟨rfl, HB6.out⟩
  · go_wp2_with fail
    refine (alive_true _).mono ?_
    rintro e w3 ⟨rfl, hb⟩
    have HB3 : Hid (Below w.heap.size w w3) := HB1.out.trans (hb.mono HB1.out.size)
    clear hb HB1
    go_wp2_with fail
    refine (RBytes_any 1 _ _ _ (HE.out.below HB3.out) (by omega)).mono ?_
    rintro e w4 ⟨A1, c1, g1, rfl, -, -, hb⟩
    have HB4 : Hid (Below w.heap.size w w4) := HB3.out.trans (hb.mono HB3.out.size)
    clear hb HB3
    go_wp2_with fail
    refine (Due_any _ _ _ _ (HE.out.below HB4.out) (by omega)).mono ?_
    rintro e w5 ⟨rfl, hb⟩
    have HB5 : Hid (Below w.heap.size w w5) := HB4.out.trans (hb.mono HB4.out.size)
    rw [HA.out]
    clear hb HB4
    go_wp2_with fail
    refine (RBytes_any 0 _ _ _ (HE.out.below HB5.out) (by omega)).mono ?_
    rintro e w6 ⟨A2, c2, g2, rfl, -, -, hb⟩
    have HB6 : Hid (Below w.heap.size w w6) := HB5.out.trans (hb.mono HB5.out.size)
    clear hb HB5
    go_wp2_with fail
    go_ret
    exact ⟨rfl, HB6.out⟩
end Go.Proofs.Ytakcoplpmhgoiaa
