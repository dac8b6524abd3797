/-
  cuecardlaw04.EventChecks answers true for all events.
  Conditions: none.
-/
import Derived.Test.YtakcoplpmhgoiaaEvAlive
namespace Go.Proofs.Ytakcoplpmhgoiaa
open Go.RowKit

set_option maxRecDepth 100000 in
set_option maxHeartbeats 2000000 in
theorem checks_true (v u : Value) (l m : List Ev) (w : World) (h : Evs w v l) (h' : Evs w u m) :
    Calls Try.prog 3 #[v, u] w fun e w' => e = .returned (.bool true) ∧ Below w.heap.size w w' := by
  have hm := h.max
  obtain ⟨A, c, rfl, hle⟩ := h.form
  obtain ⟨A', c', rfl, hle'⟩ := h'.form
  have HE := Lib.hid h
  have HE' := Lib.hid h'
  clear h hle h' hle'
  go_enter Try.func3, Try.ntmps3
  go_wp2_with fail
  go_loopw [5, 6] (fun r i wr => ∃ (k : Nat) (ok : Bool), 1 ≤ k ∧ (k ≤ l.length ∨ k = 1) ∧ i = .int .i64 k ∧ r = .bool ok ∧ Hid ((ok && risB ((pes l).drop (k - 1))) = risB (pes l) ∧ Below w.heap.size w wr)) (fun _ i _ => l.length - (intOf i).toNat)
  case atStart => exact ⟨1, true, by omega, by omega, rfl, rfl, rfl, Below.refl _ _⟩
  case round =>
    obtain ⟨k, ok, hk1, hk, rfl, rfl, HW⟩ := hrel
    by_cases hlt : k < l.length
    · obtain ⟨b, o, d, t, Aa, ca, bs, rfl, ha, c0, c1, c2, hbm, -⟩ := HE.out.seeAt HW.out.2 hlt
      obtain ⟨j, hj⟩ : ∃ j, j + 1 = k := ⟨k - 1, by omega⟩
      obtain ⟨b', o', d', t', Aa', ca', bs', e, ha', x0, x1, x2, -, -⟩ := HE.out.seeAt HW.out.2 (show j < l.length by omega)
      injection e with e
      injection e with e1 e2
      subst e1 e2
      have hjl : j < l.length := by omega
      have hwr : IntKind.i64.wrap ((k : Int) - 1) = (j : Int) := by rw [IntWalk.i64_in _ (by omega)]; omega
      rw [← hj] at ha
      have HS := Lib.hid (ris_step (pes_at ha') (pes_at ha))
      rw [show k - 1 = j by omega] at HW
      have HJ := Lib.hid hj
      clear ha ha' c0 c2 x0 x2 hj
      cases ok with
      | false =>
        go_wp2_with fail
        go_quiet (fail)
        go_wp2
        go_roundw
        case rel => exact ⟨k + 1, false, by omega, by omega, by go_num, rfl, HW.out.1, belowN HW.out.2 _⟩
        case measure => simp [intOf]; omega
      | true =>
        by_cases hf : t' ≤ t
        · have hf' : decide (t' ≤ t) = true := decide_eq_true hf
          go_wp2_with fail
          go_quiet (fail)
          go_wp2
          go_roundw
          case rel => exact ⟨k + 1, true, by omega, by omega, by go_num, rfl, by rw [show k + 1 - 1 = j + 1 by have := HJ.out; omega, ← HW.out.1, HS.out]; show (true && risB _) = (true && (decide (t' ≤ t) && _)); rw [decide_eq_true hf]; rfl, belowN HW.out.2 _⟩
          case measure => simp [intOf]; omega
        · have hf' : decide (t' ≤ t) = false := decide_eq_false hf
          go_wp2_with fail
          go_quiet (fail)
          go_wp2
          go_roundw
          case rel => exact ⟨k + 1, false, by omega, by omega, by go_num, rfl, by rw [← HW.out.1, HS.out]; show (false && _) = (true && (decide (t' ≤ t) && _)); rw [decide_eq_false (by omega)]; rfl, belowN HW.out.2 _⟩
          case measure => simp [intOf]; omega
    · have HR : Hid (ok = risB (pes l)) := by
        have h1 := HW.out.1
        rw [ris_end (by rw [pes_len]; omega), Bool.and_true] at h1
        exact h1
      have HB : Hid (Below w.heap.size w wr) := HW.out.2
      clear HW
      go_wp2_with fail
      refine (alive_true _).mono ?_
      rintro e w1 ⟨rfl, hb⟩
      have HB1 : Hid (Below w.heap.size w w1) := HB.out.trans (hb.mono HB.out.size)
      clear hb HB
      go_wp2_with fail
      refine (Check_any _ _ _ (HE.out.below HB1.out)).mono ?_
      rintro e w2 ⟨rfl, hb⟩
      have HB2 : Hid (Below w.heap.size w w2) := HB1.out.trans (hb.mono HB1.out.size)
      clear hb HB1
      go_wp2_with fail
      refine (RCheck_any _ _ _ (HE.out.below HB2.out)).mono ?_
      rintro e w3 ⟨rfl, rfl⟩
      go_wp2_with fail
      refine (Same_any _ _ _ _ _ (HE.out.below HB2.out) (HE'.out.below HB2.out)).mono ?_
      rintro e w3 ⟨rfl, hb⟩
      have HB3 : Hid (Below w.heap.size w w3) := HB2.out.trans (hb.mono HB2.out.size)
      clear hb HB2
      go_wp2_with fail
      refine (RSame_any _ _ _ _ _ (HE.out.below HB3.out) (HE'.out.below HB3.out)).mono ?_
      rintro e w4 ⟨rfl, hb⟩
      have HB4 : Hid (Below w.heap.size w w4) := HB3.out.trans (hb.mono HB3.out.size)
      clear hb HB3
      generalize decide (pes l = pes m) = sm
      go_wp2_with fail
      refine (Same_any _ _ _ _ _ (HE.out.below HB4.out) (HE.out.below HB4.out)).mono ?_
      rintro e w5 ⟨rfl, hb⟩
      have HB5 : Hid (Below w.heap.size w w5) := HB4.out.trans (hb.mono HB4.out.size)
      rw [decide_eq_true (show pes l = pes l from rfl)]
      clear hb HB4
      go_wp2_with fail
      refine (Rises_any _ _ _ (HE.out.below HB5.out)).mono ?_
      rintro e w6 ⟨rfl, hb⟩
      have HB6 : Hid (Below w.heap.size w w6) := HB5.out.trans (hb.mono HB5.out.size)
      rw [← HR.out]
      clear hb HB5
      go_wp2_with fail
      go_ret
      exact ⟨rfl, HB6.out⟩
end Go.Proofs.Ytakcoplpmhgoiaa
