/-
  turn.Told and turn.Seen: their contracts.
  Conditions: things and bytes at most 4611686018427387904.
-/
import Derived.Test.YtchfiiiippnigaaTnREv
namespace Go.Proofs.Ytchfiiiippnigaa
open Go.RowKit

/-- Turns' blocks lay. -/
theorem TnsIn.old {S : Nat → Prop} {w : World} {v : Value} {t : List Tn} (h : TnsIn S w v t) : TnsIn (fun b => b < w.heap.size) w v t := by
  obtain ⟨A', c', e, hle, hr⟩ := h
  refine ⟨A', c', e, hle, fun hp => ?_⟩
  obtain ⟨b, o, eA, -, hx⟩ := hr hp
  refine ⟨b, o, eA, ?_, fun j x hj => ?_⟩
  · obtain ⟨A1, c1, A2, c2, h1, _⟩ := hx 0 _ (List.getElem?_eq_getElem hp)
    exact World.block_lt_of_cell? w _ h1
  · obtain ⟨A1, c1, A2, c2, h1, h2, r1, r2⟩ := hx j x hj
    exact ⟨A1, c1, A2, c2, h1, h2, r1.1.old, r2.1.old⟩
/-- Behind a copy of a turn in a box of its own. -/
theorem boxT {B : Nat} {w wr : World} {o : Obj} {x y : Value} (h : Below B w wr) (hB : B ≤ wr.heap.size) :
    Below B w (((wr.alloc o).setCell ⟨wr.heap.size, 0, none⟩ x).setCell ⟨wr.heap.size, 1, none⟩ y) :=
  ((h.alloc hB o).setCell (p := ⟨wr.heap.size, 0, none⟩) hB x).setCell (p := ⟨wr.heap.size, 1, none⟩) hB y

set_option maxRecDepth 100000 in
set_option maxHeartbeats 1000000 in
theorem Told_is (i : Int) (t : List Tn) (v : Value) (w : World) (h : Tns w v t) (hl : t.length ≤ 4611686018427387904) (hb : (inns t).length ≤ 4611686018427387904) :
    Calls Try.prog 17 #[.int .i64 i, v] w fun e w' => e = .returned (.int .i64 (told i t : Nat)) ∧ Below w.heap.size w w' := by
  obtain ⟨A, c, rfl, -⟩ := h.form
  have H := Lib.hid h
  have H0 : Hid (told i (t.take 0) = 0) := Lib.hid (by simp [told, inns])
  clear h
  go_enter Try.func17, Try.ntmps17
  go_wp2
  go_loopw [5, 10] (fun v j wr => ∃ k : Nat, k ≤ t.length ∧ j = .int .i64 k ∧ v = .int .i64 (told i (t.take k) : Nat) ∧ Hid (Below w.heap.size w wr)) (fun _ j _ => t.length - (intOf j).toNat)
  case atStart => exact ⟨0, Nat.zero_le _, rfl, by rw [H0.out]; rfl, Below.refl _ _⟩
  case round =>
    obtain ⟨k, hk, rfl, rfl, HW⟩ := hrel
    by_cases hlt : k < t.length
    · obtain ⟨b1, o1, A1, c1, A2, c2, rfl, -, y1, y2, -, -⟩ := (TnsIn.below H.out HW.out).at_ hlt
      have hstep := told_step i hlt
      have hle := told_le i t (k + 1)
      have hle0 := told_le i t k
      generalize hu' : told i (t.take (k + 1)) = u' at *
      generalize told i (t.take k) = u at *
      generalize (t[k]).inn.length = x at *
      generalize (t[k]).out.length = xo at *
      by_cases hki : (k : Int) < i
      · rw [if_pos hki] at hstep
        have q1 : decide ((k : Int) < i) = true := by simpa using hki
        have hub : u + x ≤ 4611686018427387904 := by omega
        have HU := Lib.hid hstep
        have HU' := Lib.hid hu'
        clear hki hstep hu'
        go_wp2
        go_roundw
        case rel => exact ⟨k + 1, by omega, by go_num, by rw [HU'.out, HU.out]; go_num, HW.out.alloc HW.out.size _⟩
        case measure => simp [intOf]; omega
      · rw [if_neg hki] at hstep
        have q1 : decide ((k : Int) < i) = false := by simpa using hki
        have HU := Lib.hid hstep
        have HU' := Lib.hid hu'
        clear hki hstep hu'
        go_wp2
        go_roundw
        case rel => exact ⟨k + 1, by omega, by go_num, by rw [HU'.out, HU.out]; rfl, HW.out.alloc HW.out.size _⟩
        case measure => simp [intOf]; omega
    · obtain rfl : k = t.length := by omega
      rw [told_all]
      go_wp2
      go_ret
      exact ⟨rfl, HW.out⟩

set_option maxRecDepth 100000 in
set_option maxHeartbeats 1000000 in
theorem Seen_is (i : Int) (t : List Tn) (v : Value) (w : World) (h : Tns w v t) (hl : t.length ≤ 4611686018427387904) (hb : (outs t).length ≤ 4611686018427387904) :
    Calls Try.prog 19 #[.int .i64 i, v] w fun e w' => e = .returned (.int .i64 (seen i t : Nat)) ∧ Below w.heap.size w w' := by
  obtain ⟨A, c, rfl, -⟩ := h.form
  have H := Lib.hid h
  have H0 : Hid (seen i (t.take 0) = 0) := Lib.hid (by simp [seen, outs])
  clear h
  go_enter Try.func19, Try.ntmps19
  go_wp2
  go_loopw [5, 10] (fun v j wr => ∃ k : Nat, k ≤ t.length ∧ j = .int .i64 k ∧ v = .int .i64 (seen i (t.take k) : Nat) ∧ Hid (Below w.heap.size w wr)) (fun _ j _ => t.length - (intOf j).toNat)
  case atStart => exact ⟨0, Nat.zero_le _, rfl, by rw [H0.out]; rfl, Below.refl _ _⟩
  case round =>
    obtain ⟨k, hk, rfl, rfl, HW⟩ := hrel
    by_cases hlt : k < t.length
    · obtain ⟨b1, o1, A1, c1, A2, c2, rfl, -, y1, y2, -, -⟩ := (TnsIn.below H.out HW.out).at_ hlt
      have hstep := seen_step i hlt
      have hle := seen_le i t (k + 1)
      have hle0 := seen_le i t k
      generalize hu' : seen i (t.take (k + 1)) = u' at *
      generalize seen i (t.take k) = u at *
      generalize (t[k]).inn.length = x at *
      generalize (t[k]).out.length = xo at *
      by_cases hki : (k : Int) ≤ i
      · rw [if_pos hki] at hstep
        have q1 : decide ((k : Int) ≤ i) = true := by simpa using hki
        have hub : u + xo ≤ 4611686018427387904 := by omega
        have HU := Lib.hid hstep
        have HU' := Lib.hid hu'
        clear hki hstep hu'
        go_wp2
        go_roundw
        case rel => exact ⟨k + 1, by omega, by go_num, by rw [HU'.out, HU.out]; go_num, HW.out.alloc HW.out.size _⟩
        case measure => simp [intOf]; omega
      · rw [if_neg hki] at hstep
        have q1 : decide ((k : Int) ≤ i) = false := by simpa using hki
        have HU := Lib.hid hstep
        have HU' := Lib.hid hu'
        clear hki hstep hu'
        go_wp2
        go_roundw
        case rel => exact ⟨k + 1, by omega, by go_num, by rw [HU'.out, HU.out]; rfl, HW.out.alloc HW.out.size _⟩
        case measure => simp [intOf]; omega
    · obtain rfl : k = t.length := by omega
      rw [seen_all]
      go_wp2
      go_ret
      exact ⟨rfl, HW.out⟩
end Go.Proofs.Ytchfiiiippnigaa
