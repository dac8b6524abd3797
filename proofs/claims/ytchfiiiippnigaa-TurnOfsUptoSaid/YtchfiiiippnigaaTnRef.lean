/-
  cuecardref10: Same of the same turns, Told, Seen.
  Conditions: the turns' bytes together are at most 4611686018427387904.
-/
import Derived.Test.YtchfiiiippnigaaTnIn
import Derived.Test.YtchfiiiippnigaaRet
import Derived.WalkKit
import Derived.LoopTactic
import Derived.Lib.Hide
import Derived.IntWalk
import Derived.Deep.QuietTactic
import Derived.BigQuiet
namespace Go.Proofs.Ytchfiiiippnigaa
open Go.RowKit

theorem belowQ {B : Nat} {w W : World} (h : Below B w W) (n : Nat) : Below B w (W.drewN n) := ⟨h.os, h.tape, h.output, h.size, h.block⟩

set_option maxRecDepth 100000 in
set_option maxHeartbeats 1000000 in
theorem RSame_eq (l : List Tn) (v1 v2 : Value) (w : World) (h1 : Tns w v1 l) (h2 : Tns w v2 l) (hl : l.length ≤ 4611686018427387904) :
    Calls Try.prog 11 #[v1, v2] w fun e w' => e = .returned (.bool true) ∧ Below w.heap.size w w' := by
  obtain ⟨A, c, rfl, -⟩ := h1.form
  obtain ⟨B, d, rfl, -⟩ := h2.form
  have H := Lib.hid (And.intro h1 h2)
  clear h1 h2
  go_enter Try.func11, Try.ntmps11
  go_wp2
  go_loopw [5] (fun i wr => ∃ k : Nat, k ≤ l.length ∧ i = .int .i64 k ∧ Hid (Below w.heap.size w wr)) (fun i _ => l.length - (intOf i).toNat)
  case atStart => exact ⟨0, Nat.zero_le _, rfl, Lib.hid (Below.refl _ _)⟩
  case round =>
    obtain ⟨k, hk, rfl, HB⟩ := hrel
    by_cases hlt : k < l.length
    · obtain ⟨b1, o1, A1, c1, A2, c2, rfl, -, y1, y2, r1, r2⟩ := (H.out.1.below HB.out).at_ hlt
      obtain ⟨b2, o2, B1, d1, B2, d2, rfl, -, z1, z2, q1, q2⟩ := (H.out.2.below HB.out).at_ hlt
      have s1 := fun n => run_str (r1.1.drewN n)
      have s2 := fun n => run_str (r2.1.drewN n)
      have s3 := fun n => run_str (q1.1.drewN n)
      have s4 := fun n => run_str (q2.1.drewN n)
      have e1 : ((str (l[k]).out).toList != (str (l[k]).out).toList) = false := by simp
      have e2 : ((str (l[k]).inn).toList != (str (l[k]).inn).toList) = false := by simp
      clear r1 r2 q1 q2
      generalize (l[k]).out = x at *
      generalize (l[k]).inn = y at *
      go_wp2
      go_quiet (fail)
      clear s1 s2 s3 s4 y1 y2 z1 z2
      go_wp2
      go_roundw
      case rel => exact ⟨k + 1, by omega, by go_num, Lib.hid (belowQ HB.out _)⟩
      case measure => simp [intOf]; omega
    · obtain rfl : k = l.length := by omega
      go_wp2
      go_ret
      exact ⟨rfl, HB.out⟩

theorem told_step (i : Int) {t : List Tn} {k : Nat} (hk : k < t.length) : told i (t.take (k + 1)) = told i (t.take k) + if (k : Int) < i then (t[k]).inn.length else 0 := by
  unfold told
  rw [List.take_take, List.take_take]
  by_cases h : (k : Int) < i
  · rw [if_pos h, Nat.min_eq_right (by omega), Nat.min_eq_right (by omega), List.take_succ_eq_append_getElem hk, inns_append, List.length_append, inns_one]
  · rw [if_neg h, Nat.min_eq_left (by omega), Nat.min_eq_left (by omega), Nat.add_zero]
theorem told_le (i : Int) (t : List Tn) (k : Nat) : told i (t.take k) ≤ (inns t).length := by
  unfold told
  rw [List.take_take]
  have : t = t.take (min i.toNat k) ++ t.drop (min i.toNat k) := (List.take_append_drop _ _).symm
  have h2 := congrArg (fun t => (inns t).length) this
  simp only [inns_append, List.length_append] at h2
  omega
theorem told_all (i : Int) (t : List Tn) : told i (t.take t.length) = told i t := by rw [List.take_length]
theorem seen_step (i : Int) {t : List Tn} {k : Nat} (hk : k < t.length) : seen i (t.take (k + 1)) = seen i (t.take k) + if (k : Int) ≤ i then (t[k]).out.length else 0 := by
  unfold seen
  rw [List.take_take, List.take_take]
  by_cases h : (k : Int) ≤ i
  · rw [if_pos h, Nat.min_eq_right (by omega), Nat.min_eq_right (by omega), List.take_succ_eq_append_getElem hk, outs_append, List.length_append, outs_one]
  · rw [if_neg h, Nat.min_eq_left (by omega), Nat.min_eq_left (by omega), Nat.add_zero]
theorem seen_le (i : Int) (t : List Tn) (k : Nat) : seen i (t.take k) ≤ (outs t).length := by
  unfold seen
  rw [List.take_take]
  have : t = t.take (min (i + 1).toNat k) ++ t.drop (min (i + 1).toNat k) := (List.take_append_drop _ _).symm
  have h2 := congrArg (fun t => (outs t).length) this
  simp only [outs_append, List.length_append] at h2
  omega

theorem seen_all (i : Int) (t : List Tn) : seen i (t.take t.length) = seen i t := by rw [List.take_length]
set_option maxRecDepth 100000 in
set_option maxHeartbeats 1000000 in
theorem RTold_is (i : Int) (t : List Tn) (v : Value) (w : World) (h : Tns w v t) (hl : t.length ≤ 4611686018427387904) (hb : (inns t).length ≤ 4611686018427387904) :
    Calls Try.prog 18 #[.int .i64 i, v] w fun e w' => e = .returned (.int .i64 (told i t : Nat)) ∧ w' = w := by
  obtain ⟨A, c, rfl, -⟩ := h.form
  have H := Lib.hid h
  have H0 : Hid (told i (t.take 0) = 0) := Lib.hid (by simp [told, inns])
  clear h
  go_enter Try.func18, Try.ntmps18
  go_wp2
  go_loop [5, 6] (fun v j => ∃ k : Nat, k ≤ t.length ∧ j = .int .i64 k ∧ v = .int .i64 (told i (t.take k) : Nat)) (fun _ j => t.length - (intOf j).toNat)
  case atStart => exact ⟨0, Nat.zero_le _, rfl, by rw [H0.out]; rfl⟩
  case round =>
    obtain ⟨k, hk, rfl, rfl⟩ := hrel
    by_cases hlt : k < t.length
    · obtain ⟨b1, o1, A1, c1, A2, c2, rfl, -, y1, y2, -, -⟩ := H.out.at_ hlt
      have hstep := told_step i hlt
      have hle := told_le i t (k + 1)
      have hle0 := told_le i t k
      generalize hu' : told i (t.take (k + 1)) = u' at *
      generalize told i (t.take k) = u at *
      generalize (t[k]).inn.length = x at *
      generalize (t[k]).out.length = xo at *
      by_cases hki : (k : Int) < i
      · rw [if_pos hki] at hstep
        have q1 : decide ((k : Int) < i) = true := by simpa using hki
        have hub : u + x ≤ 4611686018427387904 := by omega
        have HU := Lib.hid hstep
        have HU' := Lib.hid hu'
        clear hki hstep hu'
        go_wp2
        go_round
        case rel => exact ⟨k + 1, by omega, by go_num, by rw [HU'.out, HU.out]; go_num⟩
        case measure => simp [intOf]; omega
      · rw [if_neg hki] at hstep
        have q1 : decide ((k : Int) < i) = false := by simpa using hki
        have HU := Lib.hid hstep
        have HU' := Lib.hid hu'
        clear hki hstep hu'
        go_wp2
        go_round
        case rel => exact ⟨k + 1, by omega, by go_num, by rw [HU'.out, HU.out]; rfl⟩
        case measure => simp [intOf]; omega
    · obtain rfl : k = t.length := by omega
      rw [told_all]
      go_wp2
      go_ret
      exact ⟨rfl, rfl⟩

set_option maxRecDepth 100000 in
set_option maxHeartbeats 1000000 in
theorem RSeen_is (i : Int) (t : List Tn) (v : Value) (w : World) (h : Tns w v t) (hl : t.length ≤ 4611686018427387904) (hb : (outs t).length ≤ 4611686018427387904) :
    Calls Try.prog 20 #[.int .i64 i, v] w fun e w' => e = .returned (.int .i64 (seen i t : Nat)) ∧ w' = w := by
  obtain ⟨A, c, rfl, -⟩ := h.form
  have H := Lib.hid h
  have H0 : Hid (seen i (t.take 0) = 0) := Lib.hid (by simp [seen, outs])
  clear h
  go_enter Try.func20, Try.ntmps20
  go_wp2
  go_loop [5, 6] (fun v j => ∃ k : Nat, k ≤ t.length ∧ j = .int .i64 k ∧ v = .int .i64 (seen i (t.take k) : Nat)) (fun _ j => t.length - (intOf j).toNat)
  case atStart => exact ⟨0, Nat.zero_le _, rfl, by rw [H0.out]; rfl⟩
  case round =>
    obtain ⟨k, hk, rfl, rfl⟩ := hrel
    by_cases hlt : k < t.length
    · obtain ⟨b1, o1, A1, c1, A2, c2, rfl, -, y1, y2, -, -⟩ := H.out.at_ hlt
      have hstep := seen_step i hlt
      have hle := seen_le i t (k + 1)
      have hle0 := seen_le i t k
      generalize hu' : seen i (t.take (k + 1)) = u' at *
      generalize seen i (t.take k) = u at *
      generalize (t[k]).inn.length = x at *
      generalize (t[k]).out.length = xo at *
      by_cases hki : (k : Int) ≤ i
      · rw [if_pos hki] at hstep
        have q1 : decide ((k : Int) ≤ i) = true := by simpa using hki
        have hub : u + xo ≤ 4611686018427387904 := by omega
        have HU := Lib.hid hstep
        have HU' := Lib.hid hu'
        clear hki hstep hu'
        go_wp2
        go_round
        case rel => exact ⟨k + 1, by omega, by go_num, by rw [HU'.out, HU.out]; go_num⟩
        case measure => simp [intOf]; omega
      · rw [if_neg hki] at hstep
        have q1 : decide ((k : Int) ≤ i) = false := by simpa using hki
        have HU := Lib.hid hstep
        have HU' := Lib.hid hu'
        clear hki hstep hu'
        go_wp2
        go_round
        case rel => exact ⟨k + 1, by omega, by go_num, by rw [HU'.out, HU.out]; rfl⟩
        case measure => simp [intOf]; omega
    · obtain rfl : k = t.length := by omega
      rw [seen_all]
      go_wp2
      go_ret
      exact ⟨rfl, rfl⟩
end Go.Proofs.Ytchfiiiippnigaa
