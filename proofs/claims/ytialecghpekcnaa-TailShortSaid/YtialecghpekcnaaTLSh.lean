/-
  The law TailShort: the shortest end stands in the text nowhere else; the end that has a byte less does.
  Conditions: none.
-/
import Derived.Test.YtialecghpekcnaaTLAlive
namespace Go.Proofs.Ytialecghpekcnaa
open Go.RowKit

/-- A text stands at one of the first places. -/
def seen (t p : List Nat) (j : Nat) : Bool := (List.range j).any fun i => decide (At t p i)
theorem seen_next (t p : List Nat) (j : Nat) : seen t p (j + 1) = (seen t p j || decide (At t p j)) := by simp [seen, List.range_succ]
theorem seen_yes {t p : List Nat} {i j : Nat} (hi : i < j) (h : At t p i) : seen t p j = true := by
  simp only [seen, List.any_eq_true, List.mem_range, decide_eq_true_eq]
  exact ⟨i, hi, h⟩
theorem at_mid {t p : List Nat} {i k : Nat} (hk : p.length = k) (h : i + k ≤ t.length) : At t p i ↔ (t.drop i).take k = p := by
  subst hk
  exact ⟨fun h => h.2.2, fun e => At.mk' h e⟩

set_option maxRecDepth 100000 in
set_option maxHeartbeats 4000000 in
theorem short_true (A : Option Addr) (n c : Nat) (t : List Nat) (w : World) (ht : Rd w (.slice A n c) (bv t)) (hbt : ∀ b ∈ t, b < 256) :
    Calls Try.prog 6 #[.slice A n c] w fun e w' => e = .returned (.bool true) ∧ Below w.heap.size w w' := by
  obtain ⟨n1, hn1, hn2, hn3⟩ : ∃ k : Nat, k ≤ n ∧ k ≤ 200 ∧ min (n : Int) 200 = (k : Int) := ⟨min n 200, Nat.min_le_left _ _, Nat.min_le_right _ _, by omega⟩
  obtain ⟨A1, hs1, hr1⟩ := run_upto ht hn1
  have HX : Hid (∀ b ∈ t.take n1, b < 256) := Lib.hid fun b hb => hbt b (List.mem_of_mem_take hb)
  generalize t.take n1 = ts at *
  have HNL := Lib.hid hr1.bytes
  have HR := Lib.hid hr1
  clear ht hr1 hbt
  have HC := Lib.hid (Shortest_is A1 n1 c ts (by omega) w HR.out HX.out)
  by_cases h0 : n1 = 0
  · rw [show shortest ts = 0 by unfold shortest; rw [← HNL.out, h0]; rfl] at HC
    have q0 : ((n1 : Int) == 0) = true := by simp; omega
    clear h0
    go_enter Try.func6, Try.ntmps6
    go_wp2_with fail
    clear hs1 hn3
    refine HC.out.mono ?_
    rintro e w1 ⟨rfl, hb1⟩
    have X1 := Lib.hid hb1
    clear hb1
    go_wp2_with (go_at_call 12; refine (alive_true w1).mono ?_; rintro e w6 ⟨rfl, hb6⟩; have X6 := Lib.hid (X1.out.trans (hb6.mono X1.out.size)); clear hb6)
    go_ret
    exact ⟨rfl, X6.out⟩
  · obtain ⟨p1, p2, p3, p4⟩ := shortest_is (t := ts) (by have := HNL.out; omega)
    have q0 : ((n1 : Int) == 0) = false := beq_eq_false_iff_ne.2 (by omega)
    have hsl : shortest ts ≤ n1 := by have := HNL.out; omega
    have PN : Hid (∀ i, i < n1 - shortest ts → ¬ (ts.drop i).take (shortest ts) = ts.drop (n1 - shortest ts)) := Lib.hid fun i hi => by
      have := (count_one p1 p2).1 p3 i (by have := HNL.out; omega)
      rw [at_mid (tail_len p2) (by have := HNL.out; omega)] at this
      rw [show n1 - shortest ts = ts.length - shortest ts by rw [HNL.out]]
      exact this
    have PA : Hid (2 ≤ shortest ts → seen ts (ts.drop (n1 - (shortest ts - 1))) (n1 - shortest ts + 1) = true) := Lib.hid fun h2 => by
      have h3 := p4 (shortest ts - 1) (by omega) (by omega)
      rw [Ne, count_one (by omega) (by omega)] at h3
      obtain ⟨i, hi⟩ := Classical.not_forall.1 h3
      obtain ⟨hi1, hi2⟩ := Classical.not_imp.1 hi
      have hi3 := Classical.not_not.1 hi2
      have hl := HNL.out
      rw [hl]
      exact seen_yes (by omega) hi3
    have HL3 : Hid (n1 = ts.length) := HNL
    clear p2 p3 p4 h0
    generalize shortest ts = s at *
    go_enter Try.func6, Try.ntmps6
    go_wp2_with fail
    clear hs1 hn3
    refine HC.out.mono ?_
    rintro e w1 ⟨rfl, hb1⟩
    have X1 := Lib.hid (And.intro hb1 (HR.out.kept hb1))
    have q1 : decide ((s : Int) < 1) = false := by simp; omega
    have q2 : decide (n1 < s) = false := by simp; omega
    clear hb1 HC
    go_wp2
    clear q1 q2 q0
    go_loopw [34] (fun i wr => ∃ j : Nat, j ≤ n1 - s ∧ i = .int .i64 j ∧ Hid (Below w1.heap.size w1 wr)) (fun i _ => n1 - (intOf i).toNat)
    case atStart => exact ⟨0, by omega, rfl, Lib.hid (Below.refl _ _)⟩
    case round =>
      obtain ⟨j, hj, rfl, HB⟩ := hrel
      by_cases hlt : j < n1 - s
      · have q1 : decide ((j : Int) < (n1 : Int) - (s : Int)) = true := by simp; omega
        have hr := X1.out.2.kept HB.out
        obtain ⟨B1, c1, hs1, hr1⟩ := run_mid (a := j) (k := s) hr (by omega)
        obtain ⟨B2, c2, N2, hs2, hr2, hN2⟩ := run_from hr (show n1 - s ≤ n1 by omega)
        obtain rfl : N2 = s := by omega
        rw [show ((n1 - N2 : Nat) : Int) = (n1 : Int) - (N2 : Int) by omega] at hs2
        have s1 := fun k => run_str (hr1.drewN k)
        have s2 := fun k => run_str (hr2.drewN k)
        have q2 : ((str ((ts.drop j).take N2)).toList == (str (ts.drop (n1 - N2))).toList) = false := by
          rw [str_beq (fun b hb => HX.out b (List.mem_of_mem_drop (List.mem_of_mem_take hb))) (fun b hb => HX.out b (List.mem_of_mem_drop hb))]
          simpa using PN.out j hlt
        have w1 : IntKind.i64.wrap ((j : Int) + (N2 : Int)) = (j : Int) + (N2 : Int) := IntWalk.i64_in _ (by omega)
        have w2 : IntKind.i64.wrap ((n1 : Int) - (N2 : Int)) = (n1 : Int) - (N2 : Int) := IntWalk.i64_in _ (by omega)
        clear hr hr1 hr2
        generalize (ts.drop j).take N2 = x1 at *
        generalize ts.drop (n1 - N2) = x2 at *
        go_wp2
        go_quiet (fail)
        clear s1 s2 hs1 hs2 w1 w2
        go_wp2
        go_roundw
        case rel => exact ⟨j + 1, by omega, by go_num, Lib.hid ⟨HB.out.os, HB.out.tape, HB.out.output, HB.out.size, HB.out.block⟩⟩
        case measure => simp [intOf]; omega
      · obtain rfl : j = n1 - s := by omega
        have q1 : decide (((n1 - s : Nat) : Int) < (n1 : Int) - (s : Int)) = false := by simp; omega
        have X2 := Lib.hid (And.intro (X1.out.1.trans (HB.out.mono X1.out.1.size)) (X1.out.2.kept HB.out))
        by_cases hs1 : s = 1
        · have q2 : ((s : Int) == 1) = true := by simp; omega
          clear hs1
          go_wp2_with (go_at_call 12; refine (alive_true wr).mono ?_; rintro e w6 ⟨rfl, hb6⟩; have X6 := Lib.hid (X2.out.1.trans (hb6.mono X2.out.1.size)); clear hb6)
          go_ret
          exact ⟨rfl, X6.out⟩
        · have q2 : ((s : Int) == 1) = false := beq_eq_false_iff_ne.2 (by omega)
          have PA2 := Lib.hid (PA.out (by omega))
          have hs2 : 2 ≤ s := by omega
          have w3 : IntKind.i64.wrap ((n1 : Int) - (s : Int)) = (n1 : Int) - (s : Int) := IntWalk.i64_in _ (by omega)
          clear hs1 PA
          generalize hp : ts.drop (n1 - (s - 1)) = p at *
          have HP := Lib.hid hp
          clear hp
          go_wp2
          clear w3 q1 q2
          go_loopw [5, 61] (fun v i wi => ∃ j : Nat, j ≤ n1 - s + 1 ∧ i = .int .i64 j ∧ v = .bool (seen ts p j) ∧ Hid (Below wr.heap.size wr wi)) (fun _ i _ => n1 + 1 - (intOf i).toNat)
          case atStart => exact ⟨0, by omega, rfl, rfl, Lib.hid (Below.refl _ _)⟩
          case round =>
            obtain ⟨j, hj, rfl, rfl, HB2⟩ := hrel
            by_cases hlt : j < n1 - s + 1
            · have q1 : decide ((j : Int) < (n1 : Int) - (s : Int) + 1) = true := by simp; omega
              have hr := X2.out.2.kept HB2.out
              obtain ⟨B1, c1, hs1, hr1⟩ := run_mid (a := j) (k := s - 1) hr (by omega)
              obtain ⟨B2, c2, N2, hs2, hr2, hN2⟩ := run_from hr (show n1 - (s - 1) ≤ n1 by omega)
              obtain rfl : N2 = s - 1 := by omega
              rw [show (j : Int) + ((s - 1 : Nat) : Int) = (j : Int) + (s : Int) - 1 by omega] at hs1
              rw [show ((n1 - (s - 1) : Nat) : Int) = (n1 : Int) - (s : Int) + 1 by omega] at hs2
              rw [HP.out] at hr2
              have s1 := fun k => run_str (hr1.drewN k)
              have s2 := fun k => run_str (hr2.drewN k)
              have q2 : ((str ((ts.drop j).take (s - 1))).toList == (str p).toList) = decide (At ts p j) := by
                have hpl : p.length = s - 1 := by rw [← HP.out, List.length_drop]; have := HNL.out; omega
                rw [str_beq (fun b hb => HX.out b (List.mem_of_mem_drop (List.mem_of_mem_take hb))) (fun b hb => HX.out b (by rw [← HP.out] at hb; exact List.mem_of_mem_drop hb)), Bool.eq_iff_iff]
                simp only [decide_eq_true_eq]
                exact (at_mid hpl (by have := HNL.out; omega)).symm
              have HQ := Lib.hid q2
              have w1 : IntKind.i64.wrap ((j : Int) + (s : Int)) = (j : Int) + (s : Int) := IntWalk.i64_in _ (by omega)
              have w2 : IntKind.i64.wrap ((j : Int) + (s : Int) - 1) = (j : Int) + (s : Int) - 1 := IntWalk.i64_in _ (by omega)
              have w3 : IntKind.i64.wrap ((n1 : Int) - (s : Int)) = (n1 : Int) - (s : Int) := IntWalk.i64_in _ (by omega)
              have w4 : IntKind.i64.wrap ((n1 : Int) - (s : Int) + 1) = (n1 : Int) - (s : Int) + 1 := IntWalk.i64_in _ (by omega)
              have SN := Lib.hid (seen_next ts p j)
              clear hr hr1 hr2 q2
              generalize (ts.drop j).take (s - 1) = x1 at *
              generalize seen ts p j = v at *
              cases v
              · go_wp2
                go_quiet (fail)
                clear s1 s2 hs1 hs2 w1 w2 w3 w4
                go_wp2
                go_roundw
                case rel => exact ⟨j + 1, by omega, by go_num, by rw [SN.out, Bool.false_or, HQ.out], Lib.hid ⟨HB2.out.os, HB2.out.tape, HB2.out.output, HB2.out.size, HB2.out.block⟩⟩
                case measure => simp [intOf]; omega
              · go_wp2
                go_quiet (fail)
                clear s1 s2 hs1 hs2 w1 w2 w3 w4
                go_wp2
                go_roundw
                case rel => exact ⟨j + 1, by omega, by go_num, by rw [SN.out, Bool.true_or], Lib.hid ⟨HB2.out.os, HB2.out.tape, HB2.out.output, HB2.out.size, HB2.out.block⟩⟩
                case measure => simp [intOf]; omega
            · obtain rfl : j = n1 - s + 1 := by omega
              have q1 : decide (((n1 - s + 1 : Nat) : Int) < (n1 : Int) - (s : Int) + 1) = false := by simp; omega
              have X5 := Lib.hid (X2.out.1.trans (HB2.out.mono X2.out.1.size))
              rw [PA2.out]
              generalize hjj : n1 - s + 1 = jj at *
              go_wp2_with (go_at_call 12; refine (alive_true wr).mono ?_; rintro e w6 ⟨rfl, hb6⟩; have X6 := Lib.hid (X5.out.trans (hb6.mono X5.out.size)); clear hb6)
              go_ret
              exact ⟨rfl, X6.out⟩
end Go.Proofs.Ytialecghpekcnaa
