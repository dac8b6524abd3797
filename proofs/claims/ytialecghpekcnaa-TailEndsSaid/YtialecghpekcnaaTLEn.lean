/-
  The law TailEnds: of a text that anything follows its pieces end, one behind the other, just at its end; each is a piece of at most so many bytes, and none is empty.
  Conditions: the number is an int.
-/
import Derived.Test.YtialecghpekcnaaTLAlive
namespace Go.Proofs.Ytialecghpekcnaa
open Go.RowKit

theorem pieces_none {t : List Nat} {m : Nat} : (pieces t m).length = 0 ↔ t.length = 0 := by
  constructor
  · intro h
    rcases Nat.eq_zero_or_pos t.length with h0 | h0
    · exact h0
    · have h1 := (shortest_is h0).1
      unfold pieces at h
      rw [if_neg (by omega)] at h
      split at h
      · simp at h
      · cases ht : t.length with
        | zero => rfl
        | succ f => rw [ht] at h; unfold chunks at h; split at h <;> simp at h
  · intro h
    unfold pieces
    rw [if_pos (by unfold shortest; rw [h]; rfl)]
    rfl
theorem pieces_whole {t more : List Nat} {m : Nat} (hm : 1 ≤ m) : factors (t ++ more) (pieces t m) 0 = some t.length := by
  rcases Nat.eq_zero_or_pos t.length with h0 | h0
  · rw [List.eq_nil_of_length_eq_zero (pieces_none.2 h0), h0]; rfl
  · exact pieces_end hm h0

set_option maxRecDepth 100000 in
set_option maxHeartbeats 4000000 in
theorem ends_true (A : Option Addr) (n c : Nat) (t : List Nat) (B : Option Addr) (m d : Nat) (p : List Nat) (z : Int) (w : World) (ht : Rd w (.slice A n c) (bv t)) (hp : Rd w (.slice B m d) (bv p)) (hbt : ∀ b ∈ t, b < 256) (hbp : ∀ b ∈ p, b < 256) (hz : -9223372036854775808 ≤ z ∧ z ≤ 9223372036854775807) :
    Calls Try.prog 5 #[.slice A n c, .slice B m d, .int .i64 z] w fun e w' => e = .returned (.bool true) ∧ Below w.heap.size w w' := by
  obtain ⟨i0, hi0, hz0, hz1, hz2⟩ := info_parts byte_info
  obtain ⟨n1, hn1, hn2, hn3⟩ : ∃ k : Nat, k ≤ n ∧ k ≤ 150 ∧ min (n : Int) 150 = (k : Int) := ⟨min n 150, Nat.min_le_left _ _, Nat.min_le_right _ _, by omega⟩
  obtain ⟨m1, hm1, hm2, hm3⟩ : ∃ k : Nat, k ≤ m ∧ k ≤ 150 ∧ min (m : Int) 150 = (k : Int) := ⟨min m 150, Nat.min_le_left _ _, Nat.min_le_right _ _, by omega⟩
  obtain ⟨k, hk1, hk2⟩ : ∃ k : Nat, k < 40 ∧ (max (0 : Int) z).tmod 40 = (k : Int) := by
    have h0 : 0 ≤ (max (0 : Int) z).tmod 40 := Int.tmod_nonneg _ (by omega)
    have h1 : (max (0 : Int) z).tmod 40 < 40 := Int.tmod_lt_of_pos _ (by omega)
    exact ⟨((max (0 : Int) z).tmod 40).toNat, by omega, by omega⟩
  obtain ⟨A1, hs1, hr1⟩ := run_upto ht hn1
  obtain ⟨B1, hs2, hr2⟩ := run_upto hp hm1
  have HX : Hid ((∀ b ∈ t.take n1, b < 256) ∧ (∀ b ∈ p.take m1, b < 256)) := Lib.hid ⟨fun b hb => hbt b (List.mem_of_mem_take hb), fun b hb => hbp b (List.mem_of_mem_take hb)⟩
  have HNL := Lib.hid (And.intro hr1.bytes hr2.bytes)
  generalize t.take n1 = ts at *
  generalize p.take m1 = ps at *
  have HR := Lib.hid (And.intro hr1 hr2)
  clear ht hp hr1 hr2 hbt hbp
  go_enter Try.func5, Try.ntmps5
  go_wp2_with fail
  go_quiet (fail)
  clear hs1 hs2 hn3 hm3
  generalize hv : World.drewN w _ = v
  have HV : Hid (Below w.heap.size w v) := by subst hv; exact ⟨rfl, rfl, rfl, Nat.le_refl _, fun _ _ => rfl⟩
  clear hv
  have HC1 := Lib.hid (Pieces_is A1 n1 c ts (1 + (k : Int)) (by omega) v (HR.out.1.kept HV.out) HX.out.1 (by omega))
  go_wp2_with fail
  clear hk2
  refine HC1.out.mono ?_
  rintro e w1 ⟨A5, c5, ll, er, rfl, hl, -, hgood⟩
  obtain ⟨rfl, rfl⟩ := hgood (by omega)
  rw [show (1 + (k : Int)).toNat = k + 1 by omega] at hl ⊢
  have X1 := Lib.hid (And.intro (HV.out.trans (hl.bel.mono HV.out.size)) hl.lists)
  have hpl : (pieces ts (k + 1)).length ≤ 150 := by have := pieces_len ts (m := k + 1) (by omega); have := HNL.out; omega
  have PM : Hid (∀ q ∈ pieces ts (k + 1), ∀ b ∈ q, b < 256) := Lib.hid fun q hq b hb => HX.out.1 b (pieces_mem q hq b hb)
  have PS : Hid (∀ q ∈ pieces ts (k + 1), 0 < q.length ∧ q.length ≤ k + 1) := Lib.hid (pieces_small (by omega))
  have PE : Hid (∀ more, factors (ts ++ more) (pieces ts (k + 1)) 0 = some ts.length) := Lib.hid fun more => pieces_whole (by omega)
  have PN : Hid (∀ more i, i < ts.length → factors ((ts ++ more).take i) (pieces ts (k + 1)) 0 = none) := Lib.hid fun more i hi => pieces_early (by omega) (by omega) hi
  have q0 : (((pieces ts (k + 1)).length : Int) == 0) = ((n1 : Int) == 0) := by
    have := pieces_none (t := ts) (m := k + 1)
    have := HNL.out.1
    rw [Bool.eq_iff_iff]
    simp only [beq_iff_eq]
    omega
  clear hl hgood HC1 HV
  generalize pieces ts (k + 1) = pp at *
  go_wp2
  clear q0
  go_loop [51] (fun i => ∃ j : Nat, j ≤ pp.length ∧ i = .int .i64 j) (fun i => pp.length - (intOf i).toNat)
  case atStart => exact ⟨0, by omega, rfl⟩
  case round =>
    obtain ⟨j, hj, rfl⟩ := hrel
    by_cases hlt : j < pp.length
    · obtain ⟨b1, o1, C1, d1, rfl, y1, r1⟩ := X1.out.2.at_ hlt
      obtain ⟨u1, u2⟩ := PS.out _ (List.getElem_mem hlt)
      clear r1
      generalize pp[j] = x at *
      have q1 : ((x.length : Int) == 0) = false := beq_eq_false_iff_ne.2 (by omega)
      have q2 : decide ((1 : Int) + (k : Int) < (x.length : Int)) = false := by simp; omega
      generalize x.length = xl at *
      go_wp2
      go_round
      case rel => exact ⟨j + 1, by omega, by go_num⟩
      case measure => simp [intOf]; omega
    · obtain rfl : j = pp.length := by omega
      have RT := Lib.hid ((HR.out.1.kept X1.out.1).alloc (.cells #[] 5))
      have RP := Lib.hid (HR.out.2.kept X1.out.1)
      go_wp2_with (first
        | (at_builtin; refine wpList_append_row _ rfl (.tmp 65) (.tmp 66) _ rfl 5 i0 _ 1 Try.underlying22 hi0 hz0 hz1 hz2 rfl none (.slice (some ⟨w1.heap.size, 0, none⟩) 0 0) (bv []) rfl (Row.empty _ _ _) (.slice A1 n1 c) (bv ts) rfl RT.out (by have := HNL.out; rw [bv_len, bv_len]; simp only [maxLen, List.length_nil]; omega) (by have := HNL.out; rw [bv_len, bv_len, List.length_nil]; omega) ?_; intro D1 e1 w2 g1 hrow hgr hgn; simp only [bv_len] at hrow ⊢; have Y1 := Lib.hid (BytI.grown (w0 := w1) (l := []) (m := ts) (go := none) (fun b e => by cases e) ((Below.refl _ w1).alloc (Nat.le_refl _) _) hrow hgr hgn); simp only [List.length_nil, Nat.zero_add, List.nil_append] at Y1 ⊢; clear hrow hgr hgn; obtain ⟨go, hrow, hg, hb⟩ := Y1.out; have Y1 := Lib.hid (And.intro hrow (And.intro hg hb)); clear hrow hg hb)
        | (at_builtin; refine wpList_append_row _ rfl (.tmp 67) (.tmp 68) _ rfl 5 i0 _ 1 Try.underlying22 hi0 hz0 hz1 hz2 rfl go (.slice D1 ts.length e1) (bv ts) rfl Y1.out.1 (.slice B1 m1 d) (bv ps) rfl (RP.out.kept Y1.out.2.2) (by have := HNL.out; rw [bv_len, bv_len]; simp only [maxLen]; omega) (by have := HNL.out; rw [bv_len, bv_len]; omega) ?_; intro D2 e2 w3 g2 hrow hgr hgn; simp only [bv_len] at hrow ⊢; have Y2 := Lib.hid (BytI.grown (w0 := w1) (l := ts) (m := ps) Y1.out.2.1 Y1.out.2.2 hrow hgr hgn); clear hrow hgr hgn Y1))
      have X3 : Hid (Below w.heap.size w w3 ∧ Rd w3 (.slice D2 (ts.length + ps.length) e2) (bv (ts ++ ps)) ∧ Lists w3 (.slice A5 pp.length c5) pp) := Lib.hid ⟨X1.out.1.trans (Y2.out.bel.mono X1.out.1.size), Y2.out.rd, X1.out.2.kept Y2.out.bel⟩
      have HB : Hid ((∀ b ∈ ts ++ ps, b < 256) ∧ (∀ q ∈ pp, ∀ b ∈ q, b < 256)) := Lib.hid ⟨fun b hb => (List.mem_append.1 hb).elim (HX.out.1 b) (HX.out.2 b), PM.out⟩
      have HL5 : ts.length + ps.length ≤ 300 := by have := HNL.out; omega
      have HF := Lib.hid (RFactors_is D2 A5 (ts.length + ps.length) e2 pp.length c5 (ts ++ ps) pp (by omega) (by omega) w3 X3.out.2.1 X3.out.2.2 HB.out.1 HB.out.2)
      rw [PE.out] at HF
      clear Y2
      refine HF.out.mono ?_
      rintro e w4 ⟨rfl, nd, hw4⟩
      simp only [facVal]
      have X4 : Hid (Below w.heap.size w w4 ∧ Rd w4 (.slice D2 (ts.length + ps.length) e2) (bv (ts ++ ps)) ∧ Lists w4 (.slice A5 pp.length c5) pp) := by
        have hb : Below w3.heap.size w3 w4 := by rw [hw4]; exact ⟨rfl, rfl, rfl, Nat.le_refl _, fun _ _ => rfl⟩
        exact Lib.hid ⟨X3.out.1.trans (hb.mono X3.out.1.size), X3.out.2.1.kept hb, X3.out.2.2.kept hb⟩
      have PNN : Hid (∀ i, i < n1 → factors ((ts ++ ps).take i) pp 0 = none) := Lib.hid fun i hi => PN.out ps i (by have := HNL.out; omega)
      have htn : Hid (ts.length = n1) := Lib.hid HNL.out.1.symm
      rw [htn.out] at X4 HL5 ⊢
      clear hw4 HF X3
      go_wp2
      go_loopw [78] (fun i wr => ∃ j : Nat, j ≤ n1 ∧ i = .int .i64 j ∧ Hid (Below w4.heap.size w4 wr)) (fun i _ => n1 - (intOf i).toNat)
      case atStart => exact ⟨0, by omega, rfl, Lib.hid (Below.refl _ _)⟩
      case round =>
        obtain ⟨j, hj, rfl, HBB⟩ := hrel
        by_cases hlt : j < n1
        · obtain ⟨E1, hs1, hr1⟩ := run_upto (k := j) (X4.out.2.1.kept HBB.out) (by omega)
          have HF := Lib.hid (RFactors_is E1 A5 j e2 pp.length c5 ((ts ++ ps).take j) pp (by omega) (by omega) wr hr1 (X4.out.2.2.kept HBB.out) (fun b hb => HB.out.1 b (List.mem_of_mem_take hb)) HB.out.2)
          rw [PNN.out j hlt] at HF
          clear hr1
          go_wp2_with fail
          refine HF.out.mono ?_
          rintro e w5 ⟨rfl, nd, hw5⟩
          have HB5 : Hid (Below w4.heap.size w4 w5) := Lib.hid (by rw [hw5]; exact ⟨HBB.out.os, HBB.out.tape, HBB.out.output, HBB.out.size, HBB.out.block⟩)
          simp only [facVal]
          clear hw5 HF hs1
          go_wp2
          go_roundw
          case rel => exact ⟨j + 1, by omega, by go_num, HB5⟩
          case measure => simp [intOf]; omega
        · obtain rfl : j = n1 := by omega
          have X5 := Lib.hid (X4.out.1.trans (HBB.out.mono X4.out.1.size))
          go_wp2_with (go_at_call 12; refine (alive_true wr).mono ?_; rintro e w6 ⟨rfl, hb6⟩; have X6 := Lib.hid (X5.out.trans (hb6.mono X5.out.size)); clear hb6)
          go_ret
          exact ⟨rfl, X6.out⟩
end Go.Proofs.Ytialecghpekcnaa
