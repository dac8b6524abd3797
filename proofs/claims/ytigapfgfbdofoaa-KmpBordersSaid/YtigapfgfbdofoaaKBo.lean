/-
  The law KmpBorders: each border that is told is one; no longer one is; by one thing more a border grows by one at most.
  Conditions: none.
-/
import Derived.Test.YtigapfgfbdofoaaKLaw
namespace Go.Proofs.Ytigapfgfbdofoaa
open Go.RowKit

theorem longest_grow (s p : List Int) (x : Int) : longest (s ++ [x]) p ≤ longest s p + 1 := by
  have h := longest_suf (s ++ [x]) p
  generalize longest (s ++ [x]) p = m at h
  cases m with
  | zero => omega
  | succ m => have := le_longest (Suf.snoc.1 h).1; omega
theorem border_grow {l : List Int} {j : Nat} (h1 : 1 ≤ j) (hj : j < l.length) : border l (j + 1) ≤ border l j + 1 := by
  obtain ⟨e1, e2⟩ := bord_next h1 hj
  rw [e1, ← e2]
  exact longest_grow _ _ _
theorem belowN {B : Nat} {w W : World} (h : Below B w W) (n : Nat) : Below B w (W.drewN n) := ⟨h.os, h.tape, h.output, h.size, h.block⟩

set_option maxRecDepth 100000 in
set_option maxHeartbeats 4000000 in
theorem borders_true (A : Option Addr) (n c : Nat) (l : List Int) (w : World) (ht : Rd w (.slice A n c) (iv l)) :
    Calls Try.prog 7 #[.slice A n c] w fun e w' => e = .returned (.bool true) ∧ Below w.heap.size w w' := by
  obtain ⟨hnl, -⟩ := ht.ints
  by_cases hg : n ≤ 100
  case neg =>
    go_enter Try.func7, Try.ntmps7
    go_wp2_with fail
    refine (alive_true w).mono ?_
    rintro e w1 ⟨rfl, hb1⟩
    have X1 := Lib.hid hb1
    have G := great_one A n c w1
    rw [show decide (100 < n) = true by simp; omega] at G
    have HG := Lib.hid G
    clear G hnl hb1
    go_wp2_with fail
    refine HG.out.mono ?_
    rintro e w2 ⟨rfl, hw2⟩
    have X2 : Hid (Below w.heap.size w w2) := Lib.hid (by rw [← hw2]; exact X1.out.alloc X1.out.size _)
    clear hw2 HG
    go_wp2_with fail
    refine (alive_true w2).mono ?_
    rintro e w3 ⟨rfl, hb3⟩
    have X3 := Lib.hid (X2.out.trans (hb3.mono X2.out.size))
    clear hb3
    go_wp2
    go_ret
    exact ⟨rfl, X3.out⟩
  case pos =>
    have HT := Lib.hid ht
    have HA : Hid (∀ j k, k ≤ j → j < n → ∃ A1 A2, (∀ W, (Instr.slice 22 (.slice A n c) none (some (.int .i64 ((j : Int) + 1))) none).run Try.prog W = .ok (.slice A1 (j + 1) c) W) ∧
        (∀ W, (Instr.slice 22 (.slice A n c) none (some (.int .i64 (k : Int))) none).run Try.prog W = .ok (.slice A2 k c) W) ∧
        ∀ W, Below w.heap.size w W → Calls Try.prog 26 #[.slice A1 (j + 1) c, .slice A2 k c, .int .i64 ((j : Int) + 1 - (k : Int))] W fun e w' => e = .returned (.bool (decide (Suf (l.take (j + 1)) l k))) ∧ ∃ n, w' = W.drewN n) := Lib.hid fun j k hk hj => by
      obtain ⟨A1, hrun1, hr1⟩ := run_upto_i (k := j + 1) ht (by omega)
      obtain ⟨A2, hrun2, hr2⟩ := run_upto_i ht (show k ≤ n by omega)
      refine ⟨A1, A2, hrun1, hrun2, fun W hb => ?_⟩
      have hln : (l.take (j + 1)).length = j + 1 := by rw [List.length_take]; omega
      have := At_i A1 A2 (j + 1) c k c (l.take (j + 1)) (l.take k) (j + 1 - k) (by omega) (by omega) (by rw [List.length_take]; omega) W (hr1.kept hb) (hr2.kept hb)
      rw [show ((j + 1 - k : Nat) : Int) = (j : Int) + 1 - (k : Int) by omega] at this
      have hsa := suf_at (s := l.take (j + 1)) (p := l) (k := k) (by omega) (by omega)
      rw [hln] at hsa
      rwa [show decide (At (l.take (j + 1)) (l.take k) (j + 1 - k)) = decide (Suf (l.take (j + 1)) l k) by rw [Bool.eq_iff_iff]; simp only [decide_eq_true_eq]; exact hsa.symm] at this
    have HNL := Lib.hid hnl
    clear ht hnl
    go_enter Try.func7, Try.ntmps7
    go_wp2_with fail
    refine (alive_true w).mono ?_
    rintro e w1 ⟨rfl, hb1⟩
    have X1 := Lib.hid hb1
    have G := great_one A n c w1
    rw [show decide (100 < n) = false by simp; omega] at G
    have HG := Lib.hid G
    clear G hb1
    go_wp2_with fail
    refine HG.out.mono ?_
    rintro e w2 ⟨rfl, hw2⟩
    have X2 : Hid (Below w.heap.size w w2) := Lib.hid (by rw [← hw2]; exact X1.out.alloc X1.out.size _)
    clear hw2 HG X1
    have HC := Lib.hid (Borders_i l A n c w2 (HT.out.kept X2.out) (by have := HNL.out; omega))
    go_wp2_with fail
    refine HC.out.mono ?_
    rintro e w3 ⟨g, rfl, hblk, -, hb3⟩
    rw [← HNL.out]
    have X3 := Lib.hid (And.intro (X2.out.trans (hb3.mono X2.out.size)) hblk.ints)
    have HB0 := Lib.hid (bords_ok l)
    clear hblk hb3 HC X2
    go_wp2
    go_loopw [24] (fun i wr => ∃ j : Nat, j ≤ n ∧ i = .int .i64 j ∧ Hid (Below w3.heap.size w3 wr)) (fun i _ => n - (intOf i).toNat)
    case atStart => exact ⟨0, Nat.zero_le _, rfl, Lib.hid (Below.refl _ _)⟩
    case round =>
      obtain ⟨j, hj, rfl, HB⟩ := hrel
      by_cases hlt : j < n
      · have XB : Hid (Below w.heap.size w wr) := Lib.hid (X3.out.1.trans (HB.out.mono X3.out.1.size))
        have hx : ∀ i, i < n → wr.cell? ⟨g, i, none⟩ = some (.int .i64 ((border l (i + 1) : Nat) : Int)) := fun i hi => by
          obtain ⟨-, -, h⟩ := (X3.out.2.kept HB.out).ints
          obtain ⟨b, o, e, hx⟩ := h (by rw [bords_len]; have := HNL.out; omega)
          injection e with e
          injection e with e1 e2 e3
          subst e1 e2
          have := hx i (by rw [bords_len]; have := HNL.out; omega)
          rwa [Nat.zero_add, HB0.out i (by have := HNL.out; omega)] at this
        have y := hx j hlt
        have hv := border_lt (p := l) (a := j + 1) (by omega)
        have hs : Suf (l.take (j + 1)) l (border l (j + 1)) := border_suf l (j + 1)
        have HM : Hid (∀ k, k ≤ j → border l (j + 1) < k → ¬ Suf (l.take (j + 1)) l k) := Lib.hid fun k hk hlt hsk => by have := le_border (p := l) (a := j + 1) (by omega) hsk; omega
        obtain ⟨B1, B2, hrun1, hrun2, hc⟩ := HA.out j (border l (j + 1)) (by omega) hlt
        rw [show decide (Suf (l.take (j + 1)) l (border l (j + 1))) = true by simpa using hs] at hc
        have HC := Lib.hid (fun nd => hc (wr.drewN nd) (belowN XB.out nd))
        have HG : Hid (1 ≤ j → border l (j + 1) ≤ border l j + 1) := Lib.hid fun h1 => border_grow h1 (by have := HNL.out; omega)
        clear hc hs
        have w1 : IntKind.i64.wrap ((j : Int) + 1 - ((border l (j + 1) : Nat) : Int)) = (j : Int) + 1 - ((border l (j + 1) : Nat) : Int) := IntWalk.i64_in _ (by omega)
        have w2 : IntKind.i64.wrap ((j : Int) - 1) = (j : Int) - 1 := IntWalk.i64_in _ (by omega)
        have w3 : IntKind.i64.wrap ((j : Int) + 1) = (j : Int) + 1 := IntWalk.i64_in _ (by omega)
        have q0 : decide (((border l (j + 1) : Nat) : Int) < 0) = false := by simp
        have q1 : decide (j < border l (j + 1)) = false := by simp; omega
        by_cases hj0 : j = 0
        · have q2 : decide (0 < j) = false := by simp; omega
          have hj1 : j ≤ 0 := by omega
          clear hj0
          have q3 := q2
          have q4 := q2
          have q5 := q2
          have q6 := q2
          have i1 := q2
          have i2 := q2
          have i3 := q2
          have y1 := q2
          clear HG hx
          generalize border l (j + 1) = v at *
          go_wp2
          go_quiet ((go_at_call 26; exact Calls.quiet_of (HC.out _)))
          clear w1 w2 w3 i1 i2 i3 q0 q1 q2 q3 q4 q5 q6 y y1 hrun1 hrun2 HC
          go_wp2
          go_loopw [6] (fun i wi => ∃ k : Nat, v + 1 ≤ k ∧ k ≤ j + 1 ∧ i = .int .i64 k ∧ Hid (Below w3.heap.size w3 wi)) (fun i _ => j + 1 - (intOf i).toNat)
          case atStart => exact ⟨v + 1, by omega, by omega, by go_num, Lib.hid (belowN HB.out _)⟩
          case round =>
            obtain ⟨k, hk1, hk, rfl, HB2⟩ := hrel
            by_cases hlt2 : k ≤ j
            · obtain ⟨C1, C2, hrun1, hrun2, hc⟩ := HA.out j k hlt2 hlt
              rw [show decide (Suf (l.take (j + 1)) l k) = false by simpa using HM.out k hlt2 (by omega)] at hc
              have HC := Lib.hid (fun nd => hc (wr.drewN nd) (belowN (X3.out.1.trans (HB2.out.mono X3.out.1.size)) nd))
              have w1 : IntKind.i64.wrap ((j : Int) + 1 - (k : Int)) = (j : Int) + 1 - (k : Int) := IntWalk.i64_in _ (by omega)
              have q1 : decide (k ≤ j) = true := by simpa using hlt2
              clear hc
              go_wp2
              go_quiet ((go_at_call 26; exact Calls.quiet_of (HC.out _)))
              clear w1
              go_wp2
              go_roundw
              case rel => exact ⟨k + 1, by omega, by omega, by go_num, Lib.hid (belowN HB2.out _)⟩
              case measure => simp [intOf]; omega
            · obtain rfl : k = j + 1 := by omega
              have q1 : decide (j + 1 ≤ j) = false := by simp
              go_wp2
              go_roundw
              case rel => exact ⟨j + 1, by omega, by go_num, HB2⟩
              case measure => simp [intOf]; omega
        · have hgr := HG.out (by omega)
          have y1 := hx (j - 1) (by omega)
          rw [show j - 1 + 1 = j by omega] at y1
          have q2 : decide (0 < j) = true := by simp; omega
          have q3 : ((j : Int) - 1).toNat = j - 1 := by omega
          have q4 : decide (((border l j : Nat) : Int) + 1 < ((border l (j + 1) : Nat) : Int)) = false := by simp; omega
          have q5 : decide (border l j + 1 < border l (j + 1)) = false := by simp; omega
          have q6 : IntKind.i64.wrap (((border l j : Nat) : Int) + 1) = ((border l j : Nat) : Int) + 1 := IntWalk.i64_in _ (by have := border_lt (p := l) (a := j) (by omega); omega)
          have i1 : (1 : Int) ≤ (j : Int) := by omega
          have i2 : (j : Int) - 1 < (n : Int) := by omega
          have i3 : (0 : Int) ≤ (j : Int) - 1 := by omega
          have hvj : border l j ≤ 100 := by have := border_lt (p := l) (a := j) (by omega); omega
          clear HG hx
          generalize border l (j + 1) = v at *
          generalize border l j = u at *
          go_wp2
          go_quiet ((go_at_call 26; exact Calls.quiet_of (HC.out _)))
          clear w1 w2 w3 i1 i2 i3 q0 q1 q2 q3 q4 q5 q6 y y1 hrun1 hrun2 HC
          go_wp2
          go_loopw [6] (fun i wi => ∃ k : Nat, v + 1 ≤ k ∧ k ≤ j + 1 ∧ i = .int .i64 k ∧ Hid (Below w3.heap.size w3 wi)) (fun i _ => j + 1 - (intOf i).toNat)
          case atStart => exact ⟨v + 1, by omega, by omega, by go_num, Lib.hid (belowN HB.out _)⟩
          case round =>
            obtain ⟨k, hk1, hk, rfl, HB2⟩ := hrel
            by_cases hlt2 : k ≤ j
            · obtain ⟨C1, C2, hrun1, hrun2, hc⟩ := HA.out j k hlt2 hlt
              rw [show decide (Suf (l.take (j + 1)) l k) = false by simpa using HM.out k hlt2 (by omega)] at hc
              have HC := Lib.hid (fun nd => hc (wr.drewN nd) (belowN (X3.out.1.trans (HB2.out.mono X3.out.1.size)) nd))
              have w1 : IntKind.i64.wrap ((j : Int) + 1 - (k : Int)) = (j : Int) + 1 - (k : Int) := IntWalk.i64_in _ (by omega)
              have q1 : decide (k ≤ j) = true := by simpa using hlt2
              clear hc
              go_wp2
              go_quiet ((go_at_call 26; exact Calls.quiet_of (HC.out _)))
              clear w1
              go_wp2
              go_roundw
              case rel => exact ⟨k + 1, by omega, by omega, by go_num, Lib.hid (belowN HB2.out _)⟩
              case measure => simp [intOf]; omega
            · obtain rfl : k = j + 1 := by omega
              have q1 : decide (j + 1 ≤ j) = false := by simp
              go_wp2
              go_roundw
              case rel => exact ⟨j + 1, by omega, by go_num, HB2⟩
              case measure => simp [intOf]; omega
      · obtain rfl : j = n := by omega
        have XB : Hid (Below w.heap.size w wr) := Lib.hid (X3.out.1.trans (HB.out.mono X3.out.1.size))
        go_wp2
        go_ret
        exact ⟨rfl, XB.out⟩
end Go.Proofs.Ytigapfgfbdofoaa
