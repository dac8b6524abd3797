/-
  The law TailPieces: of any text, and any number, the shortest end, and the pieces, are the document's, or the error.
  Conditions: the number is an int.
-/
import Derived.Test.YtialecghpekcnaaTLAlive
namespace Go.Proofs.Ytialecghpekcnaa
open Go.RowKit

set_option maxRecDepth 100000 in
set_option maxHeartbeats 4000000 in
theorem pieces_true (A : Option Addr) (n c : Nat) (t : List Nat) (m : Int) (w : World) (ht : Rd w (.slice A n c) (bv t)) (hbt : ∀ b ∈ t, b < 256) (hm : -9223372036854775808 ≤ m ∧ m ≤ 9223372036854775807) :
    Calls Try.prog 3 #[.slice A n c, .int .i64 m] w fun e w' => e = .returned (.bool true) ∧ Below w.heap.size w w' := by
  obtain ⟨n1, hn1, hn2, hn3⟩ : ∃ k : Nat, k ≤ n ∧ k ≤ 120 ∧ min (n : Int) 120 = (k : Int) := ⟨min n 120, Nat.min_le_left _ _, Nat.min_le_right _ _, by omega⟩
  obtain ⟨A1, hs1, hr1⟩ := run_upto ht hn1
  have HX : Hid (∀ b ∈ t.take n1, b < 256) := Lib.hid fun b hb => hbt b (List.mem_of_mem_take hb)
  generalize t.take n1 = ts at *
  have HNL := Lib.hid hr1.bytes
  have HR := Lib.hid hr1
  clear ht hr1 hbt
  have HC2 : Hid (∀ W, Below w.heap.size w W → Calls Try.prog 10 #[.slice A1 n1 c] W fun e w' => e = .returned (.int .i64 (shortest ts : Nat)) ∧ Below W.heap.size W w') := Lib.hid fun W hb => Shortest_is A1 n1 c ts (by omega) W (HR.out.kept hb) HX.out
  have HC3 : Hid (∀ W, Below w.heap.size w W → Calls Try.prog 11 #[.slice A1 n1 c] W fun e w' => e = .returned (.int .i64 (shortest ts : Nat)) ∧ ∃ n, w' = W.drewN n) := Lib.hid fun W hb => RShortest_is A1 n1 c ts (by omega) W (HR.out.kept hb) HX.out
  have HC4 : Hid (∀ W, Below w.heap.size w W → 1 ≤ m → m ≤ 1048576 → Calls Try.prog 13 #[.slice A1 n1 c, .int .i64 m] W (ListsTo W (pieces ts m.toNat))) := Lib.hid fun W hb h1 h2 => by
    have := RPieces_is A1 n1 c ts m.toNat (by omega) (by omega) (by omega) W (HR.out.kept hb) HX.out
    rwa [show ((m.toNat : Nat) : Int) = m by omega] at this
  have HPL : Hid (1 ≤ m → (pieces ts m.toNat).length ≤ n1) := Lib.hid fun h1 => by have := pieces_len ts (m := m.toNat) (by omega); have := HNL.out; omega
  go_enter Try.func3, Try.ntmps3
  go_wp2_with fail
  have HC1 := Lib.hid (Pieces_is A1 n1 c ts m (by omega) w HR.out HX.out hm)
  clear hs1 hn3
  refine HC1.out.mono ?_
  rintro e w1 ⟨A5, c5, ll, er, rfl, hl, hbad, hgood⟩
  have XL := Lib.hid hl
  have X1 : Hid (Below w.heap.size w w1) := Lib.hid hl.bel
  have HG := Lib.hid (And.intro hbad hgood)
  have HD := Lib.hid (HC2.out w1 X1.out)
  clear hl hbad hgood HC1 HC2
  go_wp2_with fail
  refine HD.out.mono ?_
  rintro e w2 ⟨rfl, hb2⟩
  have XL2 := Lib.hid (XL.out.below hb2)
  have X2 := Lib.hid (X1.out.trans (hb2.mono X1.out.size))
  have HD2 := Lib.hid (HC3.out w2 X2.out)
  clear hb2 HD XL X1 HC3
  go_wp2_with fail
  refine HD2.out.mono ?_
  rintro e w3 ⟨rfl, nd, hw3⟩
  have XL3 := Lib.hid (XL2.out.drewN nd)
  have X3 : Hid (Below w.heap.size w (w2.drewN nd)) := Lib.hid ⟨X2.out.os, X2.out.tape, X2.out.output, X2.out.size, X2.out.block⟩
  rw [← hw3] at XL3 X3
  clear hw3 HD2 XL2 X2
  by_cases hmm : m < 1 ∨ 1048576 < m
  · obtain ⟨rfl, rfl⟩ := HG.out.1 hmm
    rcases hmm with hm1 | hm1
    case' inl => have q1 : decide (m < 1) = true := by simpa using hm1
    case' inr =>
      have q0 : decide (m < 1) = false := by simp; omega
      have q1 : decide (1048576 < m) = true := by simpa using hm1
    all_goals
      clear hm1
      go_wp2_with (go_at_call 12; refine (alive_true w3).mono ?_; rintro e w4 ⟨rfl, hb4⟩; have X4 := Lib.hid (X3.out.trans (hb4.mono X3.out.size)); clear hb4)
      go_ret
      exact ⟨rfl, X4.out⟩
  · obtain ⟨rfl, rfl⟩ := HG.out.2 (by omega)
    have q0 : decide (m < 1) = false := by simp; omega
    have q1 : decide (1048576 < m) = false := by simp; omega
    have hpl := HPL.out (by omega)
    have HD4 := Lib.hid (HC4.out w3 X3.out (by omega) (by omega))
    clear hmm HC4 HPL HG
    generalize pieces ts m.toNat = pp at *
    go_wp2_with fail
    refine HD4.out.mono ?_
    rintro e w4 ⟨A6, c6, rfl, hl4⟩
    have X4 := Lib.hid (And.intro (X3.out.trans (hl4.bel.mono X3.out.size)) (And.intro (XL3.out.lists.kept hl4.bel) hl4.lists))
    clear hl4 HD4 XL3 X3
    go_wp2
    go_loopw [55] (fun i wr => ∃ j : Nat, j ≤ pp.length ∧ i = .int .i64 j ∧ Hid (Below w4.heap.size w4 wr)) (fun i _ => pp.length - (intOf i).toNat)
    case atStart => exact ⟨0, by omega, rfl, Lib.hid (Below.refl _ _)⟩
    case round =>
      obtain ⟨j, hj, rfl, HB⟩ := hrel
      by_cases hlt : j < pp.length
      · obtain ⟨b1, o1, B1, d1, rfl, y1, r1⟩ := (X4.out.2.1.kept HB.out).at_ hlt
        obtain ⟨b2, o2, B2, d2, rfl, y2, r2⟩ := (X4.out.2.2.kept HB.out).at_ hlt
        have s1 := fun k => run_str (r1.drewN k)
        have s2 := fun k => run_str (r2.drewN k)
        clear r1 r2
        generalize pp[j] = x at *
        go_wp2
        go_quiet (fail)
        have hbn : ((str x).toList != (str x).toList) = false := by simp
        clear s1 s2 y1 y2
        go_wp2
        go_roundw
        case rel => exact ⟨j + 1, by omega, by go_num, Lib.hid ⟨HB.out.os, HB.out.tape, HB.out.output, HB.out.size, HB.out.block⟩⟩
        case measure => simp [intOf]; omega
      · obtain rfl : j = pp.length := by omega
        have X5 := Lib.hid (X4.out.1.trans (HB.out.mono X4.out.1.size))
        go_wp2_with (go_at_call 12; refine (alive_true wr).mono ?_; rintro e w6 ⟨rfl, hb6⟩; have X6 := Lib.hid (X5.out.trans (hb6.mono X5.out.size)); clear hb6)
        go_ret
        exact ⟨rfl, X6.out⟩
end Go.Proofs.Ytialecghpekcnaa
