/-
  The law KmpCuts: a pattern that is cut out of a text stands where it was cut out; the first place is no later; no earlier one is left out.
  Conditions: the numbers are ints.
-/
import Derived.Test.YtigapfgfbdofoaaKLaw
namespace Go.Proofs.Ytigapfgfbdofoaa
open Go.RowKit

theorem placed {l p : List Int} {i : Nat} : i ∈ places l p ↔ At l p i := by
  unfold places
  rw [List.mem_filter, List.mem_range]
  simp only [decide_eq_true_eq]
  exact ⟨fun h => h.2, fun h => ⟨by have := h.1; omega, h⟩⟩
theorem places_up (l p : List Int) : (places l p).Pairwise (· < ·) := List.Pairwise.sublist List.filter_sublist List.pairwise_lt_range
theorem cut_at {l : List Int} {a k : Nat} (h : a + k ≤ l.length) : At l ((l.drop a).take k) a := by
  have e : ((l.drop a).take k).length = k := by rw [List.length_take, List.length_drop]; omega
  exact ⟨by omega, by omega, by rw [e]⟩
theorem up_next {xs : List Nat} (h : xs.Pairwise (· < ·)) {j : Nat} (hj : j + 1 < xs.length) : xs[j] < xs[j + 1] := List.pairwise_iff_getElem.1 h j (j + 1) (by omega) hj (by omega)
theorem up_head {xs : List Nat} (h : xs.Pairwise (· < ·)) {a : Nat} (ha : a ∈ xs) : ∃ y ys, xs = y :: ys ∧ y ≤ a := by
  cases xs with
  | nil => cases ha
  | cons y ys =>
    refine ⟨y, ys, rfl, ?_⟩
    rcases List.mem_cons.1 ha with e | e
    · omega
    · have := (List.pairwise_cons.1 h).1 a e; omega
theorem in_next {xs : List Nat} {a j : Nat} (hj : j < xs.length) : decide (a ∈ xs.take (j + 1)) = (decide (a ∈ xs.take j) || decide (xs[j] = a)) := by
  rw [List.take_succ_eq_append_getElem hj, ← Bool.decide_or]
  congr 1
  rw [List.mem_append, List.mem_singleton, eq_comm (a := a)]

theorem run_mid_i {w : World} {A : Option Addr} {n c a k : Nat} {l : List Int} (h : Rd w (.slice A n c) (iv l)) (ha : a + k ≤ n) :
    ∃ A' c', (∀ W, (Instr.slice 22 (.slice A n c) (some (.int .i64 (a : Int))) (some (.int .i64 ((a : Int) + (k : Int)))) none).run Try.prog W = .ok (.slice A' k c') W) ∧ Rd w (.slice A' k c') (iv ((l.drop a).take k)) := by
  refine ⟨_, _, fun W => ?_, by have := (h.drop (a := a) (by omega)).take (n := k) (by omega); rw [show ((iv l).drop a).take k = iv ((l.drop a).take k) by simp] at this; exact this⟩
  have hle := h.le
  obtain ⟨i0, hi0, hz0, hz1, hz2⟩ := info_parts int_info
  have hs : (sizeOf (Try.prog.elem 22)).run Try.prog W = .ok 1 W := by
    rw [show Try.prog.elem 22 = 3 by kernel_rfl]
    simp [sizeOf, typeInfo, hi0, hz1]
  rw [run_slice_lh W 22 A n c (by kernel_rfl) .i64 .i64 (a : Int) ((a : Int) + (k : Int)) (by omega) (by omega) (by omega), hs]
  rw [show ((a : Int) + (k : Int)) = ((a + k : Nat) : Int) by omega]
  simp only [Result.andThen, Int.toNat_natCast, sliced, Nat.mul_one, Nat.add_sub_cancel_left]

theorem cut_num {n : Nat} (z : Int) : ∃ k : Nat, (IntKind.u64.wrap z).tmod ((n : Int) + 1) = (k : Int) ∧ k ≤ n := by
  have h0 : 0 ≤ (IntKind.u64.wrap z).tmod ((n : Int) + 1) := Int.tmod_nonneg _ (by rw [IntKind.wrap_u64]; omega)
  have h1 : (IntKind.u64.wrap z).tmod ((n : Int) + 1) < (n : Int) + 1 := Int.tmod_lt_of_pos _ (by omega)
  exact ⟨((IntKind.u64.wrap z).tmod ((n : Int) + 1)).toNat, by omega, by omega⟩

theorem nat_beq (x a : Nat) : ((x : Int) == (a : Int)) = decide (x = a) := by
  by_cases h : x = a
  · subst h; simp
  · rw [beq_eq_false_iff_ne.2 (by omega)]; simp [h]

set_option maxRecDepth 100000 in
set_option maxHeartbeats 4000000 in
theorem cuts_true (A : Option Addr) (n c : Nat) (l : List Int) (z1 z2 : Int) (w : World) (ht : Rd w (.slice A n c) (iv l)) (_ : -9223372036854775808 ≤ z1 ∧ z1 ≤ 9223372036854775807) (_ : -9223372036854775808 ≤ z2 ∧ z2 ≤ 9223372036854775807) :
    Calls Try.prog 6 #[.slice A n c, .int .i64 z1, .int .i64 z2] w fun e w' => e = .returned (.bool true) ∧ Below w.heap.size w w' := by
  obtain ⟨hnl, -⟩ := ht.ints
  by_cases hg : n ≤ 100
  case neg =>
    go_enter Try.func6, Try.ntmps6
    go_wp2_with fail
    refine (alive_true w).mono ?_
    rintro e w1 ⟨rfl, hb1⟩
    have X1 := Lib.hid hb1
    have G := great_one A n c w1
    rw [show decide (100 < n) = true by simp; omega] at G
    have HG := Lib.hid G
    clear G hnl hb1
    go_wp2_with fail
    refine HG.out.mono ?_
    rintro e w2 ⟨rfl, hw2⟩
    have X2 : Hid (Below w.heap.size w w2) := Lib.hid (by rw [← hw2]; exact X1.out.alloc X1.out.size _)
    clear hw2 HG
    go_wp2_with fail
    refine (alive_true w2).mono ?_
    rintro e w3 ⟨rfl, hb3⟩
    have X3 := Lib.hid (X2.out.trans (hb3.mono X2.out.size))
    clear hb3
    go_wp2
    go_ret
    exact ⟨rfl, X3.out⟩
  case pos =>
    obtain ⟨a, ha, hal⟩ := cut_num (n := n) z1
    obtain ⟨k, hk, hkl⟩ := cut_num (n := n - a) z2
    obtain ⟨A1, c1, hs1, hr1⟩ := run_mid_i (a := a) (k := k) ht (by omega)
    rw [show ((n - a : Nat) : Int) = (n : Int) - (a : Int) by omega] at hk
    have HT := Lib.hid (And.intro ht hr1)
    have HNL := Lib.hid hnl
    have HA := Lib.hid ha
    have HK := Lib.hid hk
    clear ht hr1 hnl
    go_enter Try.func6, Try.ntmps6
    go_wp2_with fail
    refine (alive_true w).mono ?_
    rintro e w1 ⟨rfl, hb1⟩
    have X1 := Lib.hid hb1
    have G := great_one A n c w1
    rw [show decide (100 < n) = false by simp; omega] at G
    have HG := Lib.hid G
    clear G hb1
    go_wp2_with fail
    refine HG.out.mono ?_
    rintro e w2 ⟨rfl, hw2⟩
    have X2 : Hid (Below w.heap.size w w2) := Lib.hid (by rw [← hw2]; exact X1.out.alloc X1.out.size _)
    clear hw2 HG X1
    have PC := Lib.hid (cut_at (l := l) (a := a) (k := k) (by have := HNL.out; omega))
    have PL : Hid (((l.drop a).take k).length = k) := Lib.hid (by have := HNL.out; rw [List.length_take, List.length_drop]; omega)
    generalize (l.drop a).take k = p at *
    have HC := Lib.hid (all_i A A1 n c k c1 l p (by have := HNL.out; omega) (by have := PL.out; omega) w2 (HT.out.1.kept X2.out) (HT.out.2.kept X2.out))
    go_wp2_with fail
    refine HC.out.mono ?_
    rintro e w3 h3
    obtain ⟨A3, c3, -, rfl, -⟩ := id h3
    obtain ⟨-, r3, hb3⟩ := h3.rd
    have X3 := Lib.hid (And.intro (X2.out.trans (hb3.mono X2.out.size)) r3)
    have PU := Lib.hid (places_up l p)
    have PM : Hid (∀ x ∈ places l p, At l p x) := Lib.hid fun x hx => placed.1 hx
    have PA : Hid (a ∈ places l p) := Lib.hid (placed.2 PC.out)
    have PN := Lib.hid (places_len l p)
    have HF := Lib.hid (fun W hb => First_i A A1 n c k c1 l p (by have := HNL.out; omega) (by have := PL.out; omega) W (HT.out.1.kept hb) (HT.out.2.kept hb))
    have HAT : Hid (∀ x, x ≤ 100 → ∀ W, Below w.heap.size w W → Calls Try.prog 26 #[.slice A n c, .slice A1 k c1, .int .i64 ((x : Nat) : Int)] W fun e w' => e = .returned (.bool (decide (At l p x))) ∧ ∃ n, w' = W.drewN n) :=
      Lib.hid fun x hx W hb => At_i A A1 n c k c1 l p x (by omega) (by have := HNL.out; omega) (by have := PL.out; omega) W (HT.out.1.kept hb) (HT.out.2.kept hb)
    clear h3 r3 hb3 HC X2 HT PC
    rw [ni_len] at X3 ⊢
    have PB : Hid (∀ x ∈ places l p, x ≤ 100) := Lib.hid fun x hx => by have := (PM.out x hx).1; have := HNL.out; omega
    have L1 : (places l p).length ≤ 101 := by have := PN.out; have := HNL.out; omega
    generalize places l p = xs at *
    go_wp2
    go_loopw [11, 53] (fun v i wr => ∃ j : Nat, j ≤ xs.length ∧ i = .int .i64 j ∧ v = .bool (decide (a ∈ xs.take j)) ∧ Hid (Below w3.heap.size w3 wr)) (fun _ i _ => xs.length - (intOf i).toNat)
    case atStart => exact ⟨0, Nat.zero_le _, rfl, by simp, Lib.hid (Below.refl _ _)⟩
    case round =>
      obtain ⟨j, hj, rfl, rfl, HB⟩ := hrel
      have XB : Hid (Below w.heap.size w wr) := Lib.hid (X3.out.1.trans (HB.out.mono X3.out.1.size))
      by_cases hlt : j < xs.length
      · obtain ⟨b, o, rfl, hx⟩ := (X3.out.2.kept HB.out).ints.2.2 (by rw [ni_len]; omega)
        have y := hx j (by rw [ni_len]; omega)
        rw [show (ni xs)[j]?.getD 0 = ((xs[j] : Nat) : Int) by simp [ni, hlt]] at y
        have hm : xs[j] ∈ xs := List.getElem_mem hlt
        have hat := HAT.out xs[j] (PB.out _ hm) wr XB.out
        rw [show decide (At l p xs[j]) = true by simpa using PM.out _ hm] at hat
        have HC := Lib.hid hat
        have IN := Lib.hid (in_next (a := a) hlt)
        have hx100 := PB.out _ hm
        by_cases hj0 : j = 0
        · subst hj0
          rw [Nat.add_zero] at y
          clear hx hat hm
          generalize xs[0] = x at *
          generalize decide (a ∈ xs.take 0) = v at *
          cases v
          · go_wp2_with fail
            refine HC.out.mono ?_
            rintro e w5 ⟨rfl, nd, hw5⟩
            have HB5 : Hid (Below w3.heap.size w3 w5) := Lib.hid (by rw [hw5]; have := HB.out; exact ⟨this.os, this.tape, this.output, this.size, this.block⟩)
            clear hw5 HC
            go_wp2
            go_roundw
            case rel => exact ⟨1, by omega, by go_num, by rw [IN.out, Bool.false_or, nat_beq], HB5⟩
            case measure => simp [intOf]; omega
          · go_wp2_with fail
            refine HC.out.mono ?_
            rintro e w5 ⟨rfl, nd, hw5⟩
            have HB5 : Hid (Below w3.heap.size w3 w5) := Lib.hid (by rw [hw5]; have := HB.out; exact ⟨this.os, this.tape, this.output, this.size, this.block⟩)
            clear hw5 HC
            go_wp2
            go_roundw
            case rel => exact ⟨1, by omega, by go_num, by rw [IN.out, Bool.true_or], HB5⟩
            case measure => simp [intOf]; omega
        · obtain ⟨t, rfl⟩ : ∃ t, j = t + 1 := ⟨j - 1, by omega⟩
          have y1 := hx t (by rw [ni_len]; omega)
          rw [show (ni xs)[t]?.getD 0 = ((xs[t] : Nat) : Int) by simp [ni, (by omega : t < xs.length)]] at y1
          have hup := up_next PU.out hlt
          have q1 : decide (((xs[t + 1] : Nat) : Int) ≤ ((xs[t] : Nat) : Int)) = false := by simp; omega
          have q2 : decide (xs[t + 1] ≤ xs[t]) = false := by simp; omega
          clear hx hat hm
          generalize xs[t + 1] = x at *
          generalize xs[t] = x1 at *
          generalize decide (a ∈ xs.take (t + 1)) = v at *
          cases v
          · go_wp2_with fail
            refine HC.out.mono ?_
            rintro e w5 ⟨rfl, nd, hw5⟩
            have HB5 : Hid (Below w3.heap.size w3 w5) := Lib.hid (by rw [hw5]; have := HB.out; exact ⟨this.os, this.tape, this.output, this.size, this.block⟩)
            clear hw5 HC
            go_wp2
            go_roundw
            case rel => exact ⟨t + 2, by omega, by go_num, by rw [IN.out, Bool.false_or, nat_beq], HB5⟩
            case measure => simp [intOf]; omega
          · go_wp2_with fail
            refine HC.out.mono ?_
            rintro e w5 ⟨rfl, nd, hw5⟩
            have HB5 : Hid (Below w3.heap.size w3 w5) := Lib.hid (by rw [hw5]; have := HB.out; exact ⟨this.os, this.tape, this.output, this.size, this.block⟩)
            clear hw5 HC
            go_wp2
            go_roundw
            case rel => exact ⟨t + 2, by omega, by go_num, by rw [IN.out, Bool.true_or], HB5⟩
            case measure => simp [intOf]; omega
      · obtain rfl : j = xs.length := by omega
        have PT : Hid (decide (a ∈ xs.take xs.length) = true) := Lib.hid (by rw [List.take_length]; simpa using PA.out)
        obtain ⟨y, ys, rfl, hya⟩ := up_head PU.out PA.out
        have HC := Lib.hid (HF.out wr XB.out)
        rw [PT.out]
        go_wp2_with fail
        refine HC.out.mono ?_
        rintro e w5 ⟨rfl, hb5⟩
        obtain ⟨b, o, rfl, hx⟩ := ((X3.out.2.kept HB.out).kept hb5).ints.2.2 (by rw [ni_len]; simp)
        have y0 := hx 0 (by rw [ni_len]; simp)
        rw [Nat.add_zero, show (ni (y :: ys))[0]?.getD 0 = (y : Int) by simp [ni]] at y0
        have XR := Lib.hid (XB.out.trans (hb5.mono XB.out.size))
        have hpos : 0 < (y :: ys).length := by simp
        simp only [List.headD_cons, List.isEmpty_cons, Bool.not_false]
        have q1 : decide ((y : Int) ≤ (a : Int)) = true := by simpa using hya
        have q2 : decide (y ≤ a) = true := by simpa using hya
        clear hx hb5 HC
        generalize (y :: ys).length = len at *
        go_wp2
        go_ret
        exact ⟨rfl, XR.out⟩
end Go.Proofs.Ytigapfgfbdofoaa
