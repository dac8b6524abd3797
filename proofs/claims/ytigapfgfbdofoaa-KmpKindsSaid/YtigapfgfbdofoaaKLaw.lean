/-
  cuecardlaw08.alive: the document's example holds; cuecardlaw08.great.
  Conditions: none.
-/
import Derived.Test.YtigapfgfbdofoaaKFirst
import Derived.Test.YtigapfgfbdofoaaKRefB
namespace Go.Proofs.Ytigapfgfbdofoaa
open Go.RowKit

theorem IntsTo.rd {w w' : World} {zs : List Int} {A : Option Addr} {n c : Nat} (h : IntsTo w zs (.returned (.slice A n c)) w') : n = zs.length ∧ Rd w' (.slice A n c) (iv zs) ∧ Below w.heap.size w w' := by
  obtain ⟨A', c', g, e, hr, -, hb⟩ := h
  injection e with e
  injection e with e1 e2 e3
  subst e1 e2 e3
  exact ⟨rfl, hr.rd, hb⟩

set_option maxRecDepth 100000 in
set_option maxHeartbeats 1000000 in
theorem alive_true (w : World) : Calls Try.prog 10 #[] w fun e w' => e = .returned (.bool true) ∧ Below w.heap.size w w' := by
  have L1 : ∀ W : World, Rd (W.alloc (.cells #[.int .i64 1, .int .i64 2, .int .i64 1, .int .i64 2, .int .i64 1, .int .i64 3] 3)) (.slice (some ⟨W.heap.size, 0, none⟩) 6 6) (iv [1, 2, 1, 2, 1, 3]) := fun W => Rd.lit W 3 #[.int .i64 1, .int .i64 2, .int .i64 1, .int .i64 2, .int .i64 1, .int .i64 3] 6 rfl (by omega) (by omega) (by simp [Value.oneCell'])
  have L2 : ∀ W : World, Rd (W.alloc (.cells #[.int .i64 0, .int .i64 0, .int .i64 1, .int .i64 2, .int .i64 3, .int .i64 0] 3)) (.slice (some ⟨W.heap.size, 0, none⟩) 6 6) (iv [0, 0, 1, 2, 3, 0]) := fun W => Rd.lit W 3 #[.int .i64 0, .int .i64 0, .int .i64 1, .int .i64 2, .int .i64 3, .int .i64 0] 6 rfl (by omega) (by omega) (by simp [Value.oneCell'])
  have L3 : ∀ W : World, Rd (W.alloc (.cells #[.int .i64 1, .int .i64 2, .int .i64 1, .int .i64 2, .int .i64 1] 3)) (.slice (some ⟨W.heap.size, 0, none⟩) 5 5) (iv [1, 2, 1, 2, 1]) := fun W => Rd.lit W 3 #[.int .i64 1, .int .i64 2, .int .i64 1, .int .i64 2, .int .i64 1] 5 rfl (by omega) (by omega) (by simp [Value.oneCell'])
  have L4 : ∀ W : World, Rd (W.alloc (.cells #[.int .i64 1, .int .i64 2, .int .i64 1] 3)) (.slice (some ⟨W.heap.size, 0, none⟩) 3 3) (iv [1, 2, 1]) := fun W => Rd.lit W 3 #[.int .i64 1, .int .i64 2, .int .i64 1] 3 rfl (by omega) (by omega) (by simp [Value.oneCell'])
  have L5 : ∀ W : World, Rd (W.alloc (.cells #[.int .i64 0, .int .i64 2] 3)) (.slice (some ⟨W.heap.size, 0, none⟩) 2 2) (iv [0, 2]) := fun W => Rd.lit W 3 #[.int .i64 0, .int .i64 2] 2 rfl (by omega) (by omega) (by simp [Value.oneCell'])
  have H1 := Lib.hid L1
  have H2 := Lib.hid L2
  have H3 := Lib.hid L3
  have H4 := Lib.hid L4
  have H5 := Lib.hid L5
  clear L1 L2 L3 L4 L5
  have C1 := Lib.hid (Borders_i [1, 2, 1, 2, 1, 3] _ 6 6 _ (H1.out w) (by simp))
  go_enter Try.func10, Try.ntmps10
  go_wp2_with fail
  refine C1.out.mono ?_
  rintro e w1 ⟨g, rfl, hb1, hg1, hl1⟩
  have r1 : Rd w1 (.slice (some ⟨g, 0, none⟩) 6 6) (iv [0, 0, 1, 2, 3, 0]) := by
    have := hb1.ints
    rwa [show bords [1, 2, 1, 2, 1, 3] = [0, 0, 1, 2, 3, 0] by decide] at this
  have B1 : Below w.heap.size w w1 := ((Below.refl _ w).alloc (Nat.le_refl _) _).trans (hl1.mono (by simp))
  have C2 := Lib.hid (Same_eq [0, 0, 1, 2, 3, 0] _ _ _ _ _ _ _ (r1.alloc _) (H2.out w1) (by simp))
  have X1 := Lib.hid B1
  clear hb1 hg1 hl1 r1 B1 C1
  go_wp2_with fail
  refine C2.out.mono ?_
  rintro e w2 ⟨rfl, nd, hw2⟩
  have X2 : Hid (Below w.heap.size w w2) := Lib.hid (by rw [hw2]; have := X1.out.alloc X1.out.size (.cells #[.int .i64 0, .int .i64 0, .int .i64 1, .int .i64 2, .int .i64 3, .int .i64 0] 3); exact ⟨this.os, this.tape, this.output, this.size, this.block⟩)
  have C3 := Lib.hid (all_i _ _ _ _ _ _ [1, 2, 1, 2, 1] [1, 2, 1] (by simp) (by simp) _ ((H3.out w2).alloc (.cells #[.int .i64 1, .int .i64 2, .int .i64 1] 3)) (by have := H4.out (w2.alloc (.cells #[.int .i64 1, .int .i64 2, .int .i64 1, .int .i64 2, .int .i64 1] 3)); rwa [World.size_alloc] at this))
  clear hw2 C2 X1
  go_wp2_with fail
  refine C3.out.mono ?_
  rintro e w3 h3
  obtain ⟨A3, c3, -, rfl, -⟩ := id h3
  obtain ⟨-, r3, hb3⟩ := h3.rd
  rw [show ni (places ([1, 2, 1, 2, 1] : List Int) [1, 2, 1]) = [0, 2] by decide] at r3
  have X3 : Hid (Below w.heap.size w w3) := Lib.hid (((X2.out.alloc X2.out.size (.cells #[.int .i64 1, .int .i64 2, .int .i64 1, .int .i64 2, .int .i64 1] 3)).alloc (by have := X2.out.size; simp; omega) (.cells #[.int .i64 1, .int .i64 2, .int .i64 1] 3)).trans (hb3.mono (by have := X2.out.size; simp; omega)))
  have hlen : (ni (places ([1, 2, 1, 2, 1] : List Int) [1, 2, 1])).length = 2 := by decide
  rw [hlen]
  replace r3 : Rd w3 (.slice A3 2 c3) (iv [0, 2]) := r3
  have C4 := Lib.hid (Same_eq [0, 2] _ _ _ _ _ _ _ (r3.alloc _) (H5.out w3) (by simp))
  clear hb3 r3 hlen C3 X2
  go_wp2_with fail
  refine C4.out.mono ?_
  rintro e w4 ⟨rfl, nd4, hw4⟩
  have X4 : Hid (Below w.heap.size w w4) := Lib.hid (by rw [hw4]; have := X3.out.alloc X3.out.size (.cells #[.int .i64 0, .int .i64 2] 3); exact ⟨this.os, this.tape, this.output, this.size, this.block⟩)
  clear hw4
  go_wp2
  go_ret
  exact ⟨rfl, X4.out⟩

/-- Slices, as values. -/
def slv (L : List (Option Addr × Nat × Nat)) : List Value := L.map fun t => .slice t.1 t.2.1 t.2.2
theorem slv_len (L : List (Option Addr × Nat × Nat)) : (slv L).length = L.length := by simp [slv]

set_option maxHeartbeats 1000000 in
theorem great_any (A : Option Addr) (m c : Nat) (L : List (Option Addr × Nat × Nat)) (hL : L.length ≤ 1048576) (w : World) (h : Rd w (.slice A m c) (slv L)) :
    Calls Try.prog 11 #[.slice A m c] w fun e w' => e = .returned (.bool (L.any fun t => decide (100 < t.2.1))) ∧ w = w' := by
  obtain ⟨A', c', hv, hle, -, hr⟩ := h
  injection hv with e1 e2 e3
  subst e1 e3
  rw [slv_len] at e2 hr
  subst e2
  have R := Lib.hid hr
  clear hr
  go_enter Try.func11, Try.ntmps11
  go_wp2
  go_loop [7] (fun i => ∃ k : Nat, k ≤ L.length ∧ i = .int .i64 k ∧ (L.take k).any (fun t => decide (100 < t.2.1)) = false) (fun i => L.length - (intOf i).toNat)
  case atStart => exact ⟨0, Nat.zero_le _, rfl, rfl⟩
  case round =>
    obtain ⟨k, hk, rfl, hn⟩ := hrel
    by_cases hlt : k < L.length
    · obtain ⟨b, o, rfl, hx⟩ := R.out (by omega)
      have y := hx k (.slice L[k].1 L[k].2.1 L[k].2.2) (by simp [slv, hlt])
      have hs : L.take (k + 1) = L.take k ++ [L[k]] := List.take_succ_eq_append_getElem hlt
      have ha : L.any (fun t => decide (100 < t.2.1)) = ((L.take k).any (fun t => decide (100 < t.2.1)) || (L.drop k).any fun t => decide (100 < t.2.1)) := by rw [← List.any_append, List.take_append_drop]
      have HN := Lib.hid hn
      have HY : Hid (100 < L[k].2.1 → L.any (fun t => decide (100 < t.2.1)) = true) := Lib.hid fun h => List.any_eq_true.2 ⟨L[k], List.getElem_mem _, by simpa using h⟩
      have HZ : Hid (¬ 100 < L[k].2.1 → (L.take (k + 1)).any (fun t => decide (100 < t.2.1)) = false) := Lib.hid fun h => by rw [hs, List.any_append, HN.out]; simp; omega
      generalize L[k] = t at *
      obtain ⟨tA, tn, tc⟩ := t
      dsimp only at y HY HZ
      clear hx hs ha hn
      by_cases hg : 100 < tn
      · have q : decide ((100 : Int) < (tn : Int)) = true := by simp; omega
        have HH := Lib.hid (HY.out hg)
        clear hg
        go_wp2
        go_ret
        exact ⟨ret_bool HH.out.symm, rfl⟩
      · have q : decide ((100 : Int) < (tn : Int)) = false := by simp; omega
        have HH := Lib.hid (HZ.out hg)
        clear hg
        go_wp2
        go_round
        case rel => exact ⟨k + 1, by omega, by go_num, HH.out⟩
        case measure => simp [intOf]; omega
    · obtain rfl : k = L.length := by omega
      rw [List.take_length] at hn
      have HH := Lib.hid hn
      clear hn
      go_wp2
      go_ret
      exact ⟨ret_bool HH.out.symm, rfl⟩

/-- One, two, three slices in a list of slices. -/
theorem great_two (A B : Option Addr) (n c m d : Nat) (W : World) : Calls Try.prog 11 #[.slice (some ⟨W.heap.size, 0, none⟩) 2 2] (W.alloc (.cells #[.slice A n c, .slice B m d] 22)) fun e w' => e = .returned (.bool (decide (100 < n) || decide (100 < m))) ∧ (W.alloc (.cells #[.slice A n c, .slice B m d] 22)) = w' := by
  have := great_any (some ⟨W.heap.size, 0, none⟩) 2 2 [(A, n, c), (B, m, d)] (by simp) _ (Rd.lit W 22 #[.slice A n c, .slice B m d] 2 rfl (by omega) (by omega) (by simp [Value.oneCell']))
  simpa [List.any] using this

theorem great_one (A : Option Addr) (n c : Nat) (W : World) : Calls Try.prog 11 #[.slice (some ⟨W.heap.size, 0, none⟩) 1 1] (W.alloc (.cells #[.slice A n c] 22)) fun e w' => e = .returned (.bool (decide (100 < n))) ∧ (W.alloc (.cells #[.slice A n c] 22)) = w' := by
  have := great_any (some ⟨W.heap.size, 0, none⟩) 1 1 [(A, n, c)] (by simp) _ (Rd.lit W 22 #[.slice A n c] 1 rfl (by omega) (by omega) (by simp [Value.oneCell']))
  simpa [List.any] using this
theorem great_three (A B C : Option Addr) (n c m d k f : Nat) (W : World) : Calls Try.prog 11 #[.slice (some ⟨W.heap.size, 0, none⟩) 3 3] (W.alloc (.cells #[.slice A n c, .slice B m d, .slice C k f] 22)) fun e w' => e = .returned (.bool (decide (100 < n) || (decide (100 < m) || decide (100 < k)))) ∧ (W.alloc (.cells #[.slice A n c, .slice B m d, .slice C k f] 22)) = w' := by
  have := great_any (some ⟨W.heap.size, 0, none⟩) 3 3 [(A, n, c), (B, m, d), (C, k, f)] (by simp) _ (Rd.lit W 22 #[.slice A n c, .slice B m d, .slice C k f] 3 rfl (by omega) (by omega) (by simp [Value.oneCell']))
  simpa [List.any] using this
end Go.Proofs.Ytigapfgfbdofoaa
