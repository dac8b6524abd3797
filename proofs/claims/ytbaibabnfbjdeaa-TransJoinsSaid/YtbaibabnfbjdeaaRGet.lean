/-
  The contract of the document's Get.
  Conditions: the slice reads as these bytes.
-/
import Derived.Test.YtbaibabnfbjdeaaSame
import Derived.Test.YtbaibabnfbjdeaaRPut
namespace Go.Proofs.Ytbaibabnfbjdeaa
open Go.RowKit

/-- The three answers of the document's Get, in a world in which what lay is as it was. -/
def Tells (w : World) (r : Nat × Nat × Nat) (e : Ending) (w' : World) : Prop := e = .returned (.tuple #[.int .u64 (r.1 : Int), .int .i64 (r.2.1 : Int), .int .i64 (r.2.2 : Int)]) ∧ Below w.heap.size w w'

theorem RGet_range (A : Option Addr) (n c : Nat) (at_ : Int) (w : World) (h : at_ < 0 ∨ (n : Int) < at_) :
    Calls Try.prog 37 #[.slice A n c, .int .i64 at_] w (Tells w (0, 0, 3)) := by
  by_cases h0 : at_ < 0
  · go_enter Try.func37, Try.ntmps37
    go_wp2
    go_ret3
    exact ⟨rfl, Below.refl _ _⟩
  · have h1 : (n : Int) < at_ := by omega
    clear h
    go_enter Try.func37, Try.ntmps37
    go_wp2
    go_ret3
    exact ⟨rfl, Below.refl _ _⟩

theorem Rd.drop {w : World} {A : Option Addr} {n c a : Nat} {xs : List Value} (h : Rd w (.slice A n c) xs) (ha : a ≤ n) : Rd w (.slice (if c = a then A else A.map (·.add a)) (n - a) (c - a)) (xs.drop a) := by
  obtain ⟨A', c', hv, hle, h1, hr⟩ := h
  injection hv with e1 e2 e3
  subst e1 e2 e3
  have hl : (xs.drop a).length = xs.length - a := by simp
  refine ⟨_, _, by rw [hl], by omega, fun u hu => h1 u (List.mem_of_mem_drop hu), fun hp => ?_⟩
  obtain ⟨b, o, rfl, hx⟩ := hr (by omega)
  rw [if_neg (by omega)]
  refine ⟨b, o + a, by simp [add_eq], fun j u hu => ?_⟩
  rw [List.getElem?_drop] at hu
  rw [Nat.add_assoc]
  exact hx _ u hu

/-- b[a:], under one name. -/
theorem run_from {w : World} {A : Option Addr} {n c a : Nat} {bs : List Nat} (h : Rd w (.slice A n c) (bv bs)) (ha : a ≤ n) :
    ∃ A' c' N, (∀ W, (Instr.slice 25 (.slice A n c) (some (.int .i64 (a : Int))) none none).run Try.prog W = .ok (.slice A' N c') W) ∧ Rd w (.slice A' N c') (bv (bs.drop a)) ∧ N + a = n := by
  refine ⟨_, _, n - a, fun W => ?_, by have := h.drop ha; rw [show (bv bs).drop a = bv (bs.drop a) by simp [bv]] at this; exact this, by omega⟩
  obtain ⟨i0, hi0, hz0, hz1, hz2⟩ := info_parts byte_info
  have hs : (sizeOf (Try.prog.elem 25)).run Try.prog W = .ok 1 W := by
    rw [show Try.prog.elem 25 = 5 by kernel_rfl]
    simp [sizeOf, typeInfo, hi0, hz1]
  rw [run_slice_l W 25 A n c (by kernel_rfl) .i64 (a : Int) (by omega) (by omega), hs]
  simp only [Result.andThen, Int.toNat_natCast, sliced, Nat.mul_one]

theorem Tells.mk {w w' : World} {r : Nat × Nat × Nat} {y p e : Int} (h1 : y = (r.1 : Int)) (h2 : p = (r.2.1 : Int)) (h3 : e = (r.2.2 : Int)) (h : Below w.heap.size w w') : Tells w r (.returned (.tuple #[.int .u64 y, .int .i64 p, .int .i64 e])) w' := by
  subst h1 h2 h3; exact ⟨rfl, h⟩

theorem Var.Go.lead {l : List Nat} {k c : Nat} (h : Var.Go l k) (e : l[k]? = some c) (hc : c < 128) : Var.lead l = k :=
  Var.lead_of h.1 h.2 (fun c' e' => by rw [e] at e'; injection e' with e'; omega)

/-- The number so far, from behind. -/
def back (l : List Nat) (k j : Nat) : Nat := Var.val ((l.take (k + 1)).drop j) % 18446744073709551616
theorem back_start (l : List Nat) (k : Nat) : back l k (k + 1) = 0 := by
  unfold back; rw [List.drop_eq_nil_of_le (List.length_take_le _ _)]; rfl
theorem back_step {l : List Nat} {k j d : Nat} (hj : j ≤ k) (e : l[j]? = some d) : back l k j = (back l k (j + 1) * 128 % 18446744073709551616 + d % 128) % 18446744073709551616 := by
  have hl : j < l.length := (List.getElem?_eq_some_iff.1 e).1
  have hd : (l.take (k + 1)).drop j = d :: (l.take (k + 1)).drop (j + 1) := by
    rw [List.drop_eq_getElem_cons (by simp; omega)]
    congr 1
    rw [List.getElem_take]
    exact (List.getElem?_eq_some_iff.1 e).2
  unfold back
  rw [hd, Var.val]
  omega
theorem back_lt (l : List Nat) (k j : Nat) : back l k j < 18446744073709551616 := Nat.mod_lt _ (by decide)
theorem back_zero (l : List Nat) (k : Nat) : back l k 0 = Var.val (l.take (k + 1)) % 18446744073709551616 := by unfold back; rw [List.drop_zero]

theorem wrap_back (X d : Nat) : IntKind.u64.wrap (IntKind.u64.wrap ((X : Int) * 128) + (d : Int) % 128) = (((X * 128 % 18446744073709551616 + d % 128) % 18446744073709551616 : Nat) : Int) := by
  rw [IntKind.wrap_u64, IntKind.wrap_u64]
  omega

/-- What the document's last test tells. -/
theorem getv_cases {l : List Nat} {k d X : Nat} (hl : Var.lead l = k) (hb : ∀ b ∈ l, b < 256) (e : l[k]? = some d) (hk : k ≤ 9) (hX : X = Var.val (l.take (k + 1)) % 18446744073709551616) :
    (sameB l (Var.enc X) = true → (Var.enc X).length = k + 1 → Var.getv l = (X, k + 1, 0)) ∧ (sameB l (Var.enc X) = false ∨ (Var.enc X).length ≠ k + 1 → Var.getv l = (0, 0, 4)) := by
  subst hl
  have hlt : Var.lead l < l.length := (List.getElem?_eq_some_iff.1 e).1
  have hiff := Var.getv_own hb e
  rw [← hX] at hiff
  have hg : Var.getv l = if Var.enc X = l.take (Var.lead l + 1) then (X, Var.lead l + 1, 0) else (0, 0, 4) := by
    unfold Var.getv
    rw [if_neg (by omega), if_neg (by omega)]
    by_cases h : Var.enc X = l.take (Var.lead l + 1)
    · rw [if_pos h, if_pos (hiff.1 h)]
      have := (hiff.1 h).1
      rw [Nat.mod_eq_of_lt this] at hX
      rw [← hX]
    · rw [if_neg h, if_neg (fun h' => h (hiff.2 h'))]
  rw [hg]
  refine ⟨fun h1 h2 => if_pos ?_, fun h => if_neg fun h1 => ?_⟩
  · have := of_decide_eq_true h1
    rw [h2] at this
    exact this
  · have h2 : (Var.enc X).length = Var.lead l + 1 := by rw [h1]; simp; omega
    rcases h with h | h
    · have := of_decide_eq_false h
      rw [h2] at this
      exact this h1
    · exact h h2

set_option maxHeartbeats 2000000 in
set_option maxRecDepth 100000 in
theorem RGet_in (A : Option Addr) (n c a : Nat) (bs : List Nat) (w : World) (hr : Rd w (.slice A n c) (bv bs)) (hb : ∀ b ∈ bs, b < 256) (hn : n ≤ 9223372036854775807) (ha : a ≤ n) :
    Calls Try.prog 37 #[.slice A n c, .int .i64 a] w (Tells w (getIn bs a)) := by
  obtain ⟨A', c', N, hsl, hr', hN⟩ := run_from hr ha
  have HR := Lib.hid hr'
  have HL := Lib.hid hr'.bytes
  have HN := Lib.hid hN
  have hNn : N ≤ 9223372036854775807 := by omega
  have hNa : a + N ≤ 9223372036854775807 := by omega
  have hb' : ∀ b ∈ bs.drop a, b < 256 := fun b hb' => hb b (List.mem_of_mem_drop hb')
  have HB := Lib.hid hb'
  clear hr hr' hb hN hb'
  go_enter Try.func37, Try.ntmps37
  go_wp2_with fail
  have HSL := Lib.hid hsl
  clear hsl
  go_loop [8] (fun i => ∃ (k : Nat), k ≤ 9 ∧ k ≤ N ∧ i = .int .i64 k ∧ Hid (Var.Go (bs.drop a) k)) (fun i => 10 - (intOf i).toNat)
  case atStart => exact ⟨0, by omega, by omega, rfl, Var.Go.zero _⟩
  case round =>
    obtain ⟨k, hk, hkN, rfl, HG⟩ := hrel
    by_cases hlt : k < N
    · obtain ⟨b, o, d, rfl, hc, hd⟩ := HR.out.byteAt hlt
      have hd256 : d < 256 := HB.out d (List.mem_of_getElem? hd)
      have HD := Lib.hid hd
      clear hd
      by_cases h128 : 128 ≤ d
      · by_cases h9 : k = 9
        · subst h9
          go_wp2_with fail
          go_ret3
          rw [getIn_err (HG.out.succ HD.out h128).ten (by decide)]
          exact Tells.mk rfl rfl rfl (Below.refl _ _)
        · have h10 : ((k : Int) + 1 == 10) = false := by simp; omega
          go_wp2_with fail
          refine ⟨⟨k + 1, by omega, by omega, by go_num, HG.out.succ HD.out h128⟩, by simp [intOf]; omega⟩
      · have hkN' : ((k : Int) == (N : Int)) = false := by simp; omega
        go_wp2_with fail
        go_loop [9, 10] (fun x i => ∃ j : Nat, j ≤ k + 1 ∧ i = .int .i64 ((j : Int) - 1) ∧ x = .int .u64 ((back (bs.drop a) k j : Nat) : Int)) (fun _ i => (intOf i + 1).toNat)
        case atStart => exact ⟨k + 1, Nat.le_refl _, by go_num, by rw [back_start]; rfl⟩
        case round =>
          obtain ⟨j, hj, rfl, rfl⟩ := hrel
          have hbl := back_lt (bs.drop a) k j
          cases j with
          | succ j =>
            obtain ⟨b2, o2, d2, e2, hc2, hd2⟩ := HR.out.byteAt (k := j) (by omega)
            injection e2 with e2
            injection e2 with e3 e4
            subst e3 e4
            have hd2' : d2 < 256 := HB.out d2 (List.mem_of_getElem? hd2)
            have HB2 := Lib.hid (back_step (k := k) (by omega) hd2)
            clear hd2
            rw [show ((j + 1 : Nat) : Int) - 1 = (j : Int) by omega]
            generalize back (bs.drop a) k (j + 1) = X at *
            go_wp2_with fail
            refine ⟨⟨j, by omega, by go_num, ?_⟩, by simp [intOf]⟩
            rw [HB2.out, wrap_back]
          | zero =>
            have HX := Lib.hid (back_zero (bs.drop a) k)
            generalize back (bs.drop a) k 0 = X at *
            go_wp2_with fail
            refine (RPut_any X w hbl).mono ?_
            rintro e w1 ⟨A2, c2, g2, rfl, hrow, -, hb1⟩
            have HR1 := Lib.hid (HR.out.kept hb1)
            have HR2 := Lib.hid hrow.rd
            have H1 := Lib.hid hb1
            clear hrow hb1
            go_wp2_with fail
            refine (same_any _ _ _ _ _ _ _ _ w1 HR1.out HR2.out hNn).mono ?_
            rintro e w2 ⟨q, rfl, rfl⟩
            have H2 : Hid (Below w.heap.size w (w1.drewN q)) := ⟨H1.out.os, H1.out.tape, H1.out.output, H1.out.size, H1.out.block⟩
            have HV := Lib.hid (getv_cases (HG.out.lead HD.out (by omega)) HB.out HD.out hk HX.out)
            clear HX
            cases hs : sameB (bs.drop a) (Var.enc X) with
            | false =>
              have HS := Lib.hid hs
              clear hs
              go_wp2_with fail
              go_ret3
              rw [getIn_err (HV.out.2 (.inl HS.out)) (by decide)]
              exact Tells.mk rfl rfl rfl H2.out
            | true =>
              have HS := Lib.hid hs
              clear hs
              by_cases hlen : (Var.enc X).length = k + 1
              · have hlb : (((Var.enc X).length : Int) != (k : Int) + 1) = false := by simp; omega
                have HLen := Lib.hid hlen
                clear hlen
                go_wp2_with fail
                go_ret3
                rw [getIn_ok (HV.out.1 HS.out HLen.out)]
                exact Tells.mk rfl (by simp; omega) rfl H2.out
              · have hlb : (((Var.enc X).length : Int) != (k : Int) + 1) = true := by simp; omega
                go_wp2_with fail
                go_ret3
                rw [getIn_err (HV.out.2 (.inr hlen)) (by decide)]
                exact Tells.mk rfl rfl rfl H2.out
    · obtain rfl : k = N := by omega
      go_wp2_with fail
      go_ret3
      rw [getIn_err (HG.out.short (by omega) HL.out) (by decide)]
      exact Tells.mk rfl rfl rfl (Below.refl _ _)
end Go.Proofs.Ytbaibabnfbjdeaa
