/-
  The law WindowLast.
  Conditions: none.
-/
import Derived.Test.YtkfpameaopjjnaaWnCuts
import Derived.Test.YtkfpameaopjjnaaUptoStr
namespace Go.Proofs.Ytkfpameaopjjnaa
open Go.RowKit

/-- b[lo:hi], under one name. -/
theorem run_lohi {w : World} {A : Option Addr} {n c lo hi : Nat} {l : List Nat} (h : Rd w (.slice A n c) (bv l)) (h1 : lo ≤ hi) (h2 : hi ≤ n) :
    ∃ A' N c', (∀ W, (Instr.slice 30 (.slice A n c) (some (.int .i64 (lo : Int))) (some (.int .i64 (hi : Int))) none).run Try.prog W = .ok (.slice A' N c') W) ∧ Rd w (.slice A' N c') (bv ((l.take hi).drop lo)) := by
  have h0 := h.take h2
  have h3 := h0.drop (a := lo) h1
  rw [show ((bv l).take hi).drop lo = bv ((l.take hi).drop lo) by simp [bv, List.map_take, List.map_drop]] at h3
  have hle := h.le
  refine ⟨_, hi - lo, _, fun W => ?_, h3⟩
  obtain ⟨i0, hi0, hz0, hz1, hz2⟩ := info_parts byte_info
  have hs : (sizeOf (Try.prog.elem 30)).run Try.prog W = .ok 1 W := by
    rw [show Try.prog.elem 30 = 5 by kernel_rfl]
    simp [sizeOf, typeInfo, hi0, hz1]
  rw [run_slice_lh W 30 A n c (by kernel_rfl) .i64 .i64 (lo : Int) (hi : Int) (by omega) (by omega) (by omega), hs]
  simp only [Result.andThen, Int.toNat_natCast, sliced, Nat.mul_one]
theorem str_later {w : World} {A : Option Addr} {n c : Nat} {l : List Nat} (h : Rd w (.slice A n c) (bv l)) : ∀ W, Below w.heap.size w W → (convert 30 9 (.slice A n c)).run Try.prog W = .ok (.string (str l)) W := fun _ hb => run_str (h.kept hb)
theorem last_take {n i : Nat} {l : List Nat} (hi : i ≤ l.length) : (l.take i).drop (i - n) = lastS n (l.take i) := by
  unfold lastS; rw [List.length_take, Nat.min_eq_left hi]
theorem most_1 {b most top tot : Nat} {l : List Nat} {N : Nat → Prop} {w0 w : World} (h : Has (WinT b most top l tot) N w0 w) (n : Nat) (h1 : 1 ≤ n) (h2 : n ≤ 1048576) :
    Calls Try.prog 16 #[.pointer (some ⟨b, 0, none⟩), .int .i64 (n : Nat)] w fun e w' => e = .returned (.int .i64 0) ∧ Has (WinT b n (max top n) (lastS n l) tot) N w0 w' ∧ Stay N w w' :=
  h.call fun _ hw _ => Most_ok hw n h1 h2
theorem held_1 {b most top tot : Nat} {l : List Nat} {N : Nat → Prop} {w0 w : World} (h : Has (WinT b most top l tot) N w0 w) :
    Calls Try.prog 18 #[.pointer (some ⟨b, 0, none⟩)] w fun e w' => (∃ h : Nat, l.length ≤ h ∧ h ≤ 2 * top ∧ h ≤ 4194304 ∧ e = .returned (.int .i64 (h : Nat))) ∧ ∃ m, w' = w.drewN m := by
  obtain ⟨F, h⟩ := h
  exact Held_is h.it
theorem cut_at {n : Nat} (z : Int) : ∃ k : Nat, (IntKind.u64.wrap z).tmod ((n : Int) + 1) = (k : Int) ∧ k ≤ n := by
  have h0 : 0 ≤ (IntKind.u64.wrap z).tmod ((n : Int) + 1) := Int.tmod_nonneg _ (by rw [IntKind.wrap_u64]; omega)
  have h1 : (IntKind.u64.wrap z).tmod ((n : Int) + 1) < (n : Int) + 1 := Int.tmod_lt_of_pos _ (by omega)
  exact ⟨((IntKind.u64.wrap z).tmod ((n : Int) + 1)).toNat, by omega, by omega⟩

set_option maxRecDepth 100000 in
set_option maxHeartbeats 4000000 in
theorem last_true (z y : Int) (A1 : Option Addr) (n1 c1 : Nat) (l : List Nat) (w : World) (h1 : Rd w (.slice A1 n1 c1) (bv l)) (hl : ∀ d ∈ l, d < 256) :
    Calls Try.prog 8 #[.int .i64 z, .int .i64 y, .slice A1 n1 c1] w fun e w' => e = .returned (.bool true) ∧ Below w.heap.size w w' := by
  obtain ⟨k, hk, hkz⟩ := num30 z
  obtain ⟨n, hn1, hn2, hn3, hn4⟩ : ∃ n : Nat, 2 ≤ n ∧ n ≤ 31 ∧ (2 : Int) + (k : Int) = (n : Int) ∧ n = k + 2 := ⟨k + 2, by omega, by omega, by omega, rfl⟩
  have HN := Lib.hid hn4
  obtain ⟨A3, hrun3, hr3⟩ := run_min h1 150
  have e3 : (l.take 150).length ≤ 150 := by rw [List.length_take]; omega
  have b3 : ∀ d ∈ l.take 150, d < 256 := fun d hd => hl d (List.mem_of_mem_take hd)
  generalize l.take 150 = l3 at *
  have H3 := Lib.hid (And.intro hr3 b3)
  have hl1 := h1.le
  rw [show (((150 : Nat)) : Int) = 150 from rfl] at hrun3
  clear hl h1 b3 hr3 hn4
  go_enter Try.func8, Try.ntmps8
  go_wp2_with fail
  refine (new_has n (by omega) (by omega) (Below.refl _ w)).mono ?_
  rintro e w1 ⟨b, rfl, hw⟩
  have X1 := Lib.hid hw
  clear hw
  go_wp2_with fail
  refine (alive_true _).mono ?_
  rintro e w2 ⟨rfl, hb⟩
  have X2 := Lib.hid (X1.out.keep (win_framed _ _ _ _ _) hb)
  clear hb X1 hrun3
  go_wp2_with fail
  go_loopw [40] (fun iv wr => ∃ i : Nat, i ≤ l3.length ∧ iv = .int .i64 (i : Nat) ∧ Hid (Has (WinT b n n (lastS n (l3.take i)) i) (fun _ => False) w wr)) (fun iv _ => l3.length - (intOf iv).toNat)
  case atStart => exact ⟨0, by omega, rfl, Lib.hid (by rw [List.take_zero, last_nil]; exact X2.out)⟩
  case round =>
    obtain ⟨i, hi, rfl, HW⟩ := hrel
    clear X2
    by_cases hlt : i < l3.length
    · have HR := Lib.hid (H3.out.1.kept HW.out.below)
      obtain ⟨bb, oo, d, rfl, cd, hd⟩ := HR.out.byteAt hlt
      have hd6 := H3.out.2 d (List.mem_of_getElem? hd)
      have HT : Hid (l3.take (i + 1) = l3.take i ++ [d]) := Lib.hid (by rw [List.take_add_one, hd]; rfl)
      have H4 := Lib.hid (HW.out.more (win_framed _ _ _ _ _) (.cells #[.int .u8 (d : Int)] 5))
      have L4 := Lib.hid (lit_out (N := fun _ => False) (w0 := w) (w := wr) [d] #[.int .u8 (d : Int)] rfl (by simp) (by simp))
      have P4 := Lib.hid (put_1 H4.out L4.out (by simpa using hd6) (by simp) (by omega))
      obtain ⟨A5, N5, c5, hrun5, hr5⟩ := run_lohi H3.out.1 (lo := i + 1 - n) (hi := i + 1) (by omega) (by omega)
      rw [last_take (by omega)] at hr5
      have HR5 := Lib.hid hr5
      have e5 : max 0 ((i : Int) + 1 - (n : Int)) = ((i + 1 - n : Nat) : Int) := by omega
      rw [show (((i + 1 : Nat)) : Int) = (i : Int) + 1 by omega] at hrun5
      have hw1 : IntKind.i64.wrap ((i : Int) + 1) = (i : Int) + 1 := by rw [IntKind.wrap_i64]; omega
      have hw2 : IntKind.i64.wrap ((i : Int) + 1 - (n : Int)) = (i : Int) + 1 - (n : Int) := by rw [IntKind.wrap_i64]; omega
      obtain ⟨lo, hlo⟩ : ∃ lo, lo = i + 1 - n := ⟨_, rfl⟩
      rw [← hlo] at hrun5 e5
      clear hd hr5 hlo HR
      go_wp2_with fail
      refine P4.out.mono ?_
      rintro e w4 ⟨rfl, hw, -⟩
      simp only [List.length_singleton] at hw
      rw [last_more, ← HT.out] at hw
      have X4 := Lib.hid hw.none_
      have X4d := Lib.hid (hw.none_.drew (win_framed _ _ _ _ _))
      have HS5 := Lib.hid (str_later HR5.out)
      clear hw P4 L4 H4 cd HR5
      obtain ⟨L, hL⟩ : ∃ L, L = lastS n (l3.take (i + 1)) := ⟨_, rfl⟩
      have HL := Lib.hid hL
      rw [← hL] at X4 X4d HS5
      clear hL
      go_wp2_with fail
      have s5 : ∀ W, Below w4.heap.size w4 W → (convert 30 9 (.slice A5 N5 c5)).run Try.prog W = .ok (.string (str L)) W := fun W h => HS5.out W (X4.out.below.trans (h.mono X4.out.below.size))
      refine wp_region_noPanic ?_
      refine wp_region_upto (fun V => Below w4.heap.size w4 V) 99 (by kernel_rfl) ?_ (fun hHeld => ?_)
      · exact ⟨rfl, rfl, rfl, Nat.le_refl _, fun _ _ => rfl⟩
      refine wpUpto.takeAll 0 (by kernel_rfl) (by kernel_rfl) (by kernel_rfl) (by kernel_rfl) (by assumption) ?_
      intro o ho
      simp only [List.getElem?_toArray, List.getElem?_cons_zero, Option.some.injEq] at ho
      subst ho
      refine ⟨?_, fun _ _ _ h => h, Or.inl ⟨by rfl, ?_⟩, ?_⟩
      rotate_left
      · intro w hSw
        go_simp
        try with_reducible rfl
      simp only [Act.put, List.setIfInBounds_toArray, List.set_cons_zero, List.set_cons_succ]
      refine wpUpto.takeAll 3 (by kernel_rfl) (by kernel_rfl) (by kernel_rfl) (by kernel_rfl) (by assumption) ?_
      intro o ho
      simp only [List.getElem?_toArray, List.getElem?_cons_succ, List.getElem?_cons_zero, Option.some.injEq] at ho
      subst ho
      refine ⟨?_, fun _ _ _ h => h, Or.inl ⟨by rfl, ?_⟩, ?_⟩
      rotate_left
      · intro w hSw
        go_simp
        try with_reducible rfl
      simp only [Act.put, List.setIfInBounds_toArray, List.set_cons_zero, List.set_cons_succ]
      refine wpUpto.takeAll 4 (by kernel_rfl) (by kernel_rfl) (by kernel_rfl) (by kernel_rfl) (by assumption) ?_
      intro o ho
      simp only [List.getElem?_toArray, List.getElem?_cons_succ, List.getElem?_cons_zero, Option.some.injEq] at ho
      subst ho
      refine ⟨?_, fun _ _ _ h => h, Or.inl ⟨by rfl, ?_⟩, ?_⟩
      rotate_left
      · intro w hSw
        go_simp
        try with_reducible rfl
      simp only [Act.put, List.setIfInBounds_toArray, List.set_cons_zero, List.set_cons_succ]
      refine wpUpto.takeAll 5 (by kernel_rfl) (by kernel_rfl) (by kernel_rfl) (by kernel_rfl) (by assumption) ?_
      intro o ho
      simp only [List.getElem?_toArray, List.getElem?_cons_succ, List.getElem?_cons_zero, Option.some.injEq] at ho
      subst ho
      refine ⟨?_, fun _ _ _ h => h, Or.inl ⟨by rfl, ?_⟩, ?_⟩
      rotate_left
      · intro w hSw
        go_simp
        try with_reducible rfl
      simp only [Act.put, List.setIfInBounds_toArray, List.set_cons_zero, List.set_cons_succ]
      refine wpUpto.takeAll 6 (by kernel_rfl) (by kernel_rfl) (by kernel_rfl) (by kernel_rfl) (by assumption) ?_
      intro o ho
      simp only [List.getElem?_toArray, List.getElem?_cons_succ, List.getElem?_cons_zero, Option.some.injEq] at ho
      subst ho
      refine ⟨?_, fun _ _ _ h => h, Or.inl ⟨by rfl, ?_⟩, ?_⟩
      rotate_left
      · intro w hSw
        go_simp
        try with_reducible rfl
      simp only [Act.put, List.setIfInBounds_toArray, List.set_cons_zero, List.set_cons_succ]
      refine wpUpto.takeAll 7 (by kernel_rfl) (by kernel_rfl) (by kernel_rfl) (by kernel_rfl) (by assumption) ?_
      intro o ho
      simp only [List.getElem?_toArray, List.getElem?_cons_succ, List.getElem?_cons_zero, Option.some.injEq] at ho
      subst ho
      refine ⟨?_, fun _ _ _ h => h, Or.inl ⟨by rfl, ?_⟩, ?_⟩
      rotate_left
      · intro w hSw
        go_simp
        try with_reducible rfl
      simp only [Act.put, List.setIfInBounds_toArray, List.set_cons_zero, List.set_cons_succ]
      refine wpUpto.takeAll 8 (by kernel_rfl) (by kernel_rfl) (by kernel_rfl) (by kernel_rfl) (by assumption) ?_
      intro o ho
      simp only [List.getElem?_toArray, List.getElem?_cons_succ, List.getElem?_cons_zero, Option.some.injEq] at ho
      subst ho
      refine ⟨?_, fun _ _ _ h => h, Or.inl ⟨by rfl, ?_⟩, ?_⟩
      rotate_left
      · intro w hSw
        go_simp
        try with_reducible rfl
      simp only [Act.put, List.setIfInBounds_toArray, List.set_cons_zero, List.set_cons_succ]
      refine wpUpto.takeAll 9 (by kernel_rfl) (by kernel_rfl) (by kernel_rfl) (by kernel_rfl) (by assumption) ?_
      intro o ho
      simp only [List.getElem?_toArray, List.getElem?_cons_succ, List.getElem?_cons_zero, Option.some.injEq] at ho
      subst ho
      refine ⟨?_, fun _ _ _ h => h, Or.inl ⟨by rfl, ?_⟩, ?_⟩
      rotate_left
      · intro w hSw
        go_simp
        try with_reducible rfl
      simp only [Act.put, List.setIfInBounds_toArray, List.set_cons_zero, List.set_cons_succ]
      refine wpUpto.takeAll 10 (by kernel_rfl) (by kernel_rfl) (by kernel_rfl) (by kernel_rfl) (by assumption) ?_
      intro o ho
      simp only [List.getElem?_toArray, List.getElem?_cons_succ, List.getElem?_cons_zero, Option.some.injEq] at ho
      subst ho
      refine ⟨?_, fun _ _ _ h => h, Or.inl ⟨by rfl, ?_⟩, ?_⟩
      rotate_left
      · intro w hSw
        go_simp
        try with_reducible rfl
      simp only [Act.put, List.setIfInBounds_toArray, List.set_cons_zero, List.set_cons_succ]
      refine wpUpto.takeAll 11 (by kernel_rfl) (by kernel_rfl) (by kernel_rfl) (by kernel_rfl) (by assumption) ?_
      intro o ho
      simp only [List.getElem?_toArray, List.getElem?_cons_succ, List.getElem?_cons_zero, Option.some.injEq] at ho
      subst ho
      refine ⟨?_, fun _ _ _ h => h, Or.inl ⟨by rfl, ?_⟩, ?_⟩
      rotate_left
      · intro w hSw
        go_simp
        try with_reducible rfl
      simp only [Act.put, List.setIfInBounds_toArray, List.set_cons_zero, List.set_cons_succ]
      refine wpUpto.takeAll 12 (by kernel_rfl) (by kernel_rfl) (by kernel_rfl) (by kernel_rfl) (by assumption) ?_
      intro o ho
      simp only [List.getElem?_toArray, List.getElem?_cons_succ, List.getElem?_cons_zero, Option.some.injEq] at ho
      subst ho
      refine ⟨?_, fun _ _ _ h => h, Or.inl ⟨by rfl, ?_⟩, ?_⟩
      rotate_left
      · intro w hSw
        go_simp
        try with_reducible rfl
      simp only [Act.put, List.setIfInBounds_toArray, List.set_cons_zero, List.set_cons_succ]
      refine wpUpto.one 1 (by kernel_rfl) ?_
      intro o ho K hK
      simp only [List.getElem?_toArray, List.getElem?_cons_succ, List.getElem?_cons_zero, Option.some.injEq] at ho
      subst ho
      go_simp
      go_at_call 19
      refine (bytes_1 X4d.out).mono ?_
      rintro e wa ⟨Aa, ca, ga, rfl, ra, -, ba⟩
      have Ha := Lib.hid (X4d.out.keep (win_framed _ _ _ _ _) ba)
      have sa := str_later ra.rd
      clear ra
      refine hK.out _ _ ?_ (fun hHeld => ?_)
      · exact ⟨ba.os, ba.tape, ba.output, ba.size, ba.block⟩
      clear hK K
      try simp only [Act.put, List.setIfInBounds_toArray, List.set_cons_zero, List.set_cons_succ]
      refine wpUpto.strong (S2 := fun V => Below wa.heap.size wa V) (fun _ hV => Below.trans (show Below w4.heap.size w4 wa from ⟨ba.os, ba.tape, ba.output, ba.size, ba.block⟩) (hV.mono ba.size)) ?_
      replace hHeld : (fun V => Below wa.heap.size wa V) _ := Below.refl _ wa
      refine wpUpto.takeAll 2 (by kernel_rfl) (by kernel_rfl) (by kernel_rfl) (by kernel_rfl) (by assumption) ?_
      intro o ho
      simp only [List.getElem?_toArray, List.getElem?_cons_succ, List.getElem?_cons_zero, Option.some.injEq] at ho
      subst ho
      refine ⟨?_, fun _ _ _ h => h, Or.inl ⟨by rfl, ?_⟩, ?_⟩
      rotate_left
      · intro w hSw
        go_simp
        try with_reducible rfl
      simp only [Act.put, List.setIfInBounds_toArray, List.set_cons_zero, List.set_cons_succ]
      refine wpUpto.takeAll 13 (by kernel_rfl) (by kernel_rfl) (by kernel_rfl) (by kernel_rfl) (by assumption) ?_
      intro o ho
      simp only [List.getElem?_toArray, List.getElem?_cons_succ, List.getElem?_cons_zero, Option.some.injEq] at ho
      subst ho
      refine ⟨?_, fun _ _ _ h => h, Or.inl ⟨by rfl, ?_⟩, ?_⟩
      rotate_left
      · intro w hSw
        go_simp
        try with_reducible rfl
      simp only [Act.put, List.setIfInBounds_toArray, List.set_cons_zero, List.set_cons_succ]
      refine wpUpto.takeAll 14 (by kernel_rfl) (by kernel_rfl) (by kernel_rfl) (by kernel_rfl) (by assumption) ?_
      intro o ho
      simp only [List.getElem?_toArray, List.getElem?_cons_succ, List.getElem?_cons_zero, Option.some.injEq] at ho
      subst ho
      refine ⟨?_, fun _ _ _ h => h, Or.inl ⟨by rfl, ?_⟩, ?_⟩
      rotate_left
      · intro w hSw
        go_simp
        try with_reducible rfl
      simp only [Act.put, List.setIfInBounds_toArray, List.set_cons_zero, List.set_cons_succ]
      refine wpUpto.takeAll 15 (by kernel_rfl) (by kernel_rfl) (by kernel_rfl) (by kernel_rfl) (by assumption) ?_
      intro o ho
      simp only [List.getElem?_toArray, List.getElem?_cons_succ, List.getElem?_cons_zero, Option.some.injEq] at ho
      subst ho
      refine ⟨?_, fun _ _ _ h => h, Or.inl ⟨by rfl, ?_⟩, ?_⟩
      rotate_left
      · intro w hSw
        go_simp
        try with_reducible rfl
      simp only [Act.put, List.setIfInBounds_toArray, List.set_cons_zero, List.set_cons_succ]
      refine wpUpto.takeAll 17 (by kernel_rfl) (by kernel_rfl) (by kernel_rfl) (by kernel_rfl) (by assumption) ?_
      intro o ho
      simp only [List.getElem?_toArray, List.getElem?_cons_succ, List.getElem?_cons_zero, Option.some.injEq] at ho
      subst ho
      refine ⟨?_, fun _ _ _ h => h, Or.inl ⟨by rfl, ?_⟩, ?_⟩
      rotate_left
      · intro w hSw
        go_simp
        try with_reducible rfl
      simp only [Act.put, List.setIfInBounds_toArray, List.set_cons_zero, List.set_cons_succ]
      refine wpUpto.takeAll 18 (by kernel_rfl) (by kernel_rfl) (by kernel_rfl) (by kernel_rfl) (by assumption) ?_
      intro o ho
      simp only [List.getElem?_toArray, List.getElem?_cons_succ, List.getElem?_cons_zero, Option.some.injEq] at ho
      subst ho
      refine ⟨?_, fun _ _ _ h => h, Or.inl ⟨by rfl, ?_⟩, ?_⟩
      rotate_left
      · intro w hSw
        go_simp
        try with_reducible rfl
      simp only [Act.put, List.setIfInBounds_toArray, List.set_cons_zero, List.set_cons_succ]
      refine wpUpto.one 16 (by kernel_rfl) ?_
      intro o ho K hK
      simp only [List.getElem?_toArray, List.getElem?_cons_succ, List.getElem?_cons_zero, Option.some.injEq] at ho
      subst ho
      go_simp
      go_at_call 20
      refine (total_1 Ha.out).mono ?_
      rintro e wc ⟨rfl, dc⟩
      have Hc := Lib.hid (Ha.out.drewL (win_framed _ _ _ _ _) dc)
      have kc : Below wa.heap.size wa wc := by obtain ⟨q, rfl⟩ := dc; exact ⟨rfl, rfl, rfl, Nat.le_refl _, fun _ _ => rfl⟩
      clear dc
      refine hK.out _ _ ?_ (fun hHeld => ?_)
      · exact kc
      clear hK K
      try simp only [Act.put, List.setIfInBounds_toArray, List.set_cons_zero, List.set_cons_succ]
      refine wpUpto.takeAll 19 (by kernel_rfl) (by kernel_rfl) (by kernel_rfl) (by kernel_rfl) (by assumption) ?_
      intro o ho
      simp only [List.getElem?_toArray, List.getElem?_cons_succ, List.getElem?_cons_zero, Option.some.injEq] at ho
      subst ho
      refine ⟨?_, fun _ _ _ h => h, Or.inl ⟨by rfl, ?_⟩, ?_⟩
      rotate_left
      · intro w hSw
        go_simp
        try with_reducible rfl
      simp only [Act.put, List.setIfInBounds_toArray, List.set_cons_zero, List.set_cons_succ]
      refine wpUpto.takeAll 20 (by kernel_rfl) (by kernel_rfl) (by kernel_rfl) (by kernel_rfl) (by assumption) ?_
      intro o ho
      simp only [List.getElem?_toArray, List.getElem?_cons_succ, List.getElem?_cons_zero, Option.some.injEq] at ho
      subst ho
      refine ⟨?_, fun _ _ _ h => h, Or.inl ⟨by rfl, ?_⟩, ?_⟩
      rotate_left
      · intro w hSw
        go_simp
        try with_reducible rfl
      simp only [Act.put, List.setIfInBounds_toArray, List.set_cons_zero, List.set_cons_succ]
      refine wpUpto.done (by kernel_rfl) ?_ _
      refine NoPanic.normal ?_
      go_wp2_with fail
      go_roundw
      case rel => exact ⟨i + 1, by omega, by go_num, Lib.hid (by rw [← HL.out]; exact Hc.out)⟩
      case measure => simp [intOf]; omega
    · obtain rfl : i = l3.length := by omega
      rw [List.take_length] at HW
      have hLL := last_len n l3
      have HLB : Hid (∀ d ∈ lastS n l3, d < 256) := Lib.hid (last_mem H3.out.2)
      obtain ⟨p, hp1, hp2⟩ := cut_at (n := k) y
      have e6 : (n : Int) - 1 = (k : Int) + 1 := by omega
      have hLs : (lastS n l3).length ≤ 31 := by omega
      obtain ⟨q, hq1, hq2, hq3⟩ : ∃ q : Nat, (1 : Int) + (p : Int) = (q : Int) ∧ 1 ≤ q ∧ q < n := ⟨1 + p, by omega, by omega, by have := HN.out; omega⟩
      generalize lastS n l3 = L at *
      clear hLL hlt
      go_wp2_with fail
      refine (bytes_1 HW.out).mono ?_
      rintro e w5 ⟨A5, c5, g5, rfl, hr5, hg5, hb⟩
      have X5 := Lib.hid (And.intro (HW.out.fresh (M := fun x => g5 = some x) (win_framed _ _ _ _ _) hb fun x e => ⟨hg5 x e, hr5.lt e⟩) hr5)
      clear hr5 hg5 hb HW
      go_wp2_with fail
      obtain ⟨f, hf, hf2⟩ : ∃ f : Nat, max 0 ((L.length : Int) - (q : Int)) = (f : Int) ∧ f = L.length - q := ⟨L.length - q, by omega, rfl⟩
      have hw3 : IntKind.i64.wrap ((L.length : Int) - (q : Int)) = (L.length : Int) - (q : Int) := by rw [IntKind.wrap_i64]; omega
      have X5d := Lib.hid (And.intro (X5.out.1.drew (win_framed _ _ _ _ _)) (X5.out.2.keep (w' := w5.drew) fun _ _ => rfl))
      have HFL : Hid (L.drop f = lastS q L) := Lib.hid (by rw [hf2]; rfl)
      have hfL : f ≤ L.length := by omega
      have HTP : Hid (max n q = n) := Lib.hid (by omega)
      clear X5 hf2
      obtain ⟨M, hM⟩ : ∃ M, M = lastS q L := ⟨_, rfl⟩
      have HM := Lib.hid hM
      clear hM
      refine wp_region_noPanic ?_
      refine wp_region_upto (fun _ => Hid True) 99 (by kernel_rfl) ?_ (fun hHeld => ?_)
      · exact Lib.hid trivial
      refine wpUpto.takeAll 0 (by kernel_rfl) (by kernel_rfl) (by kernel_rfl) (by kernel_rfl) (by assumption) ?_
      intro o ho
      simp only [List.getElem?_toArray, List.getElem?_cons_zero, Option.some.injEq] at ho
      subst ho
      refine ⟨?_, fun _ _ _ h => h, Or.inl ⟨by rfl, ?_⟩, ?_⟩
      rotate_left
      · intro w hSw
        go_simp
        try with_reducible rfl
      simp only [Act.put, List.setIfInBounds_toArray, List.set_cons_zero, List.set_cons_succ]
      refine wpUpto.takeAll 1 (by kernel_rfl) (by kernel_rfl) (by kernel_rfl) (by kernel_rfl) (by assumption) ?_
      intro o ho
      simp only [List.getElem?_toArray, List.getElem?_cons_succ, List.getElem?_cons_zero, Option.some.injEq] at ho
      subst ho
      refine ⟨?_, fun _ _ _ h => h, Or.inl ⟨by rfl, ?_⟩, ?_⟩
      rotate_left
      · intro w hSw
        go_simp
        try with_reducible rfl
      simp only [Act.put, List.setIfInBounds_toArray, List.set_cons_zero, List.set_cons_succ]
      refine wpUpto.one 2 (by kernel_rfl) ?_
      intro o ho K hK
      simp only [List.getElem?_toArray, List.getElem?_cons_succ, List.getElem?_cons_zero, Option.some.injEq] at ho
      subst ho
      go_simp
      go_at_call 16
      refine (most_1 X5d.out.1 q hq2 (by omega)).mono ?_
      rintro e wm ⟨rfl, h6, st6⟩
      obtain ⟨Af, cf, Nf, hrunF, hrF, -⟩ := run_from (st6.row (fun x e => .inr e) X5d.out.2).rd hfL
      rw [HFL.out, ← HM.out] at hrF
      rw [← HM.out, HTP.out] at h6
      have SF := str_later hrF
      have Hm := Lib.hid h6
      clear h6 st6 hrF
      refine hK.out _ _ ?_ (fun hHeld => ?_)
      · exact Lib.hid trivial
      clear hK K
      try simp only [Act.put, List.setIfInBounds_toArray, List.set_cons_zero, List.set_cons_succ]
      refine wpUpto.strong (S2 := fun V => Below wm.heap.size wm V) (fun _ _ => Lib.hid trivial) ?_
      replace hHeld : (fun V => Below wm.heap.size wm V) _ := Below.refl _ wm
      refine wpUpto.takeAll 3 (by kernel_rfl) (by kernel_rfl) (by kernel_rfl) (by kernel_rfl) (by assumption) ?_
      intro o ho
      simp only [List.getElem?_toArray, List.getElem?_cons_succ, List.getElem?_cons_zero, Option.some.injEq] at ho
      subst ho
      refine ⟨?_, fun _ _ _ h => h, Or.inl ⟨by rfl, ?_⟩, ?_⟩
      rotate_left
      · intro w hSw
        go_simp
        try with_reducible rfl
      simp only [Act.put, List.setIfInBounds_toArray, List.set_cons_zero, List.set_cons_succ]
      refine wpUpto.takeAll 4 (by kernel_rfl) (by kernel_rfl) (by kernel_rfl) (by kernel_rfl) (by assumption) ?_
      intro o ho
      simp only [List.getElem?_toArray, List.getElem?_cons_succ, List.getElem?_cons_zero, Option.some.injEq] at ho
      subst ho
      refine ⟨?_, fun _ _ _ h => h, Or.inl ⟨by rfl, ?_⟩, ?_⟩
      rotate_left
      · intro w hSw
        go_simp
        try with_reducible rfl
      simp only [Act.put, List.setIfInBounds_toArray, List.set_cons_zero, List.set_cons_succ]
      refine wpUpto.takeAll 5 (by kernel_rfl) (by kernel_rfl) (by kernel_rfl) (by kernel_rfl) (by assumption) ?_
      intro o ho
      simp only [List.getElem?_toArray, List.getElem?_cons_succ, List.getElem?_cons_zero, Option.some.injEq] at ho
      subst ho
      refine ⟨?_, fun _ _ _ h => h, Or.inl ⟨by rfl, ?_⟩, ?_⟩
      rotate_left
      · intro w hSw
        go_simp
        try with_reducible rfl
      simp only [Act.put, List.setIfInBounds_toArray, List.set_cons_zero, List.set_cons_succ]
      refine wpUpto.takeAll 8 (by kernel_rfl) (by kernel_rfl) (by kernel_rfl) (by kernel_rfl) (by assumption) ?_
      intro o ho
      simp only [List.getElem?_toArray, List.getElem?_cons_succ, List.getElem?_cons_zero, Option.some.injEq] at ho
      subst ho
      refine ⟨?_, fun _ _ _ h => h, Or.inl ⟨by rfl, ?_⟩, ?_⟩
      rotate_left
      · intro w hSw
        go_simp
        try with_reducible rfl
      simp only [Act.put, List.setIfInBounds_toArray, List.set_cons_zero, List.set_cons_succ]
      refine wpUpto.takeAll 9 (by kernel_rfl) (by kernel_rfl) (by kernel_rfl) (by kernel_rfl) (by assumption) ?_
      intro o ho
      simp only [List.getElem?_toArray, List.getElem?_cons_succ, List.getElem?_cons_zero, Option.some.injEq] at ho
      subst ho
      refine ⟨?_, fun _ _ _ h => h, Or.inl ⟨by rfl, ?_⟩, ?_⟩
      rotate_left
      · intro w hSw
        go_simp
        try with_reducible rfl
      simp only [Act.put, List.setIfInBounds_toArray, List.set_cons_zero, List.set_cons_succ]
      refine wpUpto.takeAll 10 (by kernel_rfl) (by kernel_rfl) (by kernel_rfl) (by kernel_rfl) (by assumption) ?_
      intro o ho
      simp only [List.getElem?_toArray, List.getElem?_cons_succ, List.getElem?_cons_zero, Option.some.injEq] at ho
      subst ho
      refine ⟨?_, fun _ _ _ h => h, Or.inl ⟨by rfl, ?_⟩, ?_⟩
      rotate_left
      · intro w hSw
        go_simp
        try with_reducible rfl
      simp only [Act.put, List.setIfInBounds_toArray, List.set_cons_zero, List.set_cons_succ]
      refine wpUpto.takeAll 11 (by kernel_rfl) (by kernel_rfl) (by kernel_rfl) (by kernel_rfl) (by assumption) ?_
      intro o ho
      simp only [List.getElem?_toArray, List.getElem?_cons_succ, List.getElem?_cons_zero, Option.some.injEq] at ho
      subst ho
      refine ⟨?_, fun _ _ _ h => h, Or.inl ⟨by rfl, ?_⟩, ?_⟩
      rotate_left
      · intro w hSw
        go_simp
        try with_reducible rfl
      simp only [Act.put, List.setIfInBounds_toArray, List.set_cons_zero, List.set_cons_succ]
      refine wpUpto.takeAll 12 (by kernel_rfl) (by kernel_rfl) (by kernel_rfl) (by kernel_rfl) (by assumption) ?_
      intro o ho
      simp only [List.getElem?_toArray, List.getElem?_cons_succ, List.getElem?_cons_zero, Option.some.injEq] at ho
      subst ho
      refine ⟨?_, fun _ _ _ h => h, Or.inl ⟨by rfl, ?_⟩, ?_⟩
      rotate_left
      · intro w hSw
        go_simp
        try with_reducible rfl
      simp only [Act.put, List.setIfInBounds_toArray, List.set_cons_zero, List.set_cons_succ]
      refine wpUpto.takeAll 13 (by kernel_rfl) (by kernel_rfl) (by kernel_rfl) (by kernel_rfl) (by assumption) ?_
      intro o ho
      simp only [List.getElem?_toArray, List.getElem?_cons_succ, List.getElem?_cons_zero, Option.some.injEq] at ho
      subst ho
      refine ⟨?_, fun _ _ _ h => h, Or.inl ⟨by rfl, ?_⟩, ?_⟩
      rotate_left
      · intro w hSw
        go_simp
        try with_reducible rfl
      simp only [Act.put, List.setIfInBounds_toArray, List.set_cons_zero, List.set_cons_succ]
      refine wpUpto.takeAll 14 (by kernel_rfl) (by kernel_rfl) (by kernel_rfl) (by kernel_rfl) (by assumption) ?_
      intro o ho
      simp only [List.getElem?_toArray, List.getElem?_cons_succ, List.getElem?_cons_zero, Option.some.injEq] at ho
      subst ho
      refine ⟨?_, fun _ _ _ h => h, Or.inl ⟨by rfl, ?_⟩, ?_⟩
      rotate_left
      · intro w hSw
        go_simp
        try with_reducible rfl
      simp only [Act.put, List.setIfInBounds_toArray, List.set_cons_zero, List.set_cons_succ]
      refine wpUpto.takeAll 15 (by kernel_rfl) (by kernel_rfl) (by kernel_rfl) (by kernel_rfl) (by assumption) ?_
      intro o ho
      simp only [List.getElem?_toArray, List.getElem?_cons_succ, List.getElem?_cons_zero, Option.some.injEq] at ho
      subst ho
      refine ⟨?_, fun _ _ _ h => h, Or.inl ⟨by rfl, ?_⟩, ?_⟩
      rotate_left
      · intro w hSw
        go_simp
        try with_reducible rfl
      simp only [Act.put, List.setIfInBounds_toArray, List.set_cons_zero, List.set_cons_succ]
      refine wpUpto.one 6 (by kernel_rfl) ?_
      intro o ho K hK
      simp only [List.getElem?_toArray, List.getElem?_cons_succ, List.getElem?_cons_zero, Option.some.injEq] at ho
      subst ho
      go_simp
      go_at_call 19
      refine (bytes_1 Hm.out).mono ?_
      rintro e wa ⟨Aa, ca, ga, rfl, ra, -, ba⟩
      have Ha := Lib.hid (Hm.out.keep (win_framed _ _ _ _ _) ba)
      have sa := str_later ra.rd
      clear ra
      refine hK.out _ _ ?_ (fun hHeld => ?_)
      · exact ba
      clear hK K
      try simp only [Act.put, List.setIfInBounds_toArray, List.set_cons_zero, List.set_cons_succ]
      refine wpUpto.strong (S2 := fun V => Below wa.heap.size wa V) (fun _ hV => Below.trans ba (hV.mono ba.size)) ?_
      replace hHeld : (fun V => Below wa.heap.size wa V) _ := Below.refl _ wa
      refine wpUpto.takeAll 7 (by kernel_rfl) (by kernel_rfl) (by kernel_rfl) (by kernel_rfl) (by assumption) ?_
      intro o ho
      simp only [List.getElem?_toArray, List.getElem?_cons_succ, List.getElem?_cons_zero, Option.some.injEq] at ho
      subst ho
      refine ⟨?_, fun _ _ _ h => h, Or.inl ⟨by rfl, ?_⟩, ?_⟩
      rotate_left
      · intro w hSw
        go_simp
        try with_reducible rfl
      simp only [Act.put, List.setIfInBounds_toArray, List.set_cons_zero, List.set_cons_succ]
      refine wpUpto.takeAll 16 (by kernel_rfl) (by kernel_rfl) (by kernel_rfl) (by kernel_rfl) (by assumption) ?_
      intro o ho
      simp only [List.getElem?_toArray, List.getElem?_cons_succ, List.getElem?_cons_zero, Option.some.injEq] at ho
      subst ho
      refine ⟨?_, fun _ _ _ h => h, Or.inl ⟨by rfl, ?_⟩, ?_⟩
      rotate_left
      · intro w hSw
        go_simp
        try with_reducible rfl
      simp only [Act.put, List.setIfInBounds_toArray, List.set_cons_zero, List.set_cons_succ]
      refine wpUpto.takeAll 17 (by kernel_rfl) (by kernel_rfl) (by kernel_rfl) (by kernel_rfl) (by assumption) ?_
      intro o ho
      simp only [List.getElem?_toArray, List.getElem?_cons_succ, List.getElem?_cons_zero, Option.some.injEq] at ho
      subst ho
      refine ⟨?_, fun _ _ _ h => h, Or.inl ⟨by rfl, ?_⟩, ?_⟩
      rotate_left
      · intro w hSw
        go_simp
        try with_reducible rfl
      simp only [Act.put, List.setIfInBounds_toArray, List.set_cons_zero, List.set_cons_succ]
      refine wpUpto.takeAll 18 (by kernel_rfl) (by kernel_rfl) (by kernel_rfl) (by kernel_rfl) (by assumption) ?_
      intro o ho
      simp only [List.getElem?_toArray, List.getElem?_cons_succ, List.getElem?_cons_zero, Option.some.injEq] at ho
      subst ho
      refine ⟨?_, fun _ _ _ h => h, Or.inl ⟨by rfl, ?_⟩, ?_⟩
      rotate_left
      · intro w hSw
        go_simp
        try with_reducible rfl
      simp only [Act.put, List.setIfInBounds_toArray, List.set_cons_zero, List.set_cons_succ]
      refine wpUpto.takeAll 19 (by kernel_rfl) (by kernel_rfl) (by kernel_rfl) (by kernel_rfl) (by assumption) ?_
      intro o ho
      simp only [List.getElem?_toArray, List.getElem?_cons_succ, List.getElem?_cons_zero, Option.some.injEq] at ho
      subst ho
      refine ⟨?_, fun _ _ _ h => h, Or.inl ⟨by rfl, ?_⟩, ?_⟩
      rotate_left
      · intro w hSw
        go_simp
        try with_reducible rfl
      simp only [Act.put, List.setIfInBounds_toArray, List.set_cons_zero, List.set_cons_succ]
      refine wpUpto.takeAll 21 (by kernel_rfl) (by kernel_rfl) (by kernel_rfl) (by kernel_rfl) (by assumption) ?_
      intro o ho
      simp only [List.getElem?_toArray, List.getElem?_cons_succ, List.getElem?_cons_zero, Option.some.injEq] at ho
      subst ho
      refine ⟨?_, fun _ _ _ h => h, Or.inl ⟨by rfl, ?_⟩, ?_⟩
      rotate_left
      · intro w hSw
        go_simp
        try with_reducible rfl
      simp only [Act.put, List.setIfInBounds_toArray, List.set_cons_zero, List.set_cons_succ]
      refine wpUpto.takeAll 22 (by kernel_rfl) (by kernel_rfl) (by kernel_rfl) (by kernel_rfl) (by assumption) ?_
      intro o ho
      simp only [List.getElem?_toArray, List.getElem?_cons_succ, List.getElem?_cons_zero, Option.some.injEq] at ho
      subst ho
      refine ⟨?_, fun _ _ _ h => h, Or.inl ⟨by rfl, ?_⟩, ?_⟩
      rotate_left
      · intro w hSw
        go_simp
        try with_reducible rfl
      simp only [Act.put, List.setIfInBounds_toArray, List.set_cons_zero, List.set_cons_succ]
      refine wpUpto.one 20 (by kernel_rfl) ?_
      intro o ho K hK
      simp only [List.getElem?_toArray, List.getElem?_cons_succ, List.getElem?_cons_zero, Option.some.injEq] at ho
      subst ho
      go_simp
      go_at_call 20
      refine (total_1 Ha.out).mono ?_
      rintro e wc ⟨rfl, dc⟩
      have Hc := Lib.hid (Ha.out.drewL (win_framed _ _ _ _ _) dc)
      have kc : Below wa.heap.size wa wc := by obtain ⟨q, rfl⟩ := dc; exact ⟨rfl, rfl, rfl, Nat.le_refl _, fun _ _ => rfl⟩
      clear dc
      refine hK.out _ _ ?_ (fun hHeld => ?_)
      · exact kc
      clear hK K
      try simp only [Act.put, List.setIfInBounds_toArray, List.set_cons_zero, List.set_cons_succ]
      refine wpUpto.takeAll 23 (by kernel_rfl) (by kernel_rfl) (by kernel_rfl) (by kernel_rfl) (by assumption) ?_
      intro o ho
      simp only [List.getElem?_toArray, List.getElem?_cons_succ, List.getElem?_cons_zero, Option.some.injEq] at ho
      subst ho
      refine ⟨?_, fun _ _ _ h => h, Or.inl ⟨by rfl, ?_⟩, ?_⟩
      rotate_left
      · intro w hSw
        go_simp
        try with_reducible rfl
      simp only [Act.put, List.setIfInBounds_toArray, List.set_cons_zero, List.set_cons_succ]
      refine wpUpto.takeAll 24 (by kernel_rfl) (by kernel_rfl) (by kernel_rfl) (by kernel_rfl) (by assumption) ?_
      intro o ho
      simp only [List.getElem?_toArray, List.getElem?_cons_succ, List.getElem?_cons_zero, Option.some.injEq] at ho
      subst ho
      refine ⟨?_, fun _ _ _ h => h, Or.inl ⟨by rfl, ?_⟩, ?_⟩
      rotate_left
      · intro w hSw
        go_simp
        try with_reducible rfl
      simp only [Act.put, List.setIfInBounds_toArray, List.set_cons_zero, List.set_cons_succ]
      refine wpUpto.done (by kernel_rfl) ?_ _
      refine NoPanic.normal ?_
      go_wp2_with fail
      refine (held_1 Hc.out).mono ?_
      rintro e wd ⟨⟨h, hh1, hh2, hh3, rfl⟩, dd⟩
      have Hd := Lib.hid (Hc.out.drewL (win_framed _ _ _ _ _) dd)
      have hh4 : (h : Int) ≤ 2 * (n : Int) := by omega
      clear dd hh1 hh2
      go_wp2_with fail
      go_ret
      exact ⟨rfl, Hd.out.below⟩
end Go.Proofs.Ytkfpameaopjjnaa
