/-
  The law WindowPieces.
  Conditions: none.
-/
import Derived.Test.YtkfpameaopjjnaaWnLast
import Derived.Test.YtkfpameaopjjnaaKInt
import Derived.Test.YtkfpameaopjjnaaUptoStr
namespace Go.Proofs.Ytkfpameaopjjnaa
open Go.RowKit

theorem put_rn {b most top tot nn : Nat} {l m : List Nat} {N : Nat → Prop} {w0 w : World} {P : Thing} {A : Option Addr} {c : Nat} (hk : nn = m.length) (h : Has (Star P (WinT b most top l tot)) N w0 w) (fP : Framed P) (hr : Rd w0 (.slice A nn c) (bv m)) (hm : ∀ d ∈ m, d < 256) (hn : m.length ≤ 4194304) (ht : tot ≤ 4611686018427387904) :
    Calls Try.prog 12 #[.pointer (some ⟨b, 0, none⟩), .slice A nn c] w fun e w' => e = .returned (.tuple #[]) ∧ Has (Star P (WinT b most top (lastS most (l ++ m)) (tot + m.length))) N w0 w' ∧ Stay N w w' := by
  subst hk
  exact put_r h fP (old_out hr.old h.below) hm hn ht

set_option maxRecDepth 100000 in
set_option maxHeartbeats 4000000 in
theorem pieces_true (z : Int) (A1 : Option Addr) (n1 c1 : Nat) (l : List Nat) (A2 : Option Addr) (n2 c2 : Nat) (zs : List Int) (w : World) (h1 : Rd w (.slice A1 n1 c1) (bv l)) (hl : ∀ d ∈ l, d < 256) (h2 : Rd w (.slice A2 n2 c2) (iv zs)) (hm2 : n2 ≤ 9223372036854775807) :
    Calls Try.prog 5 #[.int .i64 z, .slice A1 n1 c1, .slice A2 n2 c2] w fun e w' => e = .returned (.bool true) ∧ Below w.heap.size w w' := by
  obtain ⟨k, hk, hkz⟩ := num30 z
  obtain ⟨n, hn1, hn2, hn3⟩ : ∃ n : Nat, 1 ≤ n ∧ n ≤ 30 ∧ (1 : Int) + (k : Int) = (n : Int) := ⟨1 + k, by omega, by omega, by omega⟩
  obtain ⟨A3, hrun3, hr3⟩ := run_min h1 300
  have e3 : (l.take 300).length ≤ 300 := by rw [List.length_take]; omega
  have b3 : ∀ d ∈ l.take 300, d < 256 := fun d hd => hl d (List.mem_of_mem_take hd)
  generalize l.take 300 = l3 at *
  obtain ⟨hn2z, -, -⟩ := h2.ints
  have H3 := Lib.hid (And.intro hr3 b3)
  have H2 := Lib.hid h2
  have HZ := Lib.hid hn2z
  have hl1 := h1.le
  rw [show (((300 : Nat)) : Int) = 300 from rfl] at hrun3
  clear hl h1 b3 hr3 h2 hn2z
  go_enter Try.func5, Try.ntmps5
  go_wp2_with fail
  refine (new_has n (by omega) (by omega) (Below.refl _ w)).mono ?_
  rintro e w1 ⟨b, rfl, hw⟩
  have X1 := Lib.hid hw
  clear hw
  go_wp2_with fail
  refine (new_two n (by omega) (by omega) X1.out (win_framed _ _ _ _ _)).mono ?_
  rintro e w2 ⟨d, rfl, hw⟩
  have X2 := Lib.hid hw
  clear hw X1
  go_wp2_with fail
  refine (alive_true _).mono ?_
  rintro e w3 ⟨rfl, hb⟩
  have X3 := Lib.hid (X2.out.keep (Star.framed (win_framed _ _ _ _ _) (win_framed _ _ _ _ _)) hb)
  clear hb X2 hrun3
  have P3 := Lib.hid (put_l X3.out (win_framed _ _ _ _ _) (old_out H3.out.1.old X3.out.below) H3.out.2 (by omega) (by omega))
  go_wp2_with fail
  refine P3.out.mono ?_
  rintro e w4 ⟨rfl, hw, -⟩
  simp only [List.nil_append, Nat.zero_add] at hw
  have X4 := Lib.hid hw
  clear hw X3 P3
  go_wp2_with fail
  go_loopw [12, 59] (fun u v wr => ∃ (i p : Nat) (A : Option Addr) (N c : Nat), i ≤ n2 ∧ p ≤ l3.length ∧ u = .slice A N c ∧ v = .int .i64 (i : Nat) ∧ N + p = l3.length ∧ Hid (Rd w (.slice A N c) (bv (l3.drop p))) ∧ Hid (Has (Star (WinT b n n (lastS n l3) l3.length) (WinT d n n (lastS n (l3.take p)) p)) (fun _ => False) w wr)) (fun _ v _ => n2 - (intOf v).toNat)
  case atStart => exact ⟨0, 0, A3, l3.length, c1, by omega, by omega, rfl, rfl, by omega, Lib.hid (by rw [List.drop_zero]; exact H3.out.1), Lib.hid (by rw [List.take_zero, last_nil]; exact X4.out)⟩
  case round =>
    obtain ⟨i, p, A, N, c, hi, hp, rfl, rfl, hNp, HR, HW⟩ := hrel
    clear X4
    by_cases hlt : i < n2
    · obtain ⟨-, -, hcell⟩ := (H2.out.kept HW.out.below).ints
      obtain ⟨bb, oo, rfl, hc⟩ := hcell (by have := HZ.out; omega)
      have c0 := hc i (by have := HZ.out; omega)
      generalize zs[i]?.getD 0 = y at *
      obtain ⟨j, hj1, hj2⟩ := cut_at (n := N) y
      obtain ⟨A5, hrun5, hr5⟩ := run_upto HR.out (k := j) hj2
      obtain ⟨A6, c6, N6, hrun6, hr6, hN6⟩ := run_from HR.out (a := j) hj2
      have hjl : j = ((l3.drop p).take j).length := by rw [List.length_take, List.length_drop]; omega
      have P5 := Lib.hid (put_rn hjl HW.out (win_framed _ _ _ _ _) hr5 (fun x hx => H3.out.2 x (List.mem_of_mem_drop (List.mem_of_mem_take hx))) (by omega) (by omega))
      have HT : Hid (l3.take p ++ (l3.drop p).take j = l3.take (p + j) ∧ (l3.drop p).drop j = l3.drop (p + j)) := Lib.hid ⟨by rw [List.take_add], List.drop_drop⟩
      have HR6 := Lib.hid hr6
      have hJL := Lib.hid hjl
      clear hcell hc hr5 hr6 hjl
      go_wp2_with fail
      refine P5.out.mono ?_
      rintro e w5 ⟨rfl, hw, -⟩
      rw [last_more, HT.out.1, ← hJL.out] at hw
      have X5 := Lib.hid hw
      clear hw P5 hJL
      go_wp2_with fail
      go_roundw
      case rel => exact ⟨i + 1, p + j, A6, N6, c6, by omega, by omega, rfl, by go_num, by omega, Lib.hid (by rw [← HT.out.2]; exact HR6.out), X5⟩
      case measure => simp [intOf]; omega
    · have hNl : N = (l3.drop p).length := by rw [List.length_drop]; omega
      have P5 := Lib.hid (put_rn hNl HW.out (win_framed _ _ _ _ _) HR.out (fun x hx => H3.out.2 x (List.mem_of_mem_drop hx)) (by omega) (by omega))
      have HJ : Hid (l3.take p ++ l3.drop p = l3 ∧ p + (l3.drop p).length = l3.length) := Lib.hid ⟨List.take_append_drop _ _, by omega⟩
      clear hNl
      go_wp2_with fail
      refine P5.out.mono ?_
      rintro e w5 ⟨rfl, hw, -⟩
      rw [last_more, HJ.out.1, HJ.out.2] at hw
      have X5 := Lib.hid hw
      clear hw P5 HW HR hlt
      obtain ⟨f, hf, hf2⟩ : ∃ f : Nat, max 0 ((l3.length : Int) - (n : Int)) = (f : Int) ∧ f = l3.length - n := ⟨l3.length - n, by omega, rfl⟩
      have hw3 : IntKind.i64.wrap ((l3.length : Int) - (n : Int)) = (l3.length : Int) - (n : Int) := by rw [IntKind.wrap_i64]; omega
      obtain ⟨Af, cf, Nf, hrunF, hrF, -⟩ := run_from H3.out.1 (a := f) (by omega)
      rw [show l3.drop f = lastS n l3 by rw [hf2]; rfl] at hrF
      have SF := Lib.hid (str_later hrF)
      obtain ⟨L, hL⟩ : ∃ L, L = lastS n l3 := ⟨_, rfl⟩
      rw [← hL] at X5 SF
      clear hrF hf2 hL
      have fS : Framed (Star (WinT b n n L l3.length) (WinT d n n L l3.length)) := Star.framed (win_framed _ _ _ _ _) (win_framed _ _ _ _ _)
      have HF := Lib.hid fS
      have X5d := Lib.hid (X5.out.drew fS)
      clear X5 fS
      go_wp2_with fail
      refine wp_region_noPanic ?_
      refine wp_region_upto (fun _ => Hid True) 99 (by kernel_rfl) ?_ (fun hHeld => ?_)
      · exact Lib.hid trivial
      refine wpUpto.takeAll 0 (by kernel_rfl) (by kernel_rfl) (by kernel_rfl) (by kernel_rfl) (by assumption) ?_
      intro o ho
      simp only [List.getElem?_toArray, List.getElem?_cons_zero, Option.some.injEq] at ho
      subst ho
      refine ⟨?_, fun _ _ _ h => h, Or.inl ⟨by rfl, ?_⟩, ?_⟩
      rotate_left
      · intro w hSw
        go_simp
        try with_reducible rfl
      simp only [Act.put, List.setIfInBounds_toArray, List.set_cons_zero, List.set_cons_succ]
      refine wpUpto.takeAll 3 (by kernel_rfl) (by kernel_rfl) (by kernel_rfl) (by kernel_rfl) (by assumption) ?_
      intro o ho
      simp only [List.getElem?_toArray, List.getElem?_cons_succ, List.getElem?_cons_zero, Option.some.injEq] at ho
      subst ho
      refine ⟨?_, fun _ _ _ h => h, Or.inl ⟨by rfl, ?_⟩, ?_⟩
      rotate_left
      · intro w hSw
        go_simp
        try with_reducible rfl
      simp only [Act.put, List.setIfInBounds_toArray, List.set_cons_zero, List.set_cons_succ]
      refine wpUpto.one 1 (by kernel_rfl) ?_
      intro o ho K hK
      simp only [List.getElem?_toArray, List.getElem?_cons_succ, List.getElem?_cons_zero, Option.some.injEq] at ho
      subst ho
      go_simp
      go_at_call 19
      refine (bytes_l X5d.out).mono ?_
      rintro e wa ⟨Awa, cwa, gwa, rfl, rwa, -, bwa⟩
      have Hwa := Lib.hid (X5d.out.keep HF.out bwa)
      have swa := str_later rwa.rd
      clear rwa
      refine hK.out _ _ ?_ (fun hHeld => ?_)
      · exact Lib.hid trivial
      clear hK K
      try simp only [Act.put, List.setIfInBounds_toArray, List.set_cons_zero, List.set_cons_succ]
      refine wpUpto.strong (S2 := fun V => Below wa.heap.size wa V) (fun _ _ => Lib.hid trivial) ?_
      replace hHeld : (fun V => Below wa.heap.size wa V) _ := Below.refl _ wa
      refine wpUpto.takeAll 2 (by kernel_rfl) (by kernel_rfl) (by kernel_rfl) (by kernel_rfl) (by assumption) ?_
      intro o ho
      simp only [List.getElem?_toArray, List.getElem?_cons_succ, List.getElem?_cons_zero, Option.some.injEq] at ho
      subst ho
      refine ⟨?_, fun _ _ _ h => h, Or.inl ⟨by rfl, ?_⟩, ?_⟩
      rotate_left
      · intro w hSw
        go_simp
        try with_reducible rfl
      simp only [Act.put, List.setIfInBounds_toArray, List.set_cons_zero, List.set_cons_succ]
      refine wpUpto.one 4 (by kernel_rfl) ?_
      intro o ho K hK
      simp only [List.getElem?_toArray, List.getElem?_cons_succ, List.getElem?_cons_zero, Option.some.injEq] at ho
      subst ho
      go_simp
      go_at_call 19
      refine (bytes_r Hwa.out).mono ?_
      rintro e wb ⟨Awb, cwb, gwb, rfl, rwb, -, bwb⟩
      have Hwb := Lib.hid (Hwa.out.keep HF.out bwb)
      have swb := str_later rwb.rd
      clear rwb
      refine hK.out _ _ ?_ (fun hHeld => ?_)
      · exact bwb
      clear hK K
      try simp only [Act.put, List.setIfInBounds_toArray, List.set_cons_zero, List.set_cons_succ]
      refine wpUpto.strong (S2 := fun V => Below wb.heap.size wb V) (fun _ hV => Below.trans bwb (hV.mono bwb.size)) ?_
      replace hHeld : (fun V => Below wb.heap.size wb V) _ := Below.refl _ wb
      refine wpUpto.takeAll 5 (by kernel_rfl) (by kernel_rfl) (by kernel_rfl) (by kernel_rfl) (by assumption) ?_
      intro o ho
      simp only [List.getElem?_toArray, List.getElem?_cons_succ, List.getElem?_cons_zero, Option.some.injEq] at ho
      subst ho
      refine ⟨?_, fun _ _ _ h => h, Or.inl ⟨by rfl, ?_⟩, ?_⟩
      rotate_left
      · intro w hSw
        go_simp
        try with_reducible rfl
      simp only [Act.put, List.setIfInBounds_toArray, List.set_cons_zero, List.set_cons_succ]
      refine wpUpto.takeAll 6 (by kernel_rfl) (by kernel_rfl) (by kernel_rfl) (by kernel_rfl) (by assumption) ?_
      intro o ho
      simp only [List.getElem?_toArray, List.getElem?_cons_succ, List.getElem?_cons_zero, Option.some.injEq] at ho
      subst ho
      refine ⟨?_, fun _ _ _ h => h, Or.inl ⟨by rfl, ?_⟩, ?_⟩
      rotate_left
      · intro w hSw
        go_simp
        try with_reducible rfl
      simp only [Act.put, List.setIfInBounds_toArray, List.set_cons_zero, List.set_cons_succ]
      refine wpUpto.takeAll 7 (by kernel_rfl) (by kernel_rfl) (by kernel_rfl) (by kernel_rfl) (by assumption) ?_
      intro o ho
      simp only [List.getElem?_toArray, List.getElem?_cons_succ, List.getElem?_cons_zero, Option.some.injEq] at ho
      subst ho
      refine ⟨?_, fun _ _ _ h => h, Or.inl ⟨by rfl, ?_⟩, ?_⟩
      rotate_left
      · intro w hSw
        go_simp
        try with_reducible rfl
      simp only [Act.put, List.setIfInBounds_toArray, List.set_cons_zero, List.set_cons_succ]
      refine wpUpto.takeAll 8 (by kernel_rfl) (by kernel_rfl) (by kernel_rfl) (by kernel_rfl) (by assumption) ?_
      intro o ho
      simp only [List.getElem?_toArray, List.getElem?_cons_succ, List.getElem?_cons_zero, Option.some.injEq] at ho
      subst ho
      refine ⟨?_, fun _ _ _ h => h, Or.inl ⟨by rfl, ?_⟩, ?_⟩
      rotate_left
      · intro w hSw
        go_simp
        try with_reducible rfl
      simp only [Act.put, List.setIfInBounds_toArray, List.set_cons_zero, List.set_cons_succ]
      have tb : ∀ W, Below wb.heap.size wb W → (convert 30 9 (.slice Af Nf cf)).run Try.prog W = .ok (.string (str L)) W := fun W h => SF.out W (Hwb.out.below.trans (h.mono Hwb.out.below.size))
      refine wpUpto.takeAll 11 (by kernel_rfl) (by kernel_rfl) (by kernel_rfl) (by kernel_rfl) (by assumption) ?_
      intro o ho
      simp only [List.getElem?_toArray, List.getElem?_cons_succ, List.getElem?_cons_zero, Option.some.injEq] at ho
      subst ho
      refine ⟨?_, fun _ _ _ h => h, Or.inl ⟨by rfl, ?_⟩, ?_⟩
      rotate_left
      · intro w hSw
        go_simp
        try with_reducible rfl
      simp only [Act.put, List.setIfInBounds_toArray, List.set_cons_zero, List.set_cons_succ]
      refine wpUpto.takeAll 12 (by kernel_rfl) (by kernel_rfl) (by kernel_rfl) (by kernel_rfl) (by assumption) ?_
      intro o ho
      simp only [List.getElem?_toArray, List.getElem?_cons_succ, List.getElem?_cons_zero, Option.some.injEq] at ho
      subst ho
      refine ⟨?_, fun _ _ _ h => h, Or.inl ⟨by rfl, ?_⟩, ?_⟩
      rotate_left
      · intro w hSw
        go_simp
        try with_reducible rfl
      simp only [Act.put, List.setIfInBounds_toArray, List.set_cons_zero, List.set_cons_succ]
      refine wpUpto.takeAll 13 (by kernel_rfl) (by kernel_rfl) (by kernel_rfl) (by kernel_rfl) (by assumption) ?_
      intro o ho
      simp only [List.getElem?_toArray, List.getElem?_cons_succ, List.getElem?_cons_zero, Option.some.injEq] at ho
      subst ho
      refine ⟨?_, fun _ _ _ h => h, Or.inl ⟨by rfl, ?_⟩, ?_⟩
      rotate_left
      · intro w hSw
        go_simp
        try with_reducible rfl
      simp only [Act.put, List.setIfInBounds_toArray, List.set_cons_zero, List.set_cons_succ]
      refine wpUpto.takeAll 14 (by kernel_rfl) (by kernel_rfl) (by kernel_rfl) (by kernel_rfl) (by assumption) ?_
      intro o ho
      simp only [List.getElem?_toArray, List.getElem?_cons_succ, List.getElem?_cons_zero, Option.some.injEq] at ho
      subst ho
      refine ⟨?_, fun _ _ _ h => h, Or.inl ⟨by rfl, ?_⟩, ?_⟩
      rotate_left
      · intro w hSw
        go_simp
        try with_reducible rfl
      simp only [Act.put, List.setIfInBounds_toArray, List.set_cons_zero, List.set_cons_succ]
      refine wpUpto.takeAll 15 (by kernel_rfl) (by kernel_rfl) (by kernel_rfl) (by kernel_rfl) (by assumption) ?_
      intro o ho
      simp only [List.getElem?_toArray, List.getElem?_cons_succ, List.getElem?_cons_zero, Option.some.injEq] at ho
      subst ho
      refine ⟨?_, fun _ _ _ h => h, Or.inl ⟨by rfl, ?_⟩, ?_⟩
      rotate_left
      · intro w hSw
        go_simp
        try with_reducible rfl
      simp only [Act.put, List.setIfInBounds_toArray, List.set_cons_zero, List.set_cons_succ]
      refine wpUpto.takeAll 16 (by kernel_rfl) (by kernel_rfl) (by kernel_rfl) (by kernel_rfl) (by assumption) ?_
      intro o ho
      simp only [List.getElem?_toArray, List.getElem?_cons_succ, List.getElem?_cons_zero, Option.some.injEq] at ho
      subst ho
      refine ⟨?_, fun _ _ _ h => h, Or.inl ⟨by rfl, ?_⟩, ?_⟩
      rotate_left
      · intro w hSw
        go_simp
        try with_reducible rfl
      simp only [Act.put, List.setIfInBounds_toArray, List.set_cons_zero, List.set_cons_succ]
      refine wpUpto.takeAll 17 (by kernel_rfl) (by kernel_rfl) (by kernel_rfl) (by kernel_rfl) (by assumption) ?_
      intro o ho
      simp only [List.getElem?_toArray, List.getElem?_cons_succ, List.getElem?_cons_zero, Option.some.injEq] at ho
      subst ho
      refine ⟨?_, fun _ _ _ h => h, Or.inl ⟨by rfl, ?_⟩, ?_⟩
      rotate_left
      · intro w hSw
        go_simp
        try with_reducible rfl
      simp only [Act.put, List.setIfInBounds_toArray, List.set_cons_zero, List.set_cons_succ]
      refine wpUpto.takeAll 18 (by kernel_rfl) (by kernel_rfl) (by kernel_rfl) (by kernel_rfl) (by assumption) ?_
      intro o ho
      simp only [List.getElem?_toArray, List.getElem?_cons_succ, List.getElem?_cons_zero, Option.some.injEq] at ho
      subst ho
      refine ⟨?_, fun _ _ _ h => h, Or.inl ⟨by rfl, ?_⟩, ?_⟩
      rotate_left
      · intro w hSw
        go_simp
        try with_reducible rfl
      simp only [Act.put, List.setIfInBounds_toArray, List.set_cons_zero, List.set_cons_succ]
      refine wpUpto.one 9 (by kernel_rfl) ?_
      intro o ho K hK
      simp only [List.getElem?_toArray, List.getElem?_cons_succ, List.getElem?_cons_zero, Option.some.injEq] at ho
      subst ho
      go_simp
      go_at_call 19
      refine (bytes_l Hwb.out).mono ?_
      rintro e wg ⟨Awg, cwg, gwg, rfl, rwg, -, bwg⟩
      have Hwg := Lib.hid (Hwb.out.keep HF.out bwg)
      have swg := str_later rwg.rd
      clear rwg
      refine hK.out _ _ ?_ (fun hHeld => ?_)
      · exact bwg
      clear hK K
      try simp only [Act.put, List.setIfInBounds_toArray, List.set_cons_zero, List.set_cons_succ]
      refine wpUpto.strong (S2 := fun V => Below wg.heap.size wg V) (fun _ hV => Below.trans bwg (hV.mono bwg.size)) ?_
      replace hHeld : (fun V => Below wg.heap.size wg V) _ := Below.refl _ wg
      refine wpUpto.takeAll 10 (by kernel_rfl) (by kernel_rfl) (by kernel_rfl) (by kernel_rfl) (by assumption) ?_
      intro o ho
      simp only [List.getElem?_toArray, List.getElem?_cons_succ, List.getElem?_cons_zero, Option.some.injEq] at ho
      subst ho
      refine ⟨?_, fun _ _ _ h => h, Or.inl ⟨by rfl, ?_⟩, ?_⟩
      rotate_left
      · intro w hSw
        go_simp
        try with_reducible rfl
      simp only [Act.put, List.setIfInBounds_toArray, List.set_cons_zero, List.set_cons_succ]
      refine wpUpto.takeAll 19 (by kernel_rfl) (by kernel_rfl) (by kernel_rfl) (by kernel_rfl) (by assumption) ?_
      intro o ho
      simp only [List.getElem?_toArray, List.getElem?_cons_succ, List.getElem?_cons_zero, Option.some.injEq] at ho
      subst ho
      refine ⟨?_, fun _ _ _ h => h, Or.inl ⟨by rfl, ?_⟩, ?_⟩
      rotate_left
      · intro w hSw
        go_simp
        try with_reducible rfl
      simp only [Act.put, List.setIfInBounds_toArray, List.set_cons_zero, List.set_cons_succ]
      refine wpUpto.takeAll 20 (by kernel_rfl) (by kernel_rfl) (by kernel_rfl) (by kernel_rfl) (by assumption) ?_
      intro o ho
      simp only [List.getElem?_toArray, List.getElem?_cons_succ, List.getElem?_cons_zero, Option.some.injEq] at ho
      subst ho
      refine ⟨?_, fun _ _ _ h => h, Or.inl ⟨by rfl, ?_⟩, ?_⟩
      rotate_left
      · intro w hSw
        go_simp
        try with_reducible rfl
      simp only [Act.put, List.setIfInBounds_toArray, List.set_cons_zero, List.set_cons_succ]
      refine wpUpto.takeAll 21 (by kernel_rfl) (by kernel_rfl) (by kernel_rfl) (by kernel_rfl) (by assumption) ?_
      intro o ho
      simp only [List.getElem?_toArray, List.getElem?_cons_succ, List.getElem?_cons_zero, Option.some.injEq] at ho
      subst ho
      refine ⟨?_, fun _ _ _ h => h, Or.inl ⟨by rfl, ?_⟩, ?_⟩
      rotate_left
      · intro w hSw
        go_simp
        try with_reducible rfl
      simp only [Act.put, List.setIfInBounds_toArray, List.set_cons_zero, List.set_cons_succ]
      refine wpUpto.takeAll 22 (by kernel_rfl) (by kernel_rfl) (by kernel_rfl) (by kernel_rfl) (by assumption) ?_
      intro o ho
      simp only [List.getElem?_toArray, List.getElem?_cons_succ, List.getElem?_cons_zero, Option.some.injEq] at ho
      subst ho
      refine ⟨?_, fun _ _ _ h => h, Or.inl ⟨by rfl, ?_⟩, ?_⟩
      rotate_left
      · intro w hSw
        go_simp
        try with_reducible rfl
      simp only [Act.put, List.setIfInBounds_toArray, List.set_cons_zero, List.set_cons_succ]
      refine wpUpto.takeAll 24 (by kernel_rfl) (by kernel_rfl) (by kernel_rfl) (by kernel_rfl) (by assumption) ?_
      intro o ho
      simp only [List.getElem?_toArray, List.getElem?_cons_succ, List.getElem?_cons_zero, Option.some.injEq] at ho
      subst ho
      refine ⟨?_, fun _ _ _ h => h, Or.inl ⟨by rfl, ?_⟩, ?_⟩
      rotate_left
      · intro w hSw
        go_simp
        try with_reducible rfl
      simp only [Act.put, List.setIfInBounds_toArray, List.set_cons_zero, List.set_cons_succ]
      refine wpUpto.takeAll 25 (by kernel_rfl) (by kernel_rfl) (by kernel_rfl) (by kernel_rfl) (by assumption) ?_
      intro o ho
      simp only [List.getElem?_toArray, List.getElem?_cons_succ, List.getElem?_cons_zero, Option.some.injEq] at ho
      subst ho
      refine ⟨?_, fun _ _ _ h => h, Or.inl ⟨by rfl, ?_⟩, ?_⟩
      rotate_left
      · intro w hSw
        go_simp
        try with_reducible rfl
      simp only [Act.put, List.setIfInBounds_toArray, List.set_cons_zero, List.set_cons_succ]
      refine wpUpto.one 23 (by kernel_rfl) ?_
      intro o ho K hK
      simp only [List.getElem?_toArray, List.getElem?_cons_succ, List.getElem?_cons_zero, Option.some.injEq] at ho
      subst ho
      go_simp
      go_at_call 20
      refine (total_l Hwg.out).mono ?_
      rintro e wt ⟨rfl, dwt⟩
      have Hwt := Lib.hid (Hwg.out.drewL HF.out dwt)
      have kwt : Below wg.heap.size wg wt := by obtain ⟨q, rfl⟩ := dwt; exact ⟨rfl, rfl, rfl, Nat.le_refl _, fun _ _ => rfl⟩
      clear dwt
      refine hK.out _ _ ?_ (fun hHeld => ?_)
      · exact kwt
      clear hK K
      try simp only [Act.put, List.setIfInBounds_toArray, List.set_cons_zero, List.set_cons_succ]
      refine wpUpto.takeAll 26 (by kernel_rfl) (by kernel_rfl) (by kernel_rfl) (by kernel_rfl) (by assumption) ?_
      intro o ho
      simp only [List.getElem?_toArray, List.getElem?_cons_succ, List.getElem?_cons_zero, Option.some.injEq] at ho
      subst ho
      refine ⟨?_, fun _ _ _ h => h, Or.inl ⟨by rfl, ?_⟩, ?_⟩
      rotate_left
      · intro w hSw
        go_simp
        try with_reducible rfl
      simp only [Act.put, List.setIfInBounds_toArray, List.set_cons_zero, List.set_cons_succ]
      refine wpUpto.takeAll 27 (by kernel_rfl) (by kernel_rfl) (by kernel_rfl) (by kernel_rfl) (by assumption) ?_
      intro o ho
      simp only [List.getElem?_toArray, List.getElem?_cons_succ, List.getElem?_cons_zero, Option.some.injEq] at ho
      subst ho
      refine ⟨?_, fun _ _ _ h => h, Or.inl ⟨by rfl, ?_⟩, ?_⟩
      rotate_left
      · intro w hSw
        go_simp
        try with_reducible rfl
      simp only [Act.put, List.setIfInBounds_toArray, List.set_cons_zero, List.set_cons_succ]
      refine wpUpto.takeAll 28 (by kernel_rfl) (by kernel_rfl) (by kernel_rfl) (by kernel_rfl) (by assumption) ?_
      intro o ho
      simp only [List.getElem?_toArray, List.getElem?_cons_succ, List.getElem?_cons_zero, Option.some.injEq] at ho
      subst ho
      refine ⟨?_, fun _ _ _ h => h, Or.inl ⟨by rfl, ?_⟩, ?_⟩
      rotate_left
      · intro w hSw
        go_simp
        try with_reducible rfl
      simp only [Act.put, List.setIfInBounds_toArray, List.set_cons_zero, List.set_cons_succ]
      refine wpUpto.takeAll 29 (by kernel_rfl) (by kernel_rfl) (by kernel_rfl) (by kernel_rfl) (by assumption) ?_
      intro o ho
      simp only [List.getElem?_toArray, List.getElem?_cons_succ, List.getElem?_cons_zero, Option.some.injEq] at ho
      subst ho
      refine ⟨?_, fun _ _ _ h => h, Or.inl ⟨by rfl, ?_⟩, ?_⟩
      rotate_left
      · intro w hSw
        go_simp
        try with_reducible rfl
      simp only [Act.put, List.setIfInBounds_toArray, List.set_cons_zero, List.set_cons_succ]
      refine wpUpto.takeAll 31 (by kernel_rfl) (by kernel_rfl) (by kernel_rfl) (by kernel_rfl) (by assumption) ?_
      intro o ho
      simp only [List.getElem?_toArray, List.getElem?_cons_succ, List.getElem?_cons_zero, Option.some.injEq] at ho
      subst ho
      refine ⟨?_, fun _ _ _ h => h, Or.inl ⟨by rfl, ?_⟩, ?_⟩
      rotate_left
      · intro w hSw
        go_simp
        try with_reducible rfl
      simp only [Act.put, List.setIfInBounds_toArray, List.set_cons_zero, List.set_cons_succ]
      refine wpUpto.takeAll 32 (by kernel_rfl) (by kernel_rfl) (by kernel_rfl) (by kernel_rfl) (by assumption) ?_
      intro o ho
      simp only [List.getElem?_toArray, List.getElem?_cons_succ, List.getElem?_cons_zero, Option.some.injEq] at ho
      subst ho
      refine ⟨?_, fun _ _ _ h => h, Or.inl ⟨by rfl, ?_⟩, ?_⟩
      rotate_left
      · intro w hSw
        go_simp
        try with_reducible rfl
      simp only [Act.put, List.setIfInBounds_toArray, List.set_cons_zero, List.set_cons_succ]
      refine wpUpto.one 30 (by kernel_rfl) ?_
      intro o ho K hK
      simp only [List.getElem?_toArray, List.getElem?_cons_succ, List.getElem?_cons_zero, Option.some.injEq] at ho
      subst ho
      go_simp
      go_at_call 20
      refine (total_r Hwt.out).mono ?_
      rintro e wu ⟨rfl, dwu⟩
      have Hwu := Lib.hid (Hwt.out.drewL HF.out dwu)
      have kwu : Below wg.heap.size wg wu := by obtain ⟨q, rfl⟩ := dwu; exact ⟨kwt.os, kwt.tape, kwt.output, kwt.size, kwt.block⟩
      clear dwu
      refine hK.out _ _ ?_ (fun hHeld => ?_)
      · exact kwu
      clear hK K
      try simp only [Act.put, List.setIfInBounds_toArray, List.set_cons_zero, List.set_cons_succ]
      refine wpUpto.takeAll 33 (by kernel_rfl) (by kernel_rfl) (by kernel_rfl) (by kernel_rfl) (by assumption) ?_
      intro o ho
      simp only [List.getElem?_toArray, List.getElem?_cons_succ, List.getElem?_cons_zero, Option.some.injEq] at ho
      subst ho
      refine ⟨?_, fun _ _ _ h => h, Or.inl ⟨by rfl, ?_⟩, ?_⟩
      rotate_left
      · intro w hSw
        go_simp
        try with_reducible rfl
      simp only [Act.put, List.setIfInBounds_toArray, List.set_cons_zero, List.set_cons_succ]
      refine wpUpto.takeAll 34 (by kernel_rfl) (by kernel_rfl) (by kernel_rfl) (by kernel_rfl) (by assumption) ?_
      intro o ho
      simp only [List.getElem?_toArray, List.getElem?_cons_succ, List.getElem?_cons_zero, Option.some.injEq] at ho
      subst ho
      refine ⟨?_, fun _ _ _ h => h, Or.inl ⟨by rfl, ?_⟩, ?_⟩
      rotate_left
      · intro w hSw
        go_simp
        try with_reducible rfl
      simp only [Act.put, List.setIfInBounds_toArray, List.set_cons_zero, List.set_cons_succ]
      refine wpUpto.takeAll 35 (by kernel_rfl) (by kernel_rfl) (by kernel_rfl) (by kernel_rfl) (by assumption) ?_
      intro o ho
      simp only [List.getElem?_toArray, List.getElem?_cons_succ, List.getElem?_cons_zero, Option.some.injEq] at ho
      subst ho
      refine ⟨?_, fun _ _ _ h => h, Or.inl ⟨by rfl, ?_⟩, ?_⟩
      rotate_left
      · intro w hSw
        go_simp
        try with_reducible rfl
      simp only [Act.put, List.setIfInBounds_toArray, List.set_cons_zero, List.set_cons_succ]
      refine wpUpto.done (by kernel_rfl) ?_ _
      refine NoPanic.normal ?_
      go_wp2_with fail
      go_ret
      exact ⟨rfl, Hwu.out.below⟩
end Go.Proofs.Ytkfpameaopjjnaa
