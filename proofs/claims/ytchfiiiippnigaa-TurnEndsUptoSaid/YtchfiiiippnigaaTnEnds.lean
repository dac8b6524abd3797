/-
  The law TurnEnds: what was said ahead of a turn and behind it is all that was said; the first turns' events have just these turns.
  Conditions: events and bytes together at most 1048576; the number is an int.
-/
import Derived.Test.YtchfiiiippnigaaTnAlive
import Derived.Test.YtchfiiiippnigaaEvRef
namespace Go.Proofs.Ytchfiiiippnigaa
open Go.RowKit

theorem cut_tn {n : Nat} (z : Int) : ∃ k : Nat, (IntKind.u64.wrap z).tmod ((n : Int) + 1) = (k : Int) ∧ k ≤ n := by
  have h0 : 0 ≤ (IntKind.u64.wrap z).tmod ((n : Int) + 1) := Int.tmod_nonneg _ (by rw [IntKind.wrap_u64]; omega)
  have h1 : (IntKind.u64.wrap z).tmod ((n : Int) + 1) < (n : Int) + 1 := Int.tmod_lt_of_pos _ (by omega)
  exact ⟨((IntKind.u64.wrap z).tmod ((n : Int) + 1)).toNat, by omega, by omega⟩
theorem told_at (t : List Tn) (k : Nat) : told (k : Int) t = (inns (t.take k)).length := by unfold told; rw [Int.toNat_natCast]
theorem seen_at (t : List Tn) (k : Nat) : seen ((k : Int) - 1) t = (outs (t.take k)).length := by unfold seen; rw [show ((k : Int) - 1 + 1).toNat = k by omega]
theorem told_over {t : List Tn} {i : Int} (h : (t.length : Int) ≤ i) : told i t = (inns t).length := by unfold told; rw [List.take_of_length_le (by omega)]
theorem inns_next {t : List Tn} {k : Nat} (hk : k < t.length) : (inns (t.take (k + 1))).length = (inns (t.take k)).length + (t[k]).inn.length := by rw [List.take_succ_eq_append_getElem hk, inns_append, inns_one, List.length_append]
theorem outs_next {t : List Tn} {k : Nat} (hk : k < t.length) : (outs (t.take (k + 1))).length = (outs (t.take k)).length + (t[k]).out.length := by rw [List.take_succ_eq_append_getElem hk, outs_append, outs_one, List.length_append]

set_option maxRecDepth 100000 in
set_option maxHeartbeats 4000000 in
theorem ends_true (v : Value) (L : List Ev) (z : Int) (w : World) (h : Evs w v L) (hw : L.length + whole (pes L) ≤ 1048576) (_ : -9223372036854775808 ≤ z ∧ z ≤ 9223372036854775807) :
    Calls Try.prog 8 #[v, .int .i64 z] w fun e w' => e = .returned (.bool true) ∧ Below w.heap.size w w' := by
  have HO := Lib.hid (Of_is v L w h (by omega))
  have HE := Lib.hid h
  obtain ⟨hby, hl, ho, hi⟩ := turns_small h hw
  have hs := turns_sound (pes L)
  have HI : Hid (byts 1 (pes L) = inns (turns (pes L))) := Lib.hid (turns_inns _).symm
  have HWL : Hid (whole (pes L) ≤ 1048576) := Lib.hid (by omega)
  clear h hw
  generalize turns (pes L) = t at *
  obtain ⟨k, hk, hkl⟩ := cut_tn (n := t.length) z
  have HTB := Lib.hid hby
  have HSB : Hid (turns (tevs (t.take k)) = t.take k) := Lib.hid (turns_back (hs.take k))
  have HFW : Hid ((tevs (t.take k)).length + whole (tevs (t.take k)) ≤ 4194304) := Lib.hid (by
    have h1 := tevs_few (t.take k)
    have h2 := whole_tevs (t.take k)
    have h3 := outs_take t k
    have h4 := inns_take t k
    omega)
  have hkt : (t.take k).length = k := by rw [List.length_take]; omega
  have HKT := Lib.hid hkt
  clear hby hs hkt
  go_enter Try.func8, Try.ntmps8
  go_wp2_with fail
  refine HO.out.mono ?_
  rintro e w1 ⟨A1, c1, rfl, ht, hb1⟩
  obtain ⟨A2, hs2, ht2⟩ := run_upto_T ht hkl
  have X1 := Lib.hid (And.intro hb1 (And.intro ht ht2))
  clear hb1 ht ht2 HO
  have E1 := Lib.hid (Events_is (t.take k) _ w1 X1.out.2.2 (fun x hx => HTB.out x (List.mem_of_mem_take hx)) (by have := HKT.out; omega) (by have := outs_take t k; have := inns_take t k; omega))
  go_wp2_with fail
  refine E1.out.mono ?_
  rintro e w2 ⟨A3, c3, l3, rfl, hl3, hp3, hb2⟩
  have X2 := Lib.hid (And.intro (X1.out.1.trans (hb2.mono X1.out.1.size)) (And.intro (X1.out.2.1.below hb2) (X1.out.2.2.below hb2)))
  have O2 := Lib.hid (Of_is _ l3 w2 hl3 (by rw [← pes_len, hp3]; exact HFW.out))
  rw [hp3, HSB.out] at O2
  clear hl3 hp3 hb2 E1 X1 HFW HSB
  go_wp2_with fail
  refine O2.out.mono ?_
  rintro e w3 ⟨A4, c4, rfl, ht3, hb3⟩
  rw [HKT.out] at ht3 ⊢
  have X3 := Lib.hid (And.intro (X2.out.1.trans (hb3.mono X2.out.1.size)) (And.intro (X2.out.2.1.below hb3) (X2.out.2.2.below hb3)))
  have SM := Lib.hid (RSame_eq (t.take k) _ _ w3 ht3 X3.out.2.2 (by have := HKT.out; omega))
  clear ht3 hb3 O2 X2
  go_wp2_with fail
  refine SM.out.mono ?_
  rintro e w4 ⟨rfl, hb4⟩
  have X4 := Lib.hid (And.intro (X3.out.1.trans (hb4.mono X3.out.1.size)) (And.intro (X3.out.2.1.below hb4) (X3.out.2.2.below hb4)))
  clear hb4 SM X3
  have Z0 : Hid ((inns (t.take 0)).length = 0 ∧ (outs (t.take 0)).length = 0) := Lib.hid ⟨rfl, rfl⟩
  go_wp2
  go_loopw [8, 9, 38] (fun a b i wr => ∃ j : Nat, j ≤ k ∧ i = .int .i64 j ∧ a = .int .i64 ((inns (t.take j)).length : Nat) ∧ b = .int .i64 ((outs (t.take j)).length : Nat) ∧ Hid (Below w4.heap.size w4 wr)) (fun _ _ i _ => k - (intOf i).toNat)
  case atStart => exact ⟨0, by omega, rfl, by rw [Z0.out.1]; rfl, by rw [Z0.out.2]; rfl, Lib.hid (Below.refl _ _)⟩
  case round =>
    obtain ⟨j, hj, rfl, rfl, rfl, HB⟩ := hrel
    by_cases hlt : j < k
    · obtain ⟨b1, o1, B1, d1, B2, d2, rfl, -, y1, y2, -, -⟩ := (X4.out.2.2.below HB.out).at_ (k := j) (by have := HKT.out; omega)
      rw [List.getElem_take] at y1 y2
      have hI := inns_next (t := t) (k := j) (by omega)
      have hO := outs_next (t := t) (k := j) (by omega)
      have hI2 := inns_take t (j + 1)
      have hO2 := outs_take t (j + 1)
      generalize (t[j]).inn.length = xi at *
      generalize (t[j]).out.length = xo at *
      generalize hu1 : (inns (t.take (j + 1))).length = u1 at *
      generalize hu2 : (outs (t.take (j + 1))).length = u2 at *
      generalize (inns (t.take j)).length = u3 at *
      generalize (outs (t.take j)).length = u4 at *
      have U := Lib.hid (And.intro hu1 (And.intro hu2 (And.intro hI hO)))
      have hb1 : u3 + xi ≤ 1048576 := by omega
      have hb2 : u4 + xo ≤ 1048576 := by omega
      clear hu1 hu2 hI hO hI2 hO2
      go_wp2
      go_roundw
      case rel => exact ⟨j + 1, by omega, by go_num, by rw [U.out.1, U.out.2.2.1]; go_num, by rw [U.out.2.1, U.out.2.2.2]; go_num, Lib.hid (HB.out.alloc HB.out.size _)⟩
      case measure => simp [intOf]; omega
    · obtain rfl : j = k := by omega
      have X5 := Lib.hid (And.intro (X4.out.1.trans (HB.out.mono X4.out.1.size)) (X4.out.2.1.below HB.out))
      have BY := Lib.hid (RBytes_any 1 v L wr (HE.out.below X5.out.1) HWL.out)
      rw [HI.out] at BY
      have hI2 := inns_take t j
      have hO2 := outs_take t j
      clear HB X4
      go_wp2_with fail
      refine BY.out.mono ?_
      rintro e w5 ⟨A6, c6, g6, rfl, -, -, hb5⟩
      have X6 := Lib.hid (And.intro (X5.out.1.trans (hb5.mono X5.out.1.size)) (X5.out.2.below hb5))
      have TO : Hid (∀ (i : Int) W, Below w5.heap.size w5 W → Calls Try.prog 17 #[.int .i64 i, .slice A1 t.length c1] W fun e w' => e = .returned (.int .i64 (told i t : Nat)) ∧ Below W.heap.size W w') := Lib.hid fun i W hb => Told_is i t _ W (X6.out.2.below hb) (by omega) (by omega)
      have SE : Hid (∀ (i : Int) W, Below w5.heap.size w5 W → Calls Try.prog 19 #[.int .i64 i, .slice A1 t.length c1] W fun e w' => e = .returned (.int .i64 (seen i t : Nat)) ∧ Below W.heap.size W w') := Lib.hid fun i W hb => Seen_is i t _ W (X6.out.2.below hb) (by omega) (by omega)
      have F1 := Lib.hid (told_at t j)
      have F2 := Lib.hid (seen_at t j)
      have F3 : Hid (told (t.length : Int) t = (inns t).length ∧ told 4611686018427387904 t = (inns t).length) := Lib.hid ⟨told_over (by omega), told_over (by omega)⟩
      clear hb5 BY X5
      generalize (inns (t.take j)).length = u3 at *
      generalize (outs (t.take j)).length = u4 at *
      generalize (inns t).length = ni at *
      go_wp2_with (first
        | (go_at_call 9; refine (alive_true w5).mono ?_; rintro e w6 ⟨rfl, hb6⟩; have Y6 := Lib.hid hb6; clear hb6)
        | (go_at_call 19; refine (SE.out _ w7 Y7.out).mono ?_; rw [F2.out]; rintro e w8 ⟨rfl, hb8⟩; have Y8 := Lib.hid (Y7.out.trans (hb8.mono Y7.out.size)); clear hb8)
        | (go_at_call 17; refine (TO.out _ w9 Y9.out).mono ?_; rw [F3.out.2]; rintro e w10 ⟨rfl, hb10⟩; have Y10 := Lib.hid (Y9.out.trans (hb10.mono Y9.out.size)); clear hb10)
        | (go_at_call 17; refine (TO.out _ w8 Y8.out).mono ?_; rw [F3.out.1]; rintro e w9 ⟨rfl, hb9⟩; have Y9 := Lib.hid (Y8.out.trans (hb9.mono Y8.out.size)); clear hb9)
        | (go_at_call 17; refine (TO.out _ w6 Y6.out).mono ?_; rw [F1.out]; rintro e w7 ⟨rfl, hb7⟩; have Y7 := Lib.hid (Y6.out.trans (hb7.mono Y6.out.size)); clear hb7))
      go_ret
      exact ⟨rfl, X6.out.1.trans (Y10.out.mono X6.out.1.size)⟩
end Go.Proofs.Ytchfiiiippnigaa
