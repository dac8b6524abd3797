/-
  The law TurnBack: turns' Outs and Ins, one behind the other, are what each said; the turns of turns' events are these turns.
  Conditions: events and bytes together at most 1048576.
-/
import Derived.Test.YtchfiiiippnigaaTnAlive
import Derived.Test.YtchfiiiippnigaaEvRef
import Derived.Test.YtchfiiiippnigaaStrCat
namespace Go.Proofs.Ytchfiiiippnigaa
open Go.RowKit

theorem outs_cat {t : List Tn} {k : Nat} (hk : k < t.length) : outs (t.take (k + 1)) = outs (t.take k) ++ (t[k]).out := by rw [List.take_succ_eq_append_getElem hk, outs_append, outs_one]
theorem inns_cat {t : List Tn} {k : Nat} (hk : k < t.length) : inns (t.take (k + 1)) = inns (t.take k) ++ (t[k]).inn := by rw [List.take_succ_eq_append_getElem hk, inns_append, inns_one]

set_option maxRecDepth 100000 in
set_option maxHeartbeats 8000000 in
theorem back_true (v : Value) (L : List Ev) (w : World) (h : Evs w v L) (hw : L.length + whole (pes L) ≤ 1048576) :
    Calls Try.prog 5 #[v] w fun e w' => e = .returned (.bool true) ∧ Below w.heap.size w w' := by
  have HO := Lib.hid (Of_is v L w h (by omega))
  have HE := Lib.hid h
  obtain ⟨hby, hl, ho, hi⟩ := turns_small h hw
  have hs := turns_sound (pes L)
  have HI : Hid (byts 0 (pes L) = outs (turns (pes L)) ∧ byts 1 (pes L) = inns (turns (pes L))) := Lib.hid ⟨(turns_outs _).symm, (turns_inns _).symm⟩
  have HWL : Hid (whole (pes L) ≤ 1048576) := Lib.hid (by omega)
  clear h hw
  generalize turns (pes L) = t at *
  have HSB : Hid (turns (tevs t) = t) := Lib.hid (turns_back hs)
  have HFW : Hid ((tevs t).length + whole (tevs t) ≤ 4194304) := Lib.hid (by
    have h1 := tevs_few t
    have h2 := whole_tevs t
    omega)
  have HSO : Hid (TnBytes t ∧ (∀ j (h : j < t.length), (0 < j → 0 < (t[j]).out.length) ∧ (j + 1 < t.length → 0 < (t[j]).inn.length) ∧ 0 < (t[j]).out.length + (t[j]).inn.length)) := Lib.hid ⟨hby, fun j h =>
    ⟨fun h0 => List.length_pos_iff.2 (hs.out j _ (List.getElem?_eq_getElem h) h0), fun h1 => List.length_pos_iff.2 (hs.inn j _ (List.getElem?_eq_getElem h) h1), by
      rcases hs.any _ (List.getElem_mem h) with k | k
      · have := List.length_pos_iff.2 k; omega
      · have := List.length_pos_iff.2 k; omega⟩⟩
  clear hby hs
  go_enter Try.func5, Try.ntmps5
  go_wp2_with fail
  refine HO.out.mono ?_
  rintro e w1 ⟨A1, c1, rfl, ht, hb1⟩
  have X1 := Lib.hid (And.intro hb1 ht)
  clear hb1 ht HO
  have Z0 : Hid (str (outs (t.take 0)) = ⟨#[]⟩ ∧ str (inns (t.take 0)) = ⟨#[]⟩) := Lib.hid ⟨rfl, rfl⟩
  go_wp2
  go_loopw [4, 5, 12] (fun a b i wr => ∃ j : Nat, j ≤ t.length ∧ i = .int .i64 j ∧ a = .string (str (outs (t.take j))) ∧ b = .string (str (inns (t.take j))) ∧ Hid (Below w1.heap.size w1 wr)) (fun _ _ i _ => t.length - (intOf i).toNat)
  case atStart => exact ⟨0, by omega, rfl, by rw [Z0.out.1], by rw [Z0.out.2], Lib.hid (Below.refl _ _)⟩
  case round =>
    obtain ⟨j, hj, rfl, rfl, rfl, HB⟩ := hrel
    by_cases hlt : j < t.length
    · obtain ⟨b1, o1, B1, d1, B2, d2, rfl, -, y1, y2, r1, r2⟩ := (X1.out.2.below HB.out).at_ hlt
      have hI := inns_cat hlt
      have hO := outs_cat hlt
      have hI2 := inns_take t (j + 1)
      have hO2 := outs_take t (j + 1)
      rw [hI, List.length_append] at hI2
      rw [hO, List.length_append] at hO2
      obtain ⟨f1, f2, f3⟩ := HSO.out.2 j hlt
      have hc1 : str (outs (t.take j)) ++ str (t[j]).out = str (outs (t.take (j + 1))) := by rw [str_app, hO]
      have hc2 : str (inns (t.take j)) ++ str (t[j]).inn = str (inns (t.take (j + 1))) := by rw [str_app, hI]
      have hz1 : (str (outs (t.take j))).size + (str (t[j]).out).size ≤ 9223372036854775807 := by rw [str_len, str_len]; omega
      have hz2 : (str (inns (t.take j))).size + (str (t[j]).inn).size ≤ 9223372036854775807 := by rw [str_len, str_len]; omega
      have S : ∀ o, (convert 31 9 (.slice B1 (t[j]).out.length d1)).run Try.prog (wr.alloc o) = .ok (.string (str (t[j]).out)) (wr.alloc o) ∧ (convert 31 9 (.slice B2 (t[j]).inn.length d2)).run Try.prog (wr.alloc o) = .ok (.string (str (t[j]).inn)) (wr.alloc o) := fun o =>
        ⟨run_str (r1.1.kept ((Below.refl _ wr).alloc (Nat.le_refl _) o)), run_str (r2.1.kept ((Below.refl _ wr).alloc (Nat.le_refl _) o))⟩
      have s1 := fun o => (S o).1
      have s2 := fun o => (S o).2
      have hb1 : (t[j]).out.length ≤ 1048576 := by omega
      have hb2 : (t[j]).inn.length ≤ 1048576 := by omega
      clear S r1 r2 hI hO hI2 hO2
      generalize (t[j]).out = xo at *
      generalize (t[j]).inn = xi at *
      generalize hu1 : outs (t.take (j + 1)) = u1 at *
      generalize hu2 : inns (t.take (j + 1)) = u2 at *
      generalize outs (t.take j) = u3 at *
      generalize inns (t.take j) = u4 at *
      have U := Lib.hid (And.intro hu1 hu2)
      have e3 : ((xo.length : Int) + (xi.length : Int) == 0) = false := beq_eq_false_iff_ne.2 (by omega)
      generalize xo.length = lo at *
      generalize xi.length = li at *
      clear hu1 hu2
      by_cases h0 : 0 < j
      · have q1 : decide (0 < j) = true := by simpa using h0
        have q2 : ((lo : Int) == 0) = false := beq_eq_false_iff_ne.2 (by have := f1 h0; omega)
        by_cases h1 : j + 1 < t.length
        · have q3 : decide ((j : Int) + 1 < (t.length : Int)) = true := by simp; omega
          have q4 : ((li : Int) == 0) = false := beq_eq_false_iff_ne.2 (by have := f2 h1; omega)
          clear h0 h1 f1 f2
          go_wp2
          go_roundw
          case rel => exact ⟨j + 1, by omega, by go_num, by rw [U.out.1], by rw [U.out.2], Lib.hid (HB.out.alloc HB.out.size _)⟩
          case measure => simp [intOf]; omega
        · have q3 : decide ((j : Int) + 1 < (t.length : Int)) = false := by simp; omega
          clear h0 h1 f1 f2
          go_wp2
          go_roundw
          case rel => exact ⟨j + 1, by omega, by go_num, by rw [U.out.1], by rw [U.out.2], Lib.hid (HB.out.alloc HB.out.size _)⟩
          case measure => simp [intOf]; omega
      · have q1 : decide (0 < j) = false := by simpa using h0
        by_cases h1 : j + 1 < t.length
        · have q3 : decide ((j : Int) + 1 < (t.length : Int)) = true := by simp; omega
          have q4 : ((li : Int) == 0) = false := beq_eq_false_iff_ne.2 (by have := f2 h1; omega)
          clear h0 h1 f1 f2
          go_wp2
          go_roundw
          case rel => exact ⟨j + 1, by omega, by go_num, by rw [U.out.1], by rw [U.out.2], Lib.hid (HB.out.alloc HB.out.size _)⟩
          case measure => simp [intOf]; omega
        · have q3 : decide ((j : Int) + 1 < (t.length : Int)) = false := by simp; omega
          clear h0 h1 f1 f2
          go_wp2
          go_roundw
          case rel => exact ⟨j + 1, by omega, by go_num, by rw [U.out.1], by rw [U.out.2], Lib.hid (HB.out.alloc HB.out.size _)⟩
          case measure => simp [intOf]; omega
    · obtain rfl : j = t.length := by omega
      rw [List.take_length]
      have X2 := Lib.hid (And.intro (X1.out.1.trans (HB.out.mono X1.out.1.size)) (X1.out.2.below HB.out))
      have BY : Hid (∀ W, Below w.heap.size w W → Calls Try.prog 21 #[.int .i64 0, v] W (BytTo W (outs t)) ∧ Calls Try.prog 21 #[.int .i64 1, v] W (BytTo W (inns t))) := Lib.hid fun W hb => by
        have h1 := RBytes_any 0 v L W (HE.out.below hb) HWL.out
        have h2 := RBytes_any 1 v L W (HE.out.below hb) HWL.out
        rw [HI.out.1] at h1
        rw [HI.out.2] at h2
        exact ⟨h1, h2⟩
      have hbo : ((str (outs t)).toList != (str (outs t)).toList) = false := by simp
      have hbi : ((str (inns t)).toList != (str (inns t)).toList) = false := by simp
      clear HB X1 HE HWL HI
      go_wp2_with (first
        | (go_at_call 21; (with_reducible refine (BY.out wr X2.out.1).1.mono ?_); rintro e w3 ⟨A3, c3, g3, rfl, hr3, -, hb3⟩; have X3 := Lib.hid (And.intro (X2.out.1.trans (hb3.mono X2.out.1.size)) (X2.out.2.below hb3)); have sb0 := run_str hr3.rd; clear hr3 hb3)
        | (go_at_call 21; (with_reducible refine (BY.out w3 X3.out.1).2.mono ?_); rintro e w4 ⟨A4, c4, g4, rfl, hr4, -, hb4⟩; have X4 := Lib.hid (And.intro (X3.out.1.trans (hb4.mono X3.out.1.size)) (X3.out.2.below hb4)); have sb1 := run_str hr4.rd; clear hr4 hb4)
        | (go_at_call 9; (with_reducible refine (alive_true w4).mono ?_); rintro e w5 ⟨rfl, hb5⟩; have X5 := Lib.hid (And.intro (X4.out.1.trans (hb5.mono X4.out.1.size)) (X4.out.2.below hb5)); have E1 := Lib.hid (Events_is t _ w5 X5.out.2 HSO.out.1 hl (by omega)); clear hb5)
        | (go_at_call 15; (with_reducible refine E1.out.mono ?_); rintro e w6 ⟨A6, c6, l6, rfl, hl6, hp6, hb6⟩; have X6 := Lib.hid (And.intro (X5.out.1.trans (hb6.mono X5.out.1.size)) (X5.out.2.below hb6)); have O6 := Lib.hid (Of_is _ l6 w6 hl6 (by rw [← pes_len, hp6]; exact HFW.out)); rw [hp6, HSB.out] at O6; clear hl6 hp6 hb6)
        | (go_at_call 12; (with_reducible refine O6.out.mono ?_); rintro e w7 ⟨A7, c7, rfl, ht7, hb7⟩; have X7 := Lib.hid (And.intro (X6.out.1.trans (hb7.mono X6.out.1.size)) (And.intro (X6.out.2.below hb7) ht7)); clear ht7 hb7)
        | (go_at_call 11; (with_reducible refine (RSame_eq t _ _ w7 X7.out.2.2 X7.out.2.1 (by omega)).mono ?_); rintro e w8 ⟨rfl, hb8⟩; have X8 := Lib.hid (X7.out.1.trans (hb8.mono X7.out.1.size)); clear hb8))
      go_ret
      exact ⟨rfl, X8.out⟩
end Go.Proofs.Ytchfiiiippnigaa
