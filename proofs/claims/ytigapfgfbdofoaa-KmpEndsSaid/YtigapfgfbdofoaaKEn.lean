/-
  The law KmpEnds: a search says that its pattern ends just where a place that is told ends; behind a Reset what was seen ahead plays no part.
  Conditions: the number is an int.
-/
import Derived.Test.YtigapfgfbdofoaaKSeek
namespace Go.Proofs.Ytigapfgfbdofoaa
open Go.RowKit

set_option maxRecDepth 100000 in
set_option maxHeartbeats 4000000 in
theorem ends_true (A : Option Addr) (n c : Nat) (l : List Int) (B : Option Addr) (m d : Nat) (p : List Int) (cut : Int) (w : World) (ht : Rd w (.slice A n c) (iv l)) (hp : Rd w (.slice B m d) (iv p)) (_ : -9223372036854775808 ≤ cut ∧ cut ≤ 9223372036854775807) :
    Calls Try.prog 8 #[.slice A n c, .slice B m d, .int .i64 cut] w fun e w' => e = .returned (.bool true) ∧ Below w.heap.size w w' := by
  obtain ⟨i0, hi0, hz0, hz1, hz2⟩ := info_parts int_info
  obtain ⟨hnl, -⟩ := ht.ints
  obtain ⟨hml, -⟩ := hp.ints
  have HT := Lib.hid (And.intro ht hp)
  clear ht hp
  by_cases hg : n ≤ 100 ∧ m ≤ 100 ∧ m ≠ 0
  case neg =>
    clear hi0 hz0 hz1 hz2
    go_enter Try.func8, Try.ntmps8
    go_wp2_with fail
    refine (alive_true w).mono ?_
    rintro e w1 ⟨rfl, hb1⟩
    have X1 := Lib.hid hb1
    have G := great_two A B n c m d w1
    clear hb1
    by_cases hg2 : n ≤ 100 ∧ m ≤ 100
    case' neg =>
      rw [show (decide (100 < n) || decide (100 < m)) = true by simp; omega] at G
      have HG := Lib.hid G
      clear G hnl hml
    case' pos =>
      obtain rfl : m = 0 := by omega
      rw [show (decide (100 < n) || decide (100 < 0)) = false by simp; omega] at G
      have HG := Lib.hid G
      clear G hnl hml
    all_goals
      go_wp2_with fail
      refine HG.out.mono ?_
      rintro e w2 ⟨rfl, hw2⟩
      have X2 : Hid (Below w.heap.size w w2) := Lib.hid (by rw [← hw2]; exact X1.out.alloc X1.out.size _)
      clear hw2 HG
      go_wp2_with fail
      refine (alive_true w2).mono ?_
      rintro e w3 ⟨rfl, hb3⟩
      have X3 := Lib.hid (X2.out.trans (hb3.mono X2.out.size))
      clear hb3
      go_wp2
      go_ret
      exact ⟨rfl, X3.out⟩
  case pos =>
    obtain ⟨hg1, hg2, hg3⟩ := hg
    obtain ⟨k, hk, hkl⟩ : ∃ k : Nat, (IntKind.u64.wrap cut).tmod ((n : Int) + 1) = (k : Int) ∧ k ≤ n := by
      have h0 : 0 ≤ (IntKind.u64.wrap cut).tmod ((n : Int) + 1) := Int.tmod_nonneg _ (by rw [IntKind.wrap_u64]; omega)
      have h1 : (IntKind.u64.wrap cut).tmod ((n : Int) + 1) < (n : Int) + 1 := Int.tmod_lt_of_pos _ (by omega)
      exact ⟨((IntKind.u64.wrap cut).tmod ((n : Int) + 1)).toNat, by omega, by omega⟩
    have z0 : ((m : Int) == 0) = false := beq_eq_false_iff_ne.2 (by omega)
    obtain ⟨A1, hs1, hr1⟩ := run_upto_i HT.out.1 hkl
    obtain ⟨A2, c2, N2, hs2, hr2, hN2⟩ := run_from_i HT.out.1 hkl
    have HR := Lib.hid (And.intro hr1 hr2)
    have HNL := Lib.hid (And.intro hnl hml)
    have HK := Lib.hid hk
    clear hr1 hr2 hnl hml
    go_enter Try.func8, Try.ntmps8
    go_wp2_with fail
    refine (alive_true w).mono ?_
    rintro e w1 ⟨rfl, hb1⟩
    have X1 := Lib.hid hb1
    have G := great_two A B n c m d w1
    rw [show (decide (100 < n) || decide (100 < m)) = false by simp; omega] at G
    have HG := Lib.hid G
    clear hb1 G
    go_wp2_with fail
    refine HG.out.mono ?_
    rintro e w2 ⟨rfl, hw2⟩
    have X2 : Hid (Below w.heap.size w w2) := Lib.hid (by rw [← hw2]; exact X1.out.alloc X1.out.size _)
    clear hw2 HG
    have HW := Lib.hid (New_i B m d p w2 (HT.out.2.kept X2.out) (by have := HNL.out; omega))
    go_wp2_with fail
    refine HW.out.mono ?_
    rintro e w3 ⟨q, rfl, hsat, hb3⟩
    have X3 := Lib.hid (Seek.start X2.out hsat hb3)
    clear hsat hb3 HW
    generalize w3.heap.size = z at X3
    go_wp2
    go_loopw [44] (fun i wr => ∃ j : Nat, j ≤ k ∧ i = .int .i64 j ∧ Hid (Seek w z q p ((l.take k).take j) (.slice none 0 0) [] wr)) (fun i _ => k - (intOf i).toNat)
    case atStart => exact ⟨0, Nat.zero_le _, rfl, X3⟩
    case round =>
      obtain ⟨j, hj, rfl, HS⟩ := hrel
      by_cases hlt : j < k
      · have hkl' : (l.take k).length = k := by have := HNL.out; rw [List.length_take]; omega
        obtain ⟨b, o, rfl, hx⟩ := (HR.out.1.kept HS.out.below).ints.2.2 (by omega)
        have y := hx j (by omega)
        have hjl : j < (l.take k).length := by omega
        rw [List.getElem?_eq_getElem hjl, Option.getD_some] at y
        have F := Feed_at ((l.take k).take j) (l.take k)[j] HS.out.at_ (by have := HNL.out; omega)
        have hsn := take_snoc (l.take k) hjl
        have HF := Lib.hid F
        have HSN := Lib.hid hsn
        clear hx F hsn
        generalize (l.take k)[j] = x at *
        go_wp2_with fail
        refine HF.out.mono ?_
        rintro e w4 hf
        have HS4 := Lib.hid (HS.out.fed hf)
        obtain ⟨rfl, -⟩ := hf
        rw [HSN.out] at HS4
        go_wp2
        go_roundw
        case rel => exact ⟨j + 1, by omega, by go_num, HS4⟩
        case measure => simp [intOf]; omega
      · obtain rfl : j = k := by omega
        have HRS := Lib.hid (Reset_at HS.out.at_)
        go_wp2_with fail
        refine HRS.out.mono ?_
        rintro e w4 ⟨rfl, hs4, ho4⟩
        have HS4 := Lib.hid (HS.out.turn (s' := []) hs4 (longest_nil p).symm ho4)
        clear hs4 ho4 HRS HS
        have HS5 : Hid (Seek w z q p ((l.drop j).take 0) (.slice none 0 0) (ni (placesTo (l.drop j) p 0)) w4) := Lib.hid (by rw [placesTo_none _ (by have := HNL.out; omega)]; exact HS4.out)
        clear HS4
        go_wp2
        go_loopw [11, 58] (fun v i wr => ∃ t : Nat, t ≤ N2 ∧ i = .int .i64 t ∧ Hid (Seek w z q p ((l.drop j).take t) v (ni (placesTo (l.drop j) p t)) wr)) (fun _ i _ => N2 - (intOf i).toNat)
        case atStart => exact ⟨0, Nat.zero_le _, rfl, HS5⟩
        case round =>
          obtain ⟨t, ht, rfl, HT6⟩ := hrel
          have hdl : (l.drop j).length = N2 := by have := HNL.out; rw [List.length_drop]; omega
          have hpl := placesTo_len (l.drop j) p t
          obtain ⟨A5, c5, rfl⟩ := HT6.out.form
          rw [ni_len] at HT6 ⊢
          by_cases hlt2 : t < N2
          · obtain ⟨b, o, rfl, hx⟩ := (HR.out.2.kept HT6.out.below).ints.2.2 (by omega)
            have y := hx t (by omega)
            have htl : t < (l.drop j).length := by omega
            rw [List.getElem?_eq_getElem htl, Option.getD_some] at y
            have F := Feed_at ((l.drop j).take t) (l.drop j)[t] HT6.out.at_ (by have := HNL.out; omega)
            have hsn := take_snoc (l.drop j) htl
            have HF := Lib.hid F
            have HSN := Lib.hid hsn
            clear hx F hsn
            generalize (l.drop j)[t] = x at *
            by_cases hit : longest ((l.drop j).take (t + 1)) p = p.length
            · obtain ⟨hm1, hnext⟩ := placesTo_hit htl hit
              have hmm : m = p.length := HNL.out.2
              have HN := Lib.hid (And.intro hnext (And.intro hit hmm))
              have hval : (t : Int) + 1 - (m : Int) = ((t + 1 - p.length : Nat) : Int) := by omega
              have HV := Lib.hid hval
              clear hnext hit hmm hval hdl
              go_wp2_with fail
              refine HF.out.mono ?_
              rintro e w5 hf
              have HS6 := Lib.hid (HT6.out.fed hf)
              rw [HSN.out] at HS6
              obtain ⟨rfl, -⟩ := hf
              rw [show decide (longest ((l.drop j).take t ++ [x]) p = p.length) = true by rw [HSN.out]; simpa using HN.out.2.1]
              obtain ⟨go, hrow, hgo, hsat, hbel, hzz⟩ := HS6.out
              have X := Lib.hid (And.intro hrow (And.intro hgo (And.intro hsat (And.intro hbel hzz))))
              clear hrow hgo hsat hbel hzz HF HS6 HT6
              go_wp2_with (at_builtin; refine wpList_append_row _ rfl (.tmp 66) (.tmp 72) _ rfl 3 i0 _ 8 Try.underlying22 hi0 hz0 hz1 hz2 rfl go _ (iv (ni (placesTo (l.drop j) p t))) rfl (X.out.1.alloc _) _ [.int .i64 ((t : Int) + 1 - (m : Int))] rfl (Rd.lit w5 3 #[.int .i64 ((t : Int) + 1 - (m : Int))] 1 rfl (by omega) (by omega) (by simp [Value.oneCell'])) (by rw [iv_len, ni_len]; simp only [maxLen]; simp; omega) (by rw [iv_len, ni_len]; simp; omega) ?_; intro B' d' w7 gn hrow' hgr hgn; simp only [iv_len, ni_len] at hrow' ⊢; have Y := Lib.hid (And.intro hrow' (And.intro hgr hgn)); clear hrow' hgr hgn)
              go_roundw
              case rel =>
                refine ⟨t + 1, by omega, by go_num, Lib.hid ?_⟩
                obtain ⟨hrow, hgo, hsat, hbel, hzz⟩ := X.out
                have := Seek.grown (W := w5.alloc (.cells #[.int .i64 ((t : Int) + 1 - (m : Int))] 3)) (xs := ni (placesTo (l.drop j) p t)) (ys := [(t : Int) + 1 - (m : Int)]) hgo (hsat.alloc _) rfl (hbel.alloc hbel.size _) (by simp; omega) Y.out.1 Y.out.2.1 Y.out.2.2
                rw [HN.out.1, ni_snoc, ← HV.out]
                simpa using this
              case measure => simp [intOf]; omega
            · have HN := Lib.hid (And.intro (placesTo_miss htl hit) hit)
              clear hit
              go_wp2_with fail
              refine HF.out.mono ?_
              rintro e w5 hf
              have HS6 := Lib.hid (HT6.out.fed hf)
              rw [HSN.out] at HS6
              obtain ⟨rfl, -⟩ := hf
              rw [show decide (longest ((l.drop j).take t ++ [x]) p = p.length) = false by rw [HSN.out]; simpa using HN.out.2]
              go_wp2
              go_roundw
              case rel => exact ⟨t + 1, by omega, by go_num, Lib.hid (by rw [HN.out.1]; exact HS6.out)⟩
              case measure => simp [intOf]; omega
          · obtain rfl : t = N2 := by omega
            have HC := Lib.hid (all_i A2 B t c2 m d (l.drop j) p (by omega) (by have := HNL.out; omega) wr (HR.out.2.kept HT6.out.below) (HT.out.2.kept HT6.out.below))
            have HPA : Hid (placesTo (l.drop j) p t = places (l.drop j) p) := Lib.hid (by rw [← hdl]; exact placesTo_all _ _)
            rw [HPA.out] at HT6 hpl ⊢
            go_wp2_with fail
            refine HC.out.mono ?_
            rintro e w6 h6
            obtain ⟨A6, c6, -, rfl, -⟩ := id h6
            obtain ⟨-, r6, hb6⟩ := h6.rd
            have X6 := Lib.hid (HT6.out.below.trans (hb6.mono HT6.out.below.size))
            have HE := Lib.hid (Same_eq _ _ _ _ _ _ _ w6 (HT6.out.rd.kept hb6) r6 (by rw [ni_len]; omega))
            rw [ni_len] at HE ⊢
            clear h6 r6 hb6 HC
            go_wp2_with fail
            refine HE.out.mono ?_
            rintro e w7 ⟨rfl, nd7, hw7⟩
            have X7 := Lib.hid (quiet_on X6.out hw7)
            clear hw7
            go_wp2
            go_ret
            exact ⟨rfl, X7.out⟩
end Go.Proofs.Ytigapfgfbdofoaa
