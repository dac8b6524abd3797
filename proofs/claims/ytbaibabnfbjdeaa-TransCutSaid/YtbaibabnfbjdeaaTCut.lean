/-
  cuecardlaw05.TransCut answers true for all events and every place.
  Conditions: times within an int64.
-/
import Derived.Test.YtbaibabnfbjdeaaTPuts
import Derived.Test.YtbaibabnfbjdeaaEvTake
import Derived.Test.YtbaibabnfbjdeaaUpto
namespace Go.Proofs.Ytbaibabnfbjdeaa
open Go.RowKit

/-- Cut off where an event ends. -/
theorem dec_cut_at {l : List PE} (h : Right 0 0 l) {i k : Nat} (_hi : i ≤ l.length) (e : k = (trEnc (l.take i) false).length) : dec ((trEnc l false).take k) = ⟨l.take i, false, 0, 0⟩ := by
  have e0 : trEnc l false = hd ++ encs 0 l := by simp [trEnc, fin]
  have e1 : (trEnc l false).take k = trEnc (l.take i) false := by
    rw [e, trEnc_len, e0, show 4 = hd.length from rfl, List.take_length_add_append, encs_take]
    simp [trEnc, fin]
  rw [e1]
  exact dec_enc false (right_take i h)

set_option maxRecDepth 100000 in
set_option maxHeartbeats 4000000 in
theorem cut_true (v : Value) (l : List Ev) (cut : Int) (w : World) (h : Evs w v l) (ht : ∀ a ∈ l, In64 a.time) :
    Calls Try.prog 7 #[v, .int .i64 cut] w fun e w' => e = .returned (.bool true) ∧ Below w.heap.size w w' := by
  have HE := Lib.hid h
  obtain ⟨A, c, rfl, -⟩ := h.form
  have hm := h.max
  by_cases hc : chkAll (pes l) = 0
  · by_cases hbig : 200 < l.length
    · have HC := Lib.hid hc
      clear h ht hc
      go_enter Try.func7, Try.ntmps7
      go_wp2_with fail
      refine (RCheck_any _ l _ HE.out).mono ?_
      rw [HC.out]
      rintro e W4 ⟨rfl, rfl⟩
      go_wp2_with fail
      refine (alive_true _).mono ?_
      rintro e W3 ⟨rfl, hb3⟩
      have HB3 := Lib.hid hb3
      clear hb3
      go_wp2_with fail
      go_ret
      exact ⟨rfl, HB3.out⟩
    · have hr := chkAll_right hc (pes_time ht)
      have HR := Lib.hid hr
      have HC := Lib.hid hc
      have hL := trEnc_le false hr
      have HX := Lib.hid (trEnc_lt false (evs_byte h))
      obtain ⟨X, hX⟩ : ∃ X, X = trEnc (pes l) false := ⟨_, rfl⟩
      rw [← hX] at hL HX
      have HXX := Lib.hid hX
      obtain ⟨k, hk, hkl⟩ : ∃ k : Nat, (IntKind.u64.wrap cut).tmod ((X.length : Int) + 1) = (k : Int) ∧ k ≤ X.length := by
        have h0 : 0 ≤ (IntKind.u64.wrap cut).tmod ((X.length : Int) + 1) := Int.tmod_nonneg _ (by rw [IntKind.wrap_u64]; omega)
        have h1 : (IntKind.u64.wrap cut).tmod ((X.length : Int) + 1) < (X.length : Int) + 1 := Int.tmod_lt_of_pos _ (by omega)
        exact ⟨((IntKind.u64.wrap cut).tmod ((X.length : Int) + 1)).toNat, by omega, by omega⟩
      have hcut := dec_cut hr (k := k) (by rw [← hX]; exact hkl)
      rw [← hX] at hcut
      have hl2 : l.length ≤ 200 := by omega
      have hb2 : decide ((200 : Int) < (l.length : Int)) = false := by simp; omega
      clear h ht hc hr hX hbig
      have HCU := Lib.hid hcut
      clear hcut
      go_enter Try.func7, Try.ntmps7
      go_wp2_with fail
      refine (RCheck_any _ l _ HE.out).mono ?_
      rw [HC.out]
      rintro e W4 ⟨rfl, rfl⟩
      go_wp2_with fail
      refine (REncode_any (.slice A l.length c) l false _ HE.out HR.out).mono ?_
      rw [← HXX.out]
      rintro e W1 ⟨A1, c1, g1, rfl, hr1, -, hb1⟩
      have HB1 := Lib.hid hb1
      obtain ⟨A2, hsl, hr2⟩ := run_upto hr1.rd hkl
      have HR2 := Lib.hid hr2
      clear hr1 hb1 hr2
      go_wp2_with fail
      refine (Decode_any A2 k c1 (X.take k) _ HR2.out (fun b hb => HX.out b (List.mem_of_mem_take hb)) (by omega)).mono ?_
      clear hsl hk
      rcases HCU.out with ⟨i0, hi0, hk0, hD⟩ | ⟨hno, p, hD, hp⟩
      · rw [hD]
        rintro e W2 ⟨A3, c3, l3, rfl, hp3, hE3, hb2⟩
        simp only at hp3
        have HP3 := Lib.hid hp3
        have HE3 := Lib.hid hE3
        have HB2 := Lib.hid (below2 HB1.out hb2)
        have HK0 := Lib.hid (And.intro hi0 hk0)
        clear hp3 hE3 hb2 HB1 hi0 hk0 hD HCU
        go_wp2_with fail
        go_loopw [10, 43] (fun wh i wr => ∃ (j : Nat), j ≤ l.length + 1 ∧ i = .int .i64 j ∧ wh = .int .i64 ((j - 1 : Nat) : Int) ∧ Hid (Below (W2.alloc (.cells #[.slice A3 l3.length c3, .bool false] 24)).heap.size (W2.alloc (.cells #[.slice A3 l3.length c3, .bool false] 24)) wr ∧ ∀ i, i < j → k ≠ (trEnc ((pes l).take i) false).length)) (fun _ i _ => l.length + 1 - (intOf i).toNat)
        case atStart => exact ⟨0, by omega, rfl, rfl, Below.refl _ _, fun i hi => by omega⟩
        case round =>
          obtain ⟨j, hj, rfl, rfl, HW⟩ := hrel
          by_cases hlt : j < l.length + 1
          · obtain ⟨A5, hsl5, hE5⟩ := run_firstE HE.out (show j ≤ l.length by omega)
            have HBw := Lib.hid (below2 (below2 HB2.out ((Below.refl _ W2).alloc (Nat.le_refl _) _)) HW.out.1)
            have HE5 : Hid (Evs w (.slice A5 j c) (l.take j)) := hE5
            have HRj : Hid (Right 0 0 (pes (l.take j))) := by rw [pes_takeL]; exact right_take j HR.out
            have hlt' : (j : Int) < (l.length : Int) + 1 := by omega
            clear hE5
            go_wp2_with fail
            refine (REncode_any (.slice A5 j c) (l.take j) false _ (HE5.out.below HBw.out) HRj.out).mono ?_
            rintro e W6 ⟨A6, c6, g6, rfl, -, -, hb6⟩
            rw [pes_takeL]
            have hb2w := below2 HW.out.1 hb6
            have HBw6 := Lib.hid (below2 HBw.out hb6)
            have bu := (Blk.new W2 24 #[.slice A3 l3.length c3, .bool false]).below hb2w (by simp)
            have HBU := Lib.hid bu
            have HE36 := Lib.hid (HE3.out.below (below2 ((Below.refl _ W2).alloc (Nat.le_refl _) _) hb2w))
            have HW6 := Lib.hid hb2w
            clear hb6 hb2w bu HBw
            by_cases heq : k = (trEnc ((pes l).take j) false).length
            · have hq : (((trEnc ((pes l).take j) false).length : Int) == (k : Int)) = true := by rw [heq]; simp
              have HSM : Hid ((false == false && decide (pes l3 = pes (l.take j))) = true) := by
                have h1 := dec_cut_at HR.out (i := j) (by rw [pes_len]; omega) heq
                have h2 := dec_cut_at HR.out (i := i0) HK0.out.1 HK0.out.2
                rw [h1] at h2
                injection h2 with h2
                show _ = _
                rw [pes_takeL, HP3.out, h2]
                simp
              have hD : Below W6.heap.size W6 W6.drew := ⟨rfl, rfl, rfl, Nat.le_refl _, fun _ _ => rfl⟩
              have x0 : ∀ V, Below W6.heap.size W6 V → V.cell? ⟨W2.heap.size, 0, none⟩ = some (.slice A3 l3.length c3) := fun V hV => (HBU.out.below hV HBU.out.lt).cell 0
              have x1 : ∀ V, Below W6.heap.size W6 V → V.cell? ⟨W2.heap.size, 1, none⟩ = some (.bool false) := fun V hV => (HBU.out.below hV HBU.out.lt).cell 1
              clear heq
              go_wp2_with fail
              go_region_held (fun V => Below W6.heap.size W6 V) (first | exact hD | exact hA' | exact hP' | assumption) (first
                | (go_at_call 12; refine (alive_true _).mono ?_; rintro e wA ⟨rfl, hA⟩; have hA' := Below.undrew hA; clear hA)
                | (go_at_call 16; refine (tsame_any (.slice A3 l3.length c3) (.slice A5 j c) l3 (l.take j) false false _ (HE36.out.below hA') (HE5.out.below (below2 HBw6.out hA'))).mono ?_; rw [HSM.out]; rintro e wP ⟨rfl, hP⟩; have hP' := below2 hA' hP; clear hP))
              all_goals go_wp2
              all_goals go_ret
              all_goals exact ⟨rfl, below2 HBw6.out hP'⟩
            · have hq : (((trEnc ((pes l).take j) false).length : Int) == (k : Int)) = false := by simp; omega
              have HNE := Lib.hid heq
              clear heq
              go_wp2_with fail
              go_roundw
              case rel => exact ⟨j + 1, by omega, by go_num, by go_num, HW6.out, fun i hi => by
                rcases Nat.lt_or_ge i j with h1 | h1
                · exact HW.out.2 i h1
                · obtain rfl : i = j := by omega
                  exact HNE.out⟩
              case measure => simp [intOf]; omega
          · exact absurd HK0.out.2 (HW.out.2 i0 (by have := HK0.out.1; rw [pes_len] at this; omega))
      · rw [hD]
        rintro e W2 ⟨A3, c3, l3, rfl, hp3, hE3, hb2⟩
        simp only at hp3
        have hl3 : l3 = [] := List.eq_nil_of_length_eq_zero (by rw [← pes_len, hp3]; rfl)
        subst hl3
        have HB2 := Lib.hid (below2 HB1.out hb2)
        have HNO := Lib.hid hno
        clear hp3 hE3 hb2 HB1 hno hD HCU
        go_wp2_with fail
        go_loopw [10, 43] (fun wh i wr => ∃ (j : Nat), j ≤ l.length + 1 ∧ i = .int .i64 j ∧ wh = .int .i64 ((j - 1 : Nat) : Int) ∧ Hid (Below (W2.alloc (.cells #[.slice A3 0 c3, .bool false] 24)).heap.size (W2.alloc (.cells #[.slice A3 0 c3, .bool false] 24)) wr)) (fun _ i _ => l.length + 1 - (intOf i).toNat)
        case atStart => exact ⟨0, by omega, rfl, rfl, Below.refl _ _⟩
        case round =>
          obtain ⟨j, hj, rfl, rfl, HW⟩ := hrel
          have HBw := Lib.hid (below2 (below2 HB2.out ((Below.refl _ W2).alloc (Nat.le_refl _) _)) HW.out)
          by_cases hlt : j < l.length + 1
          · obtain ⟨A5, hsl5, hE5⟩ := run_firstE HE.out (show j ≤ l.length by omega)
            have HE5 : Hid (Evs w (.slice A5 j c) (l.take j)) := hE5
            have HRj : Hid (Right 0 0 (pes (l.take j))) := by rw [pes_takeL]; exact right_take j HR.out
            have hlt' : (j : Int) < (l.length : Int) + 1 := by omega
            clear hE5
            go_wp2_with fail
            refine (REncode_any (.slice A5 j c) (l.take j) false _ (HE5.out.below HBw.out) HRj.out).mono ?_
            rintro e W6 ⟨A6, c6, g6, rfl, -, -, hb6⟩
            rw [pes_takeL]
            have HW6 := Lib.hid (below2 HW.out hb6)
            have hq : (((trEnc ((pes l).take j) false).length : Int) == (k : Int)) = false := by
              have := HNO.out j (by rw [pes_len]; omega)
              simp; omega
            clear hb6
            go_wp2_with fail
            go_roundw
            case rel => exact ⟨j + 1, by omega, by go_num, by go_num, HW6.out⟩
            case measure => simp [intOf]; omega
          · obtain rfl : j = l.length + 1 := by omega
            have hj1 : ((l.length + 1 - 1 : Nat) : Int) = (l.length : Int) := by omega
            rw [hj1]
            clear hj1
            have hlt' : ¬ ((l.length + 1 : Nat) : Int) < (l.length : Int) + 1 := by omega
            go_wp2_with fail
            refine (alive_true _).mono ?_
            rintro e W7 ⟨rfl, hb7⟩
            have hb27 := below2 HW.out hb7
            have bu := (Blk.new W2 24 #[.slice A3 0 c3, .bool false]).below hb27 (by simp)
            have y0 : W7.cell? ⟨W2.heap.size, 0, none⟩ = some (.slice A3 0 c3) := bu.cell 0
            have HB7 := Lib.hid (below2 HBw.out hb7)
            clear hb7 hb27 bu
            go_wp2_with fail
            go_ret
            exact ⟨rfl, HB7.out⟩
  · have hne : (chkAll (pes l) != 0) = true := by simpa using hc
    clear h ht hc
    go_enter Try.func7, Try.ntmps7
    go_wp2_with fail
    refine (RCheck_any _ l _ HE.out).mono ?_
    rintro e W4 ⟨rfl, rfl⟩
    go_wp2_with fail
    refine (alive_true _).mono ?_
    rintro e W3 ⟨rfl, hb3⟩
    have HB3 := Lib.hid hb3
    clear hb3
    go_wp2_with fail
    go_ret
    exact ⟨rfl, HB3.out⟩
end Go.Proofs.Ytbaibabnfbjdeaa
