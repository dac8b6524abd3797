/-
  cuecardlaw04.EventMerged answers true for all events.
  Conditions: events and bytes together at most 1048576.
-/
import Derived.Test.YtakcoplpmhgoiaaEParts
namespace Go.Proofs.Ytakcoplpmhgoiaa
open Go.RowKit

theorem sound_at {L l : List Ev} (hp : pes l = mrg (pes L)) {j : Nat} {a b : Ev} (ha : l[j]? = some a) (hb : l[j + 1]? = some b) : a.dir ≠ b.dir := by
  have h := (mrg_sound (pes L)).2 j a.pe b.pe
  rw [← hp] at h
  exact h (pes_at ha) (pes_at hb)
theorem Bytes_eq (dir : Int) (v : Value) (L : List Ev) (w : World) (bs : List Nat) (h : Evs w v L) (hw : L.length + whole (pes L) ≤ 1048576) (hb : byts dir (pes L) = bs) :
    Calls Try.prog 16 #[.int .i64 dir, v] w (BytTo w bs) := by
  rw [← hb]; exact Bytes_any dir v L w h (by omega) (data_le hw)

set_option maxRecDepth 100000 in
set_option maxHeartbeats 4000000 in
theorem merged_true (v : Value) (L : List Ev) (w : World) (h : Evs w v L) (hw : L.length + whole (pes L) ≤ 1048576) :
    Calls Try.prog 6 #[v] w fun e w' => e = .returned (.bool true) ∧ Below w.heap.size w w' := by
  obtain ⟨A, c, rfl, hle⟩ := h.form
  have HE := Lib.hid h
  clear h hle
  go_enter Try.func6, Try.ntmps6
  go_wp2_with fail
  refine (Merge_any _ L _ HE.out hw).mono ?_
  rintro e w1 ⟨AM, cM, gM, lM, rfl, hrM, hPM, hM⟩
  have HB1 := Lib.hid hM
  have HP := Lib.hid hPM
  have HM : Hid (Evs w1 (.slice AM lM.length cM) lM) := Lib.hid (hrM.evsM hPM (by omega))
  have HE1 := Lib.hid (HE.out.below hM)
  have hlM : lM.length + whole (pes lM) ≤ 1048576 := by
    have h1 := congrArg List.length hPM
    have h2 := mrg_len (pes L)
    have h3 := mrg_whole (pes L)
    rw [pes_len] at h1 h2
    rw [hPM]
    omega
  have HNE : Hid (∀ a ∈ lM, 0 < a.data.length) := fun a ha => (hrM.own a ha).pos
  have HMB := Lib.hid (mrg_byts · (pes L))
  clear hrM hPM hM HE
  go_wp2_with fail
  go_loopw [12] (fun i wr => ∃ (k : Nat), k ≤ lM.length ∧ i = .int .i64 k ∧ Hid (Below w1.heap.size w1 wr)) (fun i _ => lM.length - (intOf i).toNat)
  case atStart => exact ⟨0, by omega, rfl, Below.refl _ _⟩
  case round =>
    obtain ⟨k, hk, rfl, HW⟩ := hrel
    by_cases hlt : k < lM.length
    · obtain ⟨b, o, d, t, Aa, ca, bs, rfl, ha, c0, c1, c2, hbm, -⟩ := HM.out.seeAt HW.out hlt
      have hpos : 0 < bs.length := HNE.out _ (List.mem_of_getElem? ha)
      have hz : ((bs.length : Int) == 0) = false := by rw [beq_eq_false_iff_ne]; omega
      rcases Nat.eq_zero_or_pos k with hk0 | hkp
      · subst hk0
        clear ha
        have hg0 : decide ((0 : Int) < 0) = false := by decide
        simp only [Int.natCast_zero, Nat.zero_mul, Nat.add_zero] at *
        go_wp2_with fail
        go_quiet (fail)
        go_wp2
        go_roundw
        case rel => exact ⟨1, by omega, by go_num, belowN (HW.out.alloc HW.out.size _) _⟩
        case measure => simp [intOf]; omega
      · obtain ⟨j, hj⟩ : ∃ j, j + 1 = k := ⟨k - 1, by omega⟩
        obtain ⟨b', o', d', t', Aa', ca', bs', e, ha', x0, x1, x2, -, -⟩ := HM.out.seeAt HW.out (show j < lM.length by omega)
        injection e with e
        injection e with e1 e2
        subst e1 e2
        have hjl : j < lM.length := by omega
        have hwr : IntKind.i64.wrap ((k : Int) - 1) = (j : Int) := by rw [IntWalk.i64_in _ (by omega)]; omega
        rw [← hj] at ha
        have hdd : (d' == d) = false := by simpa using sound_at HP.out ha' ha
        have hg1 : decide ((0 : Int) < k) = true := by simp; omega
        have hg2 : decide (0 < k) = true := by simp; omega
        have lb := World.block_lt_of_cell? wr _ c0
        clear ha ha' x1 x2 hj
        go_wp2_with fail
        go_quiet (fail)
        go_wp2
        go_roundw
        case rel => exact ⟨k + 1, by omega, by go_num, belowN (HW.out.alloc HW.out.size _) _⟩
        case measure => simp [intOf]; omega
    · go_wp2_with fail
      obtain ⟨W, hW⟩ : ∃ W, wr.alloc (.cells #[.int .i64 0, .int .i64 1, .int .i64 7] 3) = W := ⟨_, rfl⟩
      obtain ⟨Bi, hBi⟩ : ∃ Bi, wr.heap.size = Bi := ⟨_, rfl⟩
      have hbi : Blk W Bi 3 #[.int .i64 0, .int .i64 1, .int .i64 7] := by rw [← hW, ← hBi]; exact Blk.new wr _ _
      have hwW : Below w1.heap.size w1 W := by rw [← hW]; exact HW.out.alloc HW.out.size _
      rw [hW, hBi]
      have HBI := Lib.hid hbi
      have HWW := Lib.hid hwW
      have HEW := Lib.hid (HE1.out.below hwW)
      have HMW := Lib.hid (HM.out.below hwW)
      clear hW hBi hbi hwW HW HM HE1
      go_loopw [39] (fun i wq => ∃ (j : Nat), j ≤ 3 ∧ i = .int .i64 j ∧ Hid (Below W.heap.size W wq)) (fun i _ => 3 - (intOf i).toNat)
      case atStart => exact ⟨0, by omega, rfl, Below.refl _ _⟩
      case round =>
        obtain ⟨j, hj, rfl, HQ⟩ := hrel
        by_cases hj3 : j < 3
        · obtain ⟨dd, hdd⟩ : ∃ dd : Int, wr.cell? ⟨Bi, j, none⟩ = some (.int .i64 dd) := by
            have h1 := (HBI.out.below HQ.out HBI.out.lt).cell j
            match j, hj3 with
            | 0, _ => exact ⟨0, h1⟩
            | 1, _ => exact ⟨1, h1⟩
            | 2, _ => exact ⟨7, h1⟩
          have hj3' : (j : Int) < 3 := by omega
          have HEq := Lib.hid (HEW.out.below HQ.out)
          have HMq := Lib.hid (HMW.out.below HQ.out)
          have HBy : Hid (byts dd (pes lM) = byts dd (pes L)) := by show _ = _; rw [HP.out]; exact HMB.out dd
          go_wp2_with fail
          have hD : Below wr.heap.size wr wr.drew := ⟨rfl, rfl, rfl, Nat.le_refl _, fun _ _ => rfl⟩
          go_region_held (fun V => Below wr.heap.size wr V) (first | exact hD | exact hX' | exact hY' | assumption) (first
            | (go_at_call 16; (with_reducible refine (Bytes_eq dd (.slice AM lM.length cM) lM wr.drew _ (HMq.out.below hD) hlM HBy.out).mono ?_); rintro e wX ⟨AX, cX, gX, rfl, hrX, -, hX⟩; have kX := str_keeps hrX; have rX := Below.refl wX.heap.size wX; have hX' := below2 hD hX; clear hrX hX)
            | (go_at_call 16; (with_reducible refine (Bytes_eq dd (.slice A L.length c) L wX _ (HEq.out.below hX') hw rfl).mono ?_); rintro e wY ⟨AY, cY, gY, rfl, hrY, -, hY⟩; have kY := str_keeps hrY; have rY := Below.refl wY.heap.size wY; have hY' := below2 hX' hY; clear hrY))
          all_goals
            have HY := Lib.hid (below2 HQ.out hY')
            clear hD hX' hY' kX rX kY rY hY
            go_wp2
            go_roundw
            case rel => exact ⟨j + 1, by omega, by go_num, HY.out⟩
            case measure => simp [intOf]; omega
        · have HB2 : Hid (Below w.heap.size w wr) := below2 (below2 HB1.out HWW.out) HQ.out
          have HEq := Lib.hid (HEW.out.below HQ.out)
          have HMq := Lib.hid (HMW.out.below HQ.out)
          go_wp2_with fail
          refine (alive_true _).mono ?_
          rintro e w2 ⟨rfl, hb⟩
          have HE2 := Lib.hid (HEq.out.below hb)
          have HM2 := Lib.hid (HMq.out.below hb)
          have HB3 := Lib.hid (below2 HB2.out hb)
          clear hb HB2 HEq HMq
          go_wp2_with fail
          refine (Merge_any _ lM _ HM2.out hlM).mono ?_
          rintro e w3 ⟨AN, cN, gN, lN, rfl, hrN, hPN, hb⟩
          have HE3 := Lib.hid (HE2.out.below hb)
          have HM3 := Lib.hid (HM2.out.below hb)
          have HB4 := Lib.hid (below2 HB3.out hb)
          have HN : Hid (Evs w3 (.slice AN lN.length cN) lN) := Lib.hid (hrN.evsM hPN (by omega))
          have HPN : Hid (pes lN = pes lM) := by show _ = _; rw [hPN, HP.out]; exact mrg_same (mrg_sound _)
          clear hb HB3 HE2 HM2 hrN hPN
          go_wp2_with fail
          refine (RSame_yes _ _ lN lM _ HN.out HM3.out HPN.out).mono ?_
          rintro e w4 ⟨rfl, hb⟩
          have HE4 := Lib.hid (HE3.out.below hb)
          have HM4 := Lib.hid (HM3.out.below hb)
          have HB5 := Lib.hid (below2 HB4.out hb)
          clear hb HB4 HE3 HM3 HN HPN
          go_wp2_with fail
          refine (Rises_any _ _ _ HE4.out).mono ?_
          rintro e w5 ⟨rfl, hb⟩
          have HM5 := Lib.hid (HM4.out.below hb)
          have HB6 := Lib.hid (below2 HB5.out hb)
          clear hb HB5 HE4 HM4
          cases hris : risB (pes L) with
          | false =>
            go_wp2_with fail
            go_ret
            exact ⟨rfl, HB6.out⟩
          | true =>
            have HR : Hid (risB (pes lM) = true) := by show _ = _; rw [HP.out]; exact mrg_ris hris
            clear hris
            go_wp2_with fail
            refine (Rises_any _ _ _ HM5.out).mono ?_
            rintro e w6 ⟨rfl, hb⟩
            have HB7 := Lib.hid (below2 HB6.out hb)
            rw [HR.out]
            clear hb HB6
            go_wp2_with fail
            go_ret
            exact ⟨rfl, HB7.out⟩
end Go.Proofs.Ytakcoplpmhgoiaa
