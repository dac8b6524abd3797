/-
  cuecardlaw04.EventOrder answers true for all events and every number.
  Conditions: events and bytes together at most 1048576.
-/
import Derived.Test.YtakcoplpmhgoiaaEvFirst
namespace Go.Proofs.Ytakcoplpmhgoiaa
open Go.RowKit

set_option maxRecDepth 100000 in
set_option maxHeartbeats 4000000 in
theorem order_true (v : Value) (L0 : List Ev) (x : Int) (w : World) (h : Evs w v L0) (hw0 : L0.length + whole (pes L0) ≤ 1048576) :
    Calls Try.prog 8 #[v, .int .i64 x] w fun e w' => e = .returned (.bool true) ∧ Below w.heap.size w w' := by
  obtain ⟨A0, c, rfl, hle⟩ := h.form
  obtain ⟨m, hm1, hm2, hm3⟩ : ∃ m : Nat, m ≤ L0.length ∧ m ≤ 100 ∧ min (L0.length : Int) 100 = (m : Int) := ⟨min L0.length 100, Nat.min_le_left _ _, Nat.min_le_right _ _, by omega⟩
  obtain ⟨A, hsl, hE⟩ := run_firstE h hm1
  have hLl : (L0.take m).length = m := by simp; omega
  have hww : whole (pes (L0.take m)) ≤ 1048576 := by rw [pes_takeL]; have := whole_take (pes L0) m; omega
  generalize L0.take m = L at *
  obtain rfl : L.length = m := hLl
  have hw : L.length + whole (pes L) ≤ 1048676 := by omega
  have hd : ∀ a ∈ L, a.data.length ≤ 1048576 := fun a ha => by
    obtain ⟨i, hi⟩ := List.mem_iff_getElem?.1 ha
    have h1 := whole_at (pes_at hi)
    have h2 : a.pe.data.length = a.data.length := rfl
    omega
  have HE : Hid (Evs w (.slice A L.length c) L) := Lib.hid hE
  have HD := Lib.hid hd
  have HSL := Lib.hid (And.intro hsl hm3)
  clear h hle hE hd hsl hm3
  go_enter Try.func8, Try.ntmps8
  go_wp2_with fail
  refine (alive_true _).mono ?_
  rintro e w1 ⟨rfl, hb⟩
  have HB1 := Lib.hid hb
  have HE1 := Lib.hid (HE.out.below hb)
  obtain ⟨hsl, hm3⟩ := HSL.out
  clear hb HE
  go_wp2_with fail
  clear hsl hm3 HSL
  obtain ⟨W, hW⟩ : ∃ W, w1.alloc (.cells #[.int .i64 0, .int .i64 1] 3) = W := ⟨_, rfl⟩
  obtain ⟨Bi, hBi⟩ : ∃ Bi, w1.heap.size = Bi := ⟨_, rfl⟩
  have hbi : Blk W Bi 3 #[.int .i64 0, .int .i64 1] := by rw [← hW, ← hBi]; exact Blk.new w1 _ _
  have hwW : Below w1.heap.size w1 W := by rw [← hW]; exact (Below.refl _ w1).alloc (Nat.le_refl _) _
  rw [hW, hBi]
  have HBI := Lib.hid hbi
  have HB2 := Lib.hid (below2 HB1.out hwW)
  have HEW := Lib.hid (HE1.out.below hwW)
  clear hW hBi hbi hwW HE1 HB1
  go_loopw [5, 6, 27] (fun n q i wr => ∃ (j : Nat), j ≤ 2 ∧ i = .int .i64 j ∧ n = .int .i64 (cnt (pes L) j : Nat) ∧ q = .int .i64 (byl (pes L) j : Nat) ∧ Hid (Below W.heap.size W wr)) (fun _ _ i _ => 2 - (intOf i).toNat)
  case atStart => exact ⟨0, by omega, rfl, rfl, rfl, Below.refl _ _⟩
  case round =>
    obtain ⟨j, hj, rfl, rfl, rfl, HQ⟩ := hrel
    have hc1 := cnt_le (pes L) j
    have hb1 := byl_le (pes L) j
    have hc2 : cnt (pes L) j ≤ 200 := by
      rw [pes_len] at hc1
      have : j * L.length ≤ 2 * L.length := Nat.mul_le_mul_right _ hj
      omega
    have hb2 : byl (pes L) j ≤ 2097152 := by
      have : j * whole (pes L) ≤ 2 * whole (pes L) := Nat.mul_le_mul_right _ hj
      omega
    clear hc1 hb1
    by_cases hj3 : j < 2
    · have hdd : wr.cell? ⟨Bi, j, none⟩ = some (.int .i64 (j : Nat)) := by
        have h1 := (HBI.out.below HQ.out HBI.out.lt).cell j
        match j, hj3 with
        | 0, _ => exact h1
        | 1, _ => exact h1
      have hj3' : (j : Int) < 2 := by omega
      go_wp2_with fail
      refine (of_any _ _ L _ (HEW.out.below HQ.out) (by omega) HD.out).mono ?_
      rintro e w2 ⟨AO, cO, lo, rfl, hEo, hPo, hb⟩
      have HQ2 := Lib.hid (below2 HQ.out hb)
      have HEo := Lib.hid hEo
      have HPo := Lib.hid hPo
      have hlo : lo.length ≤ 100 := by
        have h1 := congrArg List.length hPo
        have h2 := List.length_filter_le (fun a : PE => decide (a.dir = (j : Int))) (pes L)
        rw [pes_len] at h1 h2
        unfold fil at h1
        omega
      have HWF := Lib.hid (whole_fil (j : Int) (pes L))
      have hwf : whole (pes lo) ≤ 1048576 := by
        rw [hPo, HWF.out]
        have := byts_le (j : Int) (pes L)
        omega
      have HDR : Hid (∀ a ∈ lo, a.dir = (j : Int)) := fun a ha => by
        have h1 : a.pe ∈ fil (j : Int) (pes L) := by rw [← HPo.out]; exact List.mem_map_of_mem ha
        exact of_decide_eq_true (List.mem_filter.1 h1).2
      clear hb HQ hEo hPo
      go_wp2_with fail
      go_loopw [5, 9, 35] (fun n q i wq => ∃ (k : Nat), k ≤ lo.length ∧ i = .int .i64 k ∧ n = .int .i64 ((cnt (pes L) j + k : Nat) : Int) ∧ q = .int .i64 (whole ((pes lo).take k) : Nat) ∧ Hid (Below w2.heap.size w2 wq)) (fun _ _ i _ => lo.length - (intOf i).toNat)
      case atStart => exact ⟨0, by omega, rfl, rfl, rfl, Below.refl _ _⟩
      case round =>
        obtain ⟨k, hk, rfl, rfl, rfl, HR⟩ := hrel
        have hwt := whole_take (pes lo) k
        by_cases hlt : k < lo.length
        · obtain ⟨b, o, d, t, Aa, ca, bs, rfl, ha, c0, c1, c2, hbm, -⟩ := HEo.out.seeAt HR.out hlt
          have hdj : d = (j : Int) := HDR.out _ (List.mem_of_getElem? ha)
          subst hdj
          have HN := Lib.hid (whole_next ha)
          have h4 := whole_at (pes_at ha)
          have h5 : (Ev.pe ⟨(j : Int), t, Aa, ca, bs⟩).data.length = bs.length := rfl
          have h6 : whole ((pes lo).take k) + bs.length ≤ 1048576 := by omega
          clear ha h4 h5
          go_wp2_with fail
          go_roundw
          case rel => exact ⟨k + 1, by omega, by go_num, by congr 1, by rw [HN.out]; congr 1, HR.out.alloc HR.out.size _⟩
          case measure => simp [intOf]; omega
        · obtain rfl : k = lo.length := by omega
          rw [pes_all] at *
          have HQ3 := Lib.hid (below2 HQ2.out HR.out)
          clear HR HEo hwt
          go_wp2_with fail
          refine (Bytes_any _ _ L _ (HEW.out.below HQ3.out) (by omega) HD.out).mono ?_
          rintro e w3 ⟨AY, cY, gY, rfl, -, -, hb⟩
          have HQ4 := Lib.hid (below2 HQ3.out hb)
          have hsame : whole (pes lo) = (byts (j : Int) (pes L)).length := by rw [HPo.out, HWF.out]
          have HC : Hid (cnt (pes L) (j + 1) = cnt (pes L) j + lo.length) := by
            show _ = _
            have h1 := congrArg List.length HPo.out
            rw [pes_len] at h1
            rw [h1]; rfl
          have HY : Hid (byl (pes L) (j + 1) = byl (pes L) j + whole (pes lo)) := by show _ = _; rw [hsame]; rfl
          rw [← hsame]
          clear hb hsame HQ3 HQ2
          go_wp2_with fail
          go_roundw
          case rel => exact ⟨j + 1, by omega, by go_num, by rw [HC.out]; congr 1, by rw [HY.out]; congr 1, HQ4.out⟩
          case measure => simp [intOf]; omega
    · obtain rfl : j = 2 := by omega
      rw [show ((2 : Nat) : Int) = 2 from rfl]
      have HQ3 := Lib.hid HQ.out
      clear HQ
      go_wp2_with fail
      go_loopw [12, 63] (fun q i wq => ∃ (k : Nat), k ≤ L.length ∧ i = .int .i64 k ∧ q = .int .i64 (oth ((pes L).take k) : Nat) ∧ Hid (Below W.heap.size W wq)) (fun _ i _ => L.length - (intOf i).toNat)
      case atStart => exact ⟨0, by omega, rfl, rfl, HQ3.out⟩
      case round =>
        obtain ⟨k, hk, rfl, rfl, HR⟩ := hrel
        have ho1 := oth_le ((pes L).take k)
        have ho2 : oth ((pes L).take k) ≤ 100 := by rw [List.length_take, pes_len] at ho1; omega
        clear ho1
        by_cases hlt : k < L.length
        · obtain ⟨b, o, d, t, Aa, ca, bs, rfl, ha, c0, c1, c2, hbm, -⟩ := HEW.out.seeAt HR.out hlt
          have HN := Lib.hid (oth_next ha)
          clear ha
          by_cases hd : d ≠ 0 ∧ d ≠ 1
          · have e0 : (d != 0) = true := by simpa using hd.1
            have e1 : (d != 1) = true := by simpa using hd.2
            rw [if_pos hd] at HN
            clear hd
            go_wp2_with fail
            go_roundw
            case rel => exact ⟨k + 1, by omega, by go_num, by rw [HN.out]; congr 1, HR.out.alloc HR.out.size _⟩
            case measure => simp [intOf]; omega
          · rw [if_neg hd] at HN
            by_cases hd0 : d = 0
            · subst hd0
              clear hd
              go_wp2_with fail
              go_roundw
              case rel => exact ⟨k + 1, by omega, by go_num, by rw [HN.out]; congr 1, HR.out.alloc HR.out.size _⟩
              case measure => simp [intOf]; omega
            · obtain rfl : d = 1 := by omega
              clear hd hd0
              go_wp2_with fail
              go_roundw
              case rel => exact ⟨k + 1, by omega, by go_num, by rw [HN.out]; congr 1, HR.out.alloc HR.out.size _⟩
              case measure => simp [intOf]; omega
        · obtain rfl : k = L.length := by omega
          rw [pes_all] at *
          have HQ4 := Lib.hid HR.out
          clear HR HQ3
          go_wp2_with fail
          go_loopw [15, 78] (fun q i wq => ∃ (k y : Nat), k ≤ 20 ∧ i = .int .i64 k ∧ q = .int .i64 y ∧ Hid (y ≤ due ((k : Int) - 2) (pes L) ∧ Below W.heap.size W wq)) (fun _ i _ => 20 - (intOf i).toNat)
          case atStart => exact ⟨0, 0, by omega, rfl, rfl, by omega, HQ4.out⟩
          case round =>
            obtain ⟨k, y, hk, rfl, rfl, HR⟩ := hrel
            by_cases hlt : k < 20
            · have hlt' : (k : Int) < 20 := by omega
              have hmono : due ((k : Int) - 2) (pes L) ≤ due (((k + 1 : Nat) : Int) - 2) (pes L) := dueF_mono (by omega) _ _
              have HMO := Lib.hid hmono
              clear hmono
              go_wp2_with fail
              refine (Due_any _ _ L _ (HEW.out.below HR.out.2) (by omega)).mono ?_
              rintro e w4 ⟨rfl, hb⟩
              have HR2 := Lib.hid (below2 HR.out.2 hb)
              have hyl := HR.out.1
              generalize due ((k : Int) - 2) (pes L) = z at *
              have hny : ¬ ((z : Int) < (y : Int)) := by omega
              clear hb HR
              go_wp2_with fail
              go_roundw
              case rel => exact ⟨k + 1, z, by omega, by go_num, rfl, HMO.out, HR2.out⟩
              case measure => simp [intOf]; omega
            · have HQ5 := Lib.hid HR.out.2
              have hca := cnt_all (pes L)
              rw [pes_len] at hca
              have hdl : due x (pes L) ≤ byl (pes L) 2 := by
                have h1 := dueF_le x (pes L) 0
                have h2 : byl (pes L) 2 = 0 + (byts 0 (pes L)).length + (byts 1 (pes L)).length := rfl
                unfold due
                omega
              clear HR
              go_wp2_with fail
              refine (alive_true _).mono ?_
              rintro e w5 ⟨rfl, hb⟩
              have HQ6 := Lib.hid (below2 HQ5.out hb)
              clear hb HQ5
              have heq : ((cnt (pes L) 2 : Nat) : Int) + ((oth (pes L) : Nat) : Int) = (L.length : Int) := by omega
              have hbeq : (((cnt (pes L) 2 : Nat) : Int) + ((oth (pes L) : Nat) : Int) == (L.length : Int)) = true := by rw [beq_iff_eq]; exact heq
              have HDL := Lib.hid hdl
              clear hca heq hdl
              go_wp2_with fail
              refine (Due_any x _ L _ (HEW.out.below HQ6.out) (by omega)).mono ?_
              rintro e w6 ⟨rfl, hb⟩
              have HQ7 := Lib.hid (below2 HB2.out (below2 HQ6.out hb))
              have hdl := HDL.out
              have hdl' : ((due x (pes L) : Nat) : Int) ≤ ((byl (pes L) 2 : Nat) : Int) := by omega
              clear hb HQ6
              go_wp2_with fail
              go_ret
              exact ⟨rfl, HQ7.out⟩
end Go.Proofs.Ytakcoplpmhgoiaa
