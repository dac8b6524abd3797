/-
  cuecardlaw06.PtyPrefix answers true for every room and every list of acts.
  Conditions: the package's table holds what its initialiser lays (Oth).
-/
import Derived.Test.YtniikeciccfjoaaDoorPPre
import Derived.Deep.DeepCutAuto
import Derived.Deep.CutBlock
import Derived.Deep.RegionHeld3
import Derived.Deep.QuietTactic
import Derived.BigQuiet
namespace Go.Proofs.YtniikeciccfjoaaDoor
open Go.RowKit

/-- x & 1 is a side. -/
theorem and_one (x : Int) : ∃ s : Nat, s < 2 ∧ bits .and .i64 x 1 = (s : Int) := by
  have h : ((BitVec.ofInt 64 x) &&& (BitVec.ofInt 64 1)).toNat < 2 := by
    rw [BitVec.toNat_and]
    have : (BitVec.ofInt 64 1).toNat = 1 := by decide
    rw [this]
    exact Nat.lt_of_le_of_lt Nat.and_le_right (by omega)
  refine ⟨_, h, ?_⟩
  show IntKind.i64.wrap _ = _
  rw [IntKind.wrap_i64]
  have h' := h
  generalize hX : ((BitVec.ofInt 64 x) &&& (BitVec.ofInt 64 1)).toNat = X at *
  show ((((BitVec.ofInt 64 x) &&& (BitVec.ofInt 64 1)).toNat : Int) + 9223372036854775808) % 18446744073709551616 - 9223372036854775808 = _
  rw [hX]
  omega

theorem quiet_l {P : Program} {f : FuncId} {args : Array Value} {w : World} {n : Nat} {v : Value}
    (h : Calls P f args (w.drewN n) fun e w' => e = .returned v ∧ w.drewN n = w') : Calls P f args (w.drewN n) fun e w'' => e = .returned v ∧ ∃ m, w'' = w.drewN m :=
  h.mono fun _ _ ⟨he, hm⟩ => ⟨he, n, hm.symm⟩

set_option maxHeartbeats 4000000 in
set_option maxRecDepth 100000 in
theorem prefixes_true (room : Int) (hr0 : room ≤ 9223372036854775807) (v : Value) (l : List ActV) (w : World) (h : Acts w v l) (ho : Oth w) :
    Calls Tryd.prog 5 #[.int .i64 room, v] w fun e w' => e = .returned (.bool true) ∧ Below w.heap.size w w' := by
  have HA := Lib.hid (And.intro h ho)
  obtain ⟨hm, A, c, rfl, -⟩ := h
  clear ho
  by_cases hgt : isGreat l = true
  · have HG := Lib.hid hgt
    clear hgt
    go_enter Tryd.func5, Tryd.ntmps5
    go_wp2_with fail
    refine (alive_true w HA.out.2).mono ?_
    rintro e w1 ⟨rfl, hb1⟩
    have B1 := Lib.hid hb1
    clear hb1
    go_wp2_with fail
    refine (great_any _ l w1 (HA.out.1.below B1.out)).mono ?_
    rintro e w2 ⟨rfl, hb2⟩
    have B2 : Hid (Below w.heap.size w w2) := B1.out.trans (hb2.mono B1.out.size)
    clear hb2 B1
    rw [HG.out]
    go_wp2_with fail
    refine (alive_true w2 (HA.out.2.below B2.out)).mono ?_
    rintro e w3 ⟨rfl, hb3⟩
    have B3 : Hid (Below w.heap.size w w3) := B2.out.trans (hb3.mono B2.out.size)
    clear hb3 B2
    go_wp2
    go_ret
    exact ⟨rfl, B3.out⟩
  · have hgf : isGreat l = false := by simpa using hgt
    have HG := Lib.hid hgf
    clear hgt hgf
    have hl80 : l.length ≤ 100 := by
      have := HG.out
      simp only [isGreat, Bool.or_eq_false_iff, decide_eq_false_iff_not] at this
      omega
    have hz80 : Hid (∀ a ∈ l, a.zs.length ≤ 100) := fun a ha => by
      have := HG.out
      simp only [isGreat, Bool.or_eq_false_iff, List.any_eq_false] at this
      have := this.2 a ha
      simpa using this
    obtain ⟨z, hz1, hmax⟩ : ∃ z : Nat, z ≤ 9223372036854775807 ∧ max 0 room = (z : Int) := ⟨room.toNat, by omega, by omega⟩
    obtain ⟨rm, hrm1, hrm2, hrm3⟩ : ∃ rm : Nat, 1 ≤ rm ∧ rm ≤ 30 ∧ 1 + (z : Int) % 30 = (rm : Int) := ⟨1 + z % 30, by omega, by omega, by omega⟩
    go_enter Tryd.func5, Tryd.ntmps5
    go_wp2_with fail
    refine (alive_true w HA.out.2).mono ?_
    rintro e w1 ⟨rfl, hb1⟩
    have B1 := Lib.hid hb1
    clear hb1
    go_wp2_with fail
    refine (great_any _ l w1 (HA.out.1.below B1.out)).mono ?_
    rintro e w2 ⟨rfl, hb2⟩
    have B2 : Hid (Below w.heap.size w w2) := B1.out.trans (hb2.mono B1.out.size)
    clear hb2 B1
    rw [HG.out]
    go_wp2_with fail
    refine (PNew_yes rm w2 (by omega) (by omega)).mono ?_
    rintro e w3 ⟨rfl, hq3, hb3⟩
    have B3 : Hid (POwn w w3 w2.heap.size rm (two ⟨false, []⟩ ⟨false, []⟩)) := (POwn.new B2.out hq3 hb3).congr rfl rfl
    clear hq3 hb3 B2 hmax hrm3
    generalize w2.heap.size = p at *
    go_wp2_with fail
    obtain ⟨w4, hw4⟩ : ∃ w4, (w3.alloc (.cells #[.string ⟨#[]⟩, .string ⟨#[]⟩] 50)).alloc (.cells #[.string ⟨#[]⟩, .string ⟨#[]⟩] 50) = w4 := ⟨_, rfl⟩
    obtain ⟨bw, hbw⟩ : ∃ bw, w3.heap.size = bw := ⟨_, rfl⟩
    obtain ⟨br, hbr⟩ : ∃ br, bw + 1 = br := ⟨_, rfl⟩
    have B4 : Hid (Mm (fun b => b = bw ∨ b = br) w w4 p rm bw br (two ⟨false, []⟩ ⟨false, []⟩) (fun _ => []) (fun _ => [])) := by
      rw [← hw4]; exact Mm.start B3.out hbw hbr
    rw [hw4, hbw, hbr]
    clear hw4 hbr hbw B3
    go_loopw [38] (fun i wr => ∃ (k : Nat) (f : Nat → Way) (ws rs : Nat → List Nat), k ≤ l.length ∧ i = .int .i64 k ∧ Hid (Mm (fun b => b = bw ∨ b = br) w wr p rm bw br f ws rs ∧ Rel k f ws rs)) (fun i _ => l.length - (intOf i).toNat)
    case atStart =>
      exact ⟨0, _, _, _, Nat.zero_le _, rfl, B4.out, ⟨fun s hs => by rcases (show s = 0 ∨ s = 1 by omega) with rfl | rfl <;> rfl, fun s _ => by simp⟩⟩
    case round =>
      obtain ⟨k, f, ws, rs, hk, rfl, HS⟩ := hrel
      by_cases hlt : k < l.length
      · obtain ⟨a, ha⟩ : ∃ a, l[k]? = some a := ⟨_, List.getElem?_eq_getElem hlt⟩
        have hza := hz80.out a (List.mem_of_getElem? ha)
        obtain ⟨_, A', c', e', hacts⟩ := HA.out.1
        injection e' with e1 _ e3
        subst e1 e3
        obtain ⟨b, o, rfl, hx⟩ := hacts (by omega)
        clear hacts
        have HAT := Lib.hid (hx k a ha)
        have hat := HAT.out.below HS.out.1.below
        have k0 := hat.kind
        have k1 := hat.side
        have k2 := hat.num
        have k3 := hat.list
        clear hat hx ha
        obtain ⟨kd, sd, nm, AA, cc, zs⟩ := a
        simp only at k0 k1 k2 k3 hza
        obtain ⟨s, hs2, hsd⟩ := and_one sd
        go_upto_block 2 with (fail)
        obtain ⟨cb, hcb⟩ : ∃ cb, wr.heap.size = cb := ⟨_, rfl⟩
        have hact := HS.out.1.more (.cells #[.int .i64 kd, .int .i64 sd, .int .i64 nm, .slice AA zs.length cc] 33)
        have hblk := Blk.new wr 33 #[.int .i64 kd, .int .i64 sd, .int .i64 nm, .slice AA zs.length cc]
        rw [hcb] at hact hblk ⊢
        obtain ⟨w5, hw5⟩ : ∃ w5, wr.alloc (.cells #[.int .i64 kd, .int .i64 sd, .int .i64 nm, .slice AA zs.length cc] 33) = w5 := ⟨_, rfl⟩
        rw [hw5] at hact hblk ⊢
        have HC := Lib.hid (And.intro hact hblk)
        clear hcb hw5 hact hblk k0 k1 k2 k3 hsd
        have hsI0 : (0 : Int) ≤ (s : Int) := by omega
        have hsI : (s : Int) < 2 := by omega
        have j0 : w5.cell? ⟨cb, 0, none⟩ = some (.int .i64 kd) := HC.out.2.cell 0
        have j2 : w5.cell? ⟨cb, 2, none⟩ = some (.int .i64 nm) := HC.out.2.cell 2
        have j3 : w5.cell? ⟨cb, 3, none⟩ = some (.slice AA zs.length cc) := HC.out.2.cell 3
        go_cut [12] (fun _ wc => ∃ (f' : Nat → Way) (ws' rs' : Nat → List Nat), Hid (Mm (fun b => b = bw ∨ b = br) w wc p rm bw br f' ws' rs' ∧ Rel (k + 1) f' ws' rs'))
        case first =>
          by_cases hk0 : kd = 0
          · have hb0 : (kd == 0) = true := by simpa using hk0
            clear hk0
            have hrd := HAT.out.rd.kept (HC.out.1.below)
            have hput := WriteBes HC.out.1.line s hs2 hrd (by simp only; omega)
            simp only at hput
            have hnp := putN_le_m rm (f s).en (f s).xs.length zs.length
            obtain ⟨np, hnp'⟩ : ∃ np, putN rm (f s).en (f s).xs.length zs.length = np := ⟨_, rfl⟩
            rw [hnp'] at hput hnp
            have hlt0 : ((np : Int) < 0) = False := by simp
            have HPut := Lib.hid hput
            have HNP := Lib.hid hnp'
            clear hput hnp' hrd
            go_wp2_with fail
            refine HPut.out.mono ?_
            rintro e w6 ⟨rfl, h6, hk6⟩
            have hmm := HC.out.1.turned h6 hk6
            have hb6 := hk6.blk (.inr rfl) HC.out.2
            have i3 : w6.cell? ⟨cb, 3, none⟩ = some (.slice AA zs.length cc) := hb6.cell 3
            have iw : w6.cell? ⟨bw, s, none⟩ = some (.string (str (ws s))) := hmm.wrote.cell s hs2
            have fw : w6.frozen? ⟨bw, s, none⟩ = false := Blk.frozen hmm.wrote s
            obtain ⟨A2, hsl, hr2⟩ := run_upto (HAT.out.rd.kept hmm.below) hnp
            simp only at hsl
            have hcv := run_str hr2.drew
            have hcat : str (ws s) ++ str (zs.take np) = str (ws s ++ zs.take np) := str_app _ _
            have hsz : (str (ws s)).size + (str (zs.take np)).size ≤ 9223372036854775807 := by
              rw [str_len, str_len, List.length_take]; have := HS.out.2.le s hs2; omega
            have HM := Lib.hid hmm
            clear h6 hk6 hmm hb6 hr2
            go_wp2_with fail
            go_region
            go_wp2
            go_meet
            case rel => exact ⟨_, _, _, ((HM.out.less (fun b hb => .inl hb) (.inl rfl) (.inr rfl)).setW s hs2 _).drew, HS.out.2.write hs2 (by rw [List.length_take]; omega) _⟩
          · have hb0 : (kd == 0) = false := by simpa using hk0
            clear hk0
            by_cases hk1 : kd = 1
            · have hb1 : (kd == 1) = true := by simpa using hk1
              clear hk1
              have hop := ReadBes HC.out.1.drew.line HA.out.2 s hs2 nm
              obtain ⟨ys, hys⟩ : ∃ ys, (f (1 - s)).xs.take nm.toNat = ys := ⟨_, rfl⟩
              have hcat : str (rs s) ++ str ys = str (rs s ++ ys) := str_app _ _
              have hsz : (str (rs s)).size + (str ys).size ≤ 9223372036854775807 := by
                have h1 := HS.out.2.le (1 - s) (by omega)
                rw [HS.out.2.eq (1 - s) (by omega), List.length_append, show 1 - (1 - s) = s by omega] at h1
                rw [str_len, str_len, ← hys, List.length_take]; omega
              have HRel := Lib.hid (HS.out.2.read hs2 nm.toNat (f (1 - s)).en)
              rw [hys] at hop HRel
              have HOp := Lib.hid hop
              have hm5 := HC.out.1
              have iw : w5.cell? ⟨br, s, none⟩ = some (.string (str (rs s))) := hm5.read.cell s hs2
              clear hop hys hm5
              go_wp2_with fail
              go_region_with ((go_at_call 14; refine HOp.out.mono ?_; rintro e w6 ⟨At, ct, rfl, hr6, h6, hk6⟩; have hmm := HC.out.1.drew.turned h6 hk6; have HM := Lib.hid hmm; have i6 : w6.cell? ⟨br, s, none⟩ = some (.string (str (rs s))) := hmm.read.cell s hs2; have f6 : w6.frozen? ⟨br, s, none⟩ = false := Blk.frozen hmm.read s; have hcv := run_str hr6; clear hr6 h6 hk6 hmm))
              all_goals
                go_wp2
                go_meet
                case rel => exact ⟨_, _, _, (HM.out.less (fun b hb => .inl hb) (.inl rfl) (.inr rfl)).setR s hs2 _, HRel.out⟩
            · have hb1 : (kd == 1) = false := by simpa using hk1
              clear hk1
              by_cases hk2 : kd = 2
              · have hb2 : (kd == 2) = true := by simpa using hk2
                clear hk2
                have hop := HangBes HC.out.1.line s hs2
                have HOp := Lib.hid hop
                clear hop
                go_wp2_with fail
                refine HOp.out.mono ?_
                rintro e w6 ⟨rfl, h6, hk6⟩
                have HM := Lib.hid (HC.out.1.turned h6 hk6)
                clear h6 hk6
                go_wp2
                go_meet
                case rel => exact ⟨_, _, _, HM.out.less (fun b hb => .inl hb) (.inl rfl) (.inr rfl), HS.out.2.hang s⟩
              · have hb2 : (kd == 2) = false := by simpa using hk2
                clear hk2
                go_wp2
                go_meet
                case rel => exact ⟨_, _, _, HC.out.1.less (fun b hb => .inl hb) (.inl rfl) (.inr rfl), HS.out.2.next⟩
        case rest =>
          obtain ⟨f1, ws1, rs1, HT⟩ := hcut
          clear HC HS HAT j0 j2 j3
          go_wp2_with fail
          go_loopw [91] (fun i wi => ∃ j : Int, (j = 0 ∨ j = 1 ∨ j = 2) ∧ i = .int .i64 j ∧ Hid (Mm (fun b => b = bw ∨ b = br) w wi p rm bw br f1 ws1 rs1)) (fun i _ => 2 - (intOf i).toNat)
          case atStart => exact ⟨0, .inl rfl, rfl, HT.out.1⟩
          case round =>
            obtain ⟨j, hj, rfl, HI⟩ := hrel
            by_cases hj2 : j = 2
            · subst hj2
              clear hj
              go_wp2
              go_roundw
              case rel => exact ⟨k + 1, f1, ws1, rs1, by omega, by go_num, HI.out, HT.out.2⟩
              case measure => simp [intOf]; omega
            · obtain ⟨J, hJ, hJ2⟩ : ∃ J : Nat, j = J ∧ J < 2 := ⟨j.toNat, by omega, by omega⟩
              obtain ⟨R, hR⟩ : ∃ R, str (rs1 J) = R := ⟨_, rfl⟩
              obtain ⟨W, hW⟩ : ∃ W, str (ws1 (1 - J)) = W := ⟨_, rfl⟩
              obtain ⟨xs, hxs⟩ : ∃ xs, (f1 (1 - J)).xs = xs := ⟨_, rfl⟩
              obtain ⟨ov, hov⟩ : ∃ ov, ((f1 (1 - J)).en && xs.isEmpty) = ov := ⟨_, rfl⟩
              have hrs : ws1 (1 - J) = rs1 J ++ xs := by
                have := HT.out.2.eq (1 - J) (by omega)
                rwa [show 1 - (1 - J) = J by omega, hxs] at this
              have hWs : W.size = R.size + xs.length := by rw [← hW, ← hR, str_len, str_len, hrs, List.length_append]
              have hbd : W.size ≤ 20000 := by
                have := HT.out.2.le (1 - J) (by omega)
                rw [← hW, str_len]; omega
              have hex : W.extract 0 R.size = R := by
                rw [← hW, ← hR, str_take, str_len, hrs, List.take_left]
              have iw : wr.cell? ⟨bw, 1 - J, none⟩ = some (.string W) := by rw [← hW]; exact HI.out.wrote.cell (1 - J) (by omega)
              have ir : wr.cell? ⟨br, J, none⟩ = some (.string R) := by rw [← hR]; exact HI.out.read.cell J hJ2
              have PO : Hid (∀ n, Calls Tryd.prog 15 #[.pointer (some ⟨p, 0, none⟩), .int .i64 (J : Int)] (wr.drewN n) fun e w' => e = .returned (.bool ov) ∧ wr.drewN n = w') := by
                intro n
                have := OverBes (HI.out.drewN n).line HA.out.2 J hJ2
                rwa [hxs, hov] at this
              have PT : Hid (∀ n, Calls Tryd.prog 16 #[.pointer (some ⟨p, 0, none⟩), .int .i64 (J : Int)] (wr.drewN n) fun e w' => e = .returned (.int .i64 xs.length) ∧ wr.drewN n = w') := by
                intro n
                have := WaitsBes (HI.out.drewN n).line HA.out.2 J hJ2
                rwa [hxs] at this
              have hx : (W.size : Int) - (R.size : Int) = (xs.length : Int) := by omega
              have hgt : decide (W.size < R.size) = false := by simp; omega
              have hge : R.size ≤ W.size := by omega
              have hN := Lib.hid (show j = 0 ∨ j = 1 by omega)
              cases ov with
              | true =>
                have hRW : W = R := by
                  have h0 : xs = [] := by
                    have := (Bool.and_eq_true_iff.1 hov).2
                    simpa using this
                  rw [← hW, hrs, h0, List.append_nil, hR]
                subst hRW
                clear hR hW hxs hov hrs
                have HX := Lib.hid hWs
                clear hWs
                rcases hN.out with rfl | rfl
                · obtain rfl : J = 0 := by omega
                  simp only [Nat.sub_zero] at iw ir
                  clear hj hj2 hJ hJ2 hN
                  go_wp2_with fail
                  go_quiet ((first
                    | (go_at_call 15; exact quiet_l (PO.out _))
                    | (go_at_call 16; exact quiet_l (PT.out _))))
                  go_wp2
                  go_roundw
                  case rel => exact ⟨1, .inr (.inl rfl), rfl, HI.out.drewN _⟩
                  case measure => simp [intOf]
                · obtain rfl : J = 1 := by omega
                  simp only [Nat.sub_self] at iw ir
                  clear hj hj2 hJ hJ2 hN
                  go_wp2_with fail
                  go_quiet ((first
                    | (go_at_call 15; exact quiet_l (PO.out _))
                    | (go_at_call 16; exact quiet_l (PT.out _))))
                  go_wp2
                  go_roundw
                  case rel => exact ⟨2, .inr (.inr rfl), rfl, HI.out.drewN _⟩
                  case measure => simp [intOf]
              | false =>
                clear hR hW hxs hov hrs
                have HX := Lib.hid hWs
                clear hWs
                rcases hN.out with rfl | rfl
                · obtain rfl : J = 0 := by omega
                  simp only [Nat.sub_zero] at iw ir
                  clear hj hj2 hJ hJ2 hN
                  go_wp2_with fail
                  go_quiet ((first
                    | (go_at_call 15; exact quiet_l (PO.out _))
                    | (go_at_call 16; exact quiet_l (PT.out _))))
                  go_wp2
                  go_roundw
                  case rel => exact ⟨1, .inr (.inl rfl), rfl, HI.out.drewN _⟩
                  case measure => simp [intOf]
                · obtain rfl : J = 1 := by omega
                  simp only [Nat.sub_self] at iw ir
                  clear hj hj2 hJ hJ2 hN
                  go_wp2_with fail
                  go_quiet ((first
                    | (go_at_call 15; exact quiet_l (PO.out _))
                    | (go_at_call 16; exact quiet_l (PT.out _))))
                  go_wp2
                  go_roundw
                  case rel => exact ⟨2, .inr (.inr rfl), rfl, HI.out.drewN _⟩
                  case measure => simp [intOf]
      · obtain rfl : k = l.length := by omega
        have HE := Lib.hid HS.out.1.below
        clear HS
        go_wp2
        go_ret
        exact ⟨rfl, HE.out⟩
end Go.Proofs.YtniikeciccfjoaaDoor
