/-
  cuecardlaw06.PtyWays answers true for every room and every two lists of acts.
  Conditions: the package's table holds what its initialiser lays (Oth).
-/
import Derived.Test.YtniikeciccfjoaaDoorPDuo
import Derived.Test.YtniikeciccfjoaaDoorPActs
import Derived.Deep.DeepCutAuto
import Derived.Deep.CutBlock
import Derived.Deep.RegionHeld3
import Derived.Deep.QuietTactic
import Derived.BigQuiet
namespace Go.Proofs.YtniikeciccfjoaaDoor
open Go.RowKit

set_option maxHeartbeats 4000000 in
set_option maxRecDepth 100000 in
theorem ways_great (room : Int) (v : Value) (l : List ActV) (v' : Value) (m : List ActV) (w : World) (hl : Acts w v l) (hm : Acts w v' m) (ho : Oth w) (hg : (isGreat l || isGreat m) = true) :
    Calls Tryd.prog 6 #[.int .i64 room, v, v'] w fun e w' => e = .returned (.bool true) ∧ Below w.heap.size w w' := by
  have HA := Lib.hid (And.intro hl (And.intro hm ho))
  have HG := Lib.hid hg
  obtain ⟨_, A, c, rfl, -⟩ := hl
  obtain ⟨_, A', c', rfl, -⟩ := hm
  clear ho hg
  cases h1 : isGreat l with
  | true =>
    have HL := Lib.hid h1
    clear h1
    go_enter Tryd.func6, Tryd.ntmps6
    go_wp2_with fail
    refine (alive_true w HA.out.2.2).mono ?_
    rintro e w1 ⟨rfl, hb1⟩
    have B1 := Lib.hid hb1
    clear hb1
    go_wp2_with fail
    refine (great_any _ l w1 (HA.out.1.below B1.out)).mono ?_
    rintro e w2 ⟨rfl, hb2⟩
    have B2 : Hid (Below w.heap.size w w2) := B1.out.trans (hb2.mono B1.out.size)
    clear hb2 B1
    rw [HL.out]
    go_wp2_with fail
    refine (alive_true w2 (HA.out.2.2.below B2.out)).mono ?_
    rintro e w3 ⟨rfl, hb3⟩
    have B3 : Hid (Below w.heap.size w w3) := B2.out.trans (hb3.mono B2.out.size)
    clear hb3 B2
    go_wp2
    go_ret
    exact ⟨rfl, B3.out⟩
  | false =>
    have HL := Lib.hid h1
    have HM : Hid (isGreat m = true) := by have := HG.out; rwa [h1, Bool.false_or] at this
    clear h1
    go_enter Tryd.func6, Tryd.ntmps6
    go_wp2_with fail
    refine (alive_true w HA.out.2.2).mono ?_
    rintro e w1 ⟨rfl, hb1⟩
    have B1 := Lib.hid hb1
    clear hb1
    go_wp2_with fail
    refine (great_any _ l w1 (HA.out.1.below B1.out)).mono ?_
    rintro e w2 ⟨rfl, hb2⟩
    have B2 : Hid (Below w.heap.size w w2) := B1.out.trans (hb2.mono B1.out.size)
    clear hb2 B1
    rw [HL.out]
    go_wp2_with fail
    refine (great_any _ m w2 (HA.out.2.1.below B2.out)).mono ?_
    rintro e w3 ⟨rfl, hb3⟩
    have B3 : Hid (Below w.heap.size w w3) := B2.out.trans (hb3.mono B2.out.size)
    clear hb3 B2
    rw [HM.out]
    go_wp2_with fail
    refine (alive_true w3 (HA.out.2.2.below B3.out)).mono ?_
    rintro e w4 ⟨rfl, hb4⟩
    have B4 : Hid (Below w.heap.size w w4) := B3.out.trans (hb4.mono B3.out.size)
    clear hb4 B3
    go_wp2
    go_ret
    exact ⟨rfl, B4.out⟩

theorem small_len {l : List ActV} (h : isGreat l = false) : l.length ≤ 100 := by
  simp only [isGreat, Bool.or_eq_false_iff, decide_eq_false_iff_not] at h
  omega
theorem small_at {l : List ActV} (h : isGreat l = false) (a : ActV) (ha : a ∈ l) : a.zs.length ≤ 100 := by
  simp only [isGreat, Bool.or_eq_false_iff, List.any_eq_false] at h
  have := h.2 a ha
  simpa using this

set_option maxHeartbeats 4000000 in
set_option maxRecDepth 100000 in
theorem ways_small (room : Int) (hr0 : room ≤ 9223372036854775807) (v : Value) (l : List ActV) (v' : Value) (m : List ActV) (w : World) (hl : Acts w v l) (hm : Acts w v' m) (ho : Oth w) (hgl : isGreat l = false) (hgm : isGreat m = false) :
    Calls Tryd.prog 6 #[.int .i64 room, v, v'] w fun e w' => e = .returned (.bool true) ∧ Below w.heap.size w w' := by
  have HA := Lib.hid (And.intro hl (And.intro hm ho))
  have HL := Lib.hid hgl
  have HM := Lib.hid hgm
  obtain ⟨hll, A, c, rfl, -⟩ := hl
  obtain ⟨hlm, B, d, rfl, -⟩ := hm
  have hl100 := small_len hgl
  have hm100 := small_len hgm
  clear ho hgl hgm
  obtain ⟨z, hz1, hmax⟩ : ∃ z : Nat, z ≤ 9223372036854775807 ∧ max 0 room = (z : Int) := ⟨room.toNat, by omega, by omega⟩
  obtain ⟨rm, hrm1, hrm2, hrm3⟩ : ∃ rm : Nat, 1 ≤ rm ∧ rm ≤ 30 ∧ 1 + (z : Int) % 30 = (rm : Int) := ⟨1 + z % 30, by omega, by omega, by omega⟩
  go_enter Tryd.func6, Tryd.ntmps6
  go_wp2_with fail
  refine (alive_true w HA.out.2.2).mono ?_
  rintro e w1 ⟨rfl, hb1⟩
  have B1 := Lib.hid hb1
  clear hb1
  go_wp2_with fail
  refine (great_any _ l w1 (HA.out.1.below B1.out)).mono ?_
  rintro e w2 ⟨rfl, hb2⟩
  have B2 : Hid (Below w.heap.size w w2) := B1.out.trans (hb2.mono B1.out.size)
  clear hb2 B1
  rw [HL.out]
  go_wp2_with fail
  refine (great_any _ m w2 (HA.out.2.1.below B2.out)).mono ?_
  rintro e w3 ⟨rfl, hb3⟩
  have B3 : Hid (Below w.heap.size w w3) := B2.out.trans (hb3.mono B2.out.size)
  clear hb3 B2
  rw [HM.out]
  go_wp2_with fail
  refine (PNew_yes rm w3 (by omega) (by omega)).mono ?_
  rintro e w4 ⟨rfl, hq4, hb4⟩
  have X4 := Lib.hid (And.intro hq4 hb4)
  clear hq4 hb4 hmax hrm3
  obtain ⟨p, hp⟩ : ∃ p, w3.heap.size = p := ⟨_, rfl⟩
  rw [hp]
  have HP := Lib.hid hp
  clear hp
  go_wp2_with fail
  refine (PNew_yes rm w4 (by omega) (by omega)).mono ?_
  rintro e w5 ⟨rfl, hq5, hb5⟩
  have B5 : Hid (Duo (fun _ => False) (fun _ => False) w w5 p w4.heap.size rm (fun _ => ⟨false, []⟩) (fun _ => ⟨false, []⟩)) := by
    rw [← HP.out]; exact Duo.start B3.out X4.out.1 X4.out.2 hq5 hb5
  clear hq5 hb5 X4 B3 HP
  generalize w4.heap.size = q at *
  go_wp2_with fail
  go_loopw [55] (fun i wr => ∃ (k : Nat) (f g : Nat → Way), k ≤ l.length ∧ i = .int .i64 k ∧ Hid (f 0 = g 0 ∧ Duo (fun _ => False) (fun _ => False) w wr p q rm f g)) (fun i _ => l.length - (intOf i).toNat)
  case atStart => exact ⟨0, _, _, Nat.zero_le _, rfl, rfl, B5.out⟩
  case round =>
    obtain ⟨k, f, g, hk, rfl, HS⟩ := hrel
    by_cases hlt : k < l.length
    · obtain ⟨a, ha⟩ : ∃ a, l[k]? = some a := ⟨_, List.getElem?_eq_getElem hlt⟩
      have hza := small_at HL.out a (List.mem_of_getElem? ha)
      obtain ⟨_, A', c', e', hacts⟩ := HA.out.1
      injection e' with e1 _ e3
      subst e1 e3
      obtain ⟨b, o, rfl, hx⟩ := hacts (by omega)
      clear hacts
      have HAT := Lib.hid (hx k a ha)
      have hat := HAT.out.below HS.out.2.below
      have k0 := hat.kind
      have k1 := hat.side
      have k2 := hat.num
      have k3 := hat.list
      clear hat hx ha
      obtain ⟨kd, sd, nm, AA, cc, zs⟩ := a
      simp only at k0 k1 k2 k3 hza
      go_upto_if 63 with (fail)
      obtain ⟨cb, hcb⟩ : ∃ cb, wr.heap.size = cb := ⟨_, rfl⟩
      have hact := HS.out.2.more (.cells #[.int .i64 kd, .int .i64 sd, .int .i64 nm, .slice AA zs.length cc] 33)
      have hblk := Blk.new wr 33 #[.int .i64 kd, .int .i64 sd, .int .i64 nm, .slice AA zs.length cc]
      rw [hcb] at hact hblk ⊢
      obtain ⟨w5, hw5⟩ : ∃ w5, wr.alloc (.cells #[.int .i64 kd, .int .i64 sd, .int .i64 nm, .slice AA zs.length cc] 33) = w5 := ⟨_, rfl⟩
      rw [hw5] at hact hblk ⊢
      have HC := Lib.hid (And.intro hact hblk)
      have HE := Lib.hid HS.out.1
      clear hcb hw5 hact hblk k0 k1 k2 k3 HS
      go_cut [64] (fun _ wc => ∃ (f' : Nat → Way), Hid (f' 0 = g 0 ∧ Duo (fun b => b = cb) (fun b => b = cb) w wc p q rm f' g ∧ Blk wc cb 33 #[.int .i64 kd, .int .i64 sd, .int .i64 nm, .slice AA zs.length cc]))
      case first =>
        by_cases hkm : k < m.length
        · obtain ⟨a, ha⟩ : ∃ a, m[k]? = some a := ⟨_, List.getElem?_eq_getElem hkm⟩
          obtain ⟨_, B', d', e', hacts⟩ := HA.out.2.1
          injection e' with e1 _ e3
          subst e1 e3
          obtain ⟨b2, o2, rfl, hx⟩ := hacts (by omega)
          clear hacts
          have HAT2 := Lib.hid (hx k a ha)
          have hat := HAT2.out.below HC.out.1.below
          have k0 := hat.kind
          have k2 := hat.num
          have k3 := hat.list
          clear hat hx ha
          obtain ⟨kd2, sd2, nm2, AA2, cc2, zs2⟩ := a
          simp only at k0 k2 k3
          have hr := HAT2.out.rd.kept HC.out.1.below
          have hmx := HAT2.out.max
          simp only at hr hmx
          by_cases hk0 : kd2 = 0
          · have hb0 : (kd2 == 0) = true := by simpa using hk0
            clear hk0
            have HOp := Lib.hid (WriteP HC.out.1 1 (by omega) hr hmx)
            clear hr
            go_wp2_with fail
            refine HOp.out.mono ?_
            rintro e w6 ⟨rfl, h6, hk6⟩
            have H6 := Lib.hid (And.intro h6 hk6)
            clear h6 hk6
            go_wp2
            go_meet
            case rel => exact ⟨_, (upd_far _ _ (by omega)).trans HE.out, H6.out.1, H6.out.2.blk rfl HC.out.2⟩
          · have hb0 : (kd2 == 0) = false := by simpa using hk0
            clear hk0
            by_cases hk1 : kd2 = 1
            · have hb1 : (kd2 == 1) = true := by simpa using hk1
              clear hk1
              have HOp := Lib.hid (ReadP HC.out.1 HA.out.2.2 0 (by omega) nm2)
              clear hr
              go_wp2_with fail
              refine HOp.out.mono ?_
              rintro e w6 ⟨At, ct, gt, rfl, -, h6, hk6⟩
              have H6 := Lib.hid (And.intro h6 hk6)
              clear h6 hk6
              go_wp2
              go_meet
              case rel => exact ⟨_, (upd_far _ _ (by omega)).trans HE.out, H6.out.1.less (fun _ h => h) (fun _ h => .inl h), H6.out.2.blk rfl HC.out.2⟩
            · have hb1 : (kd2 == 1) = false := by simpa using hk1
              clear hk1 hr
              by_cases hk2 : kd2 = 2
              · have hb2 : (kd2 == 2) = true := by simpa using hk2
                clear hk2
                have HOp := Lib.hid (HangP HC.out.1 1 (by omega))
                go_wp2_with fail
                refine HOp.out.mono ?_
                rintro e w6 ⟨rfl, h6, hk6⟩
                have H6 := Lib.hid (And.intro h6 hk6)
                clear h6 hk6
                go_wp2
                go_meet
                case rel => exact ⟨_, (upd_far _ _ (by omega)).trans HE.out, H6.out.1, H6.out.2.blk rfl HC.out.2⟩
              · have hb2 : (kd2 == 2) = false := by simpa using hk2
                clear hk2
                go_wp2
                go_meet
                case rel => exact ⟨_, HE.out, HC.out⟩
        · go_wp2
          go_meet
          case rel => exact ⟨_, HE.out, HC.out⟩
      case rest =>
        obtain ⟨f1, HT⟩ := hcut
        clear HC HE
        have j0 : wc.cell? ⟨cb, 0, none⟩ = some (.int .i64 kd) := HT.out.2.2.cell 0
        have j2 : wc.cell? ⟨cb, 2, none⟩ = some (.int .i64 nm) := HT.out.2.2.cell 2
        have j3 : wc.cell? ⟨cb, 3, none⟩ = some (.slice AA zs.length cc) := HT.out.2.2.cell 3
        go_upto_block 3 with (fail)
        go_cut [93] (fun _ wd => ∃ (f' g' : Nat → Way), Hid (f' 0 = g' 0 ∧ Duo (fun _ => False) (fun _ => False) w wd p q rm f' g'))
        case first =>
          by_cases hk0 : kd = 0
          · have hb0 : (kd == 0) = true := by simpa using hk0
            clear hk0
            obtain ⟨np, hnp⟩ : ∃ np, putN rm (g 0).en (g 0).xs.length zs.length = np := ⟨_, rfl⟩
            have hmx := HAT.out.max
            simp only at hmx
            have PW1 : Hid (Calls Tryd.prog 13 #[.pointer (some ⟨p, 0, none⟩), .int .i64 0, .slice AA zs.length cc] wc.drew fun e w' => e = .returned (.int .i64 np) ∧ Duo (fun b => b = cb) (fun b => b = cb) w w' p q rm (upd f1 0 ⟨(g 0).en, (g 0).xs ++ zs.take np⟩) g ∧ Kept (fun b => b = cb) wc w') := by
              have h := WriteP HT.out.2.1.drew 0 (by omega) (HAT.out.rd.kept HT.out.2.1.drew.below) hmx
              simp only [HT.out.1, hnp] at h
              exact h
            have PW2 : Hid (∀ W f', Duo (fun b => b = cb) (fun b => b = cb) w W p q rm f' g → Calls Tryd.prog 13 #[.pointer (some ⟨q, 0, none⟩), .int .i64 0, .slice AA zs.length cc] W fun e w' => e = .returned (.int .i64 np) ∧ Duo (fun b => b = cb) (fun b => b = cb) w w' p q rm f' (upd g 0 ⟨(g 0).en, (g 0).xs ++ zs.take np⟩) ∧ Kept (fun b => b = cb) W w') := by
              intro W f' hd
              have h := WriteQ hd 0 (by omega) (HAT.out.rd.kept hd.below) hmx
              simp only [hnp] at h
              exact h
            clear hnp hmx
            go_wp2_with fail
            go_region_held3 (fun w' => w'.cell? ⟨cb, 3, none⟩ = some (.slice AA zs.length cc)) (go_keep) (first
              | (go_at_call 13; (with_reducible refine PW1.out.mono ?_); rintro e w6 ⟨rfl, h6, hk6⟩; have c6 : w6.cell? ⟨cb, 3, none⟩ = some (.slice AA zs.length cc) := (hk6.blk rfl HT.out.2.2).cell 3; have H6 := Lib.hid (And.intro h6 (hk6.blk rfl HT.out.2.2)); clear h6 hk6)
              | (go_at_call 13; (with_reducible refine (PW2.out _ _ (by exact H6.out.1)).mono ?_); rintro e w7 ⟨rfl, h7, hk7⟩; have c7 : w7.cell? ⟨cb, 3, none⟩ = some (.slice AA zs.length cc) := (hk7.blk rfl H6.out.2).cell 3; have H7 := Lib.hid h7; clear h7 hk7))
            all_goals
              go_wp2
              go_meet
              case rel => exact ⟨_, _, (upd_at _ _ _).trans (upd_at _ _ _).symm, H7.out.less (fun _ h => h.elim) (fun _ h => h.elim)⟩
          · have hb0 : (kd == 0) = false := by simpa using hk0
            clear hk0
            by_cases hk1 : kd = 1
            · have hb1 : (kd == 1) = true := by simpa using hk1
              clear hk1
              obtain ⟨ys, hys⟩ : ∃ ys, (g 0).xs.take nm.toNat = ys := ⟨_, rfl⟩
              obtain ⟨rs, hrs⟩ : ∃ rs, (g 0).xs.drop nm.toNat = rs := ⟨_, rfl⟩
              have PW1 : Hid (Calls Tryd.prog 14 #[.pointer (some ⟨p, 0, none⟩), .int .i64 1, .int .i64 nm] wc.drew fun e w' => ∃ At ct gt, e = .returned (.slice At ys.length ct) ∧ Row w' 5 gt (.slice At ys.length ct) (bv ys) ∧ Duo (fun b => b = cb) (fun b => b = cb ∨ gt = some b) w w' p q rm (upd f1 0 ⟨(g 0).en, rs⟩) g ∧ Kept (fun b => b = cb) wc w') := by
                have h := ReadP HT.out.2.1.drew HA.out.2.2 1 (by omega) nm
                simp only [Nat.sub_self, HT.out.1, hys, hrs] at h
                exact h
              have PW2 : Hid (∀ W f' gt, Duo (fun b => b = cb) (fun b => b = cb ∨ gt = some b) w W p q rm f' g → Calls Tryd.prog 14 #[.pointer (some ⟨q, 0, none⟩), .int .i64 1, .int .i64 nm] W fun e w' => ∃ At ct, e = .returned (.slice At ys.length ct) ∧ Rd w' (.slice At ys.length ct) (bv ys) ∧ Duo (fun b => b = cb) (fun b => b = cb ∨ gt = some b) w w' p q rm f' (upd g 0 ⟨(g 0).en, rs⟩) ∧ Kept (fun b => b = cb ∨ gt = some b) W w') := by
                intro W f' gt hd
                have h := ReadQ hd HA.out.2.2 1 (by omega) nm
                simp only [Nat.sub_self, hys, hrs] at h
                exact h
              clear hys hrs
              go_wp2_with fail
              go_region_held (fun w' => w'.cell? ⟨cb, 2, none⟩ = some (.int .i64 nm)) (go_keep) (first
                | (go_at_call 14; (with_reducible refine PW1.out.mono ?_); rintro e w6 ⟨At, ct, gt, rfl, hr6, h6, hk6⟩; have c6 : w6.cell? ⟨cb, 2, none⟩ = some (.int .i64 nm) := (hk6.blk rfl HT.out.2.2).cell 2; have s6 := run_str hr6.rd; have H6 := Lib.hid (And.intro h6 (And.intro (hk6.blk rfl HT.out.2.2) hr6)); clear h6 hk6 hr6)
                | (go_at_call 14; (with_reducible refine (PW2.out _ _ _ (by exact H6.out.1)).mono ?_); rintro e w7 ⟨Bt, dt, rfl, hr7, h7, hk7⟩; have c7 : w7.cell? ⟨cb, 2, none⟩ = some (.int .i64 nm) := (hk7.blk (.inl rfl) H6.out.2.1).cell 2; have s7 := run_str hr7; have t7 := run_str (H6.out.2.2.keep (fun b hb => hk7 b (.inr hb))).rd; have H7 := Lib.hid h7; clear h7 hk7 hr7))
              all_goals
                go_wp2
                go_meet
                case rel => exact ⟨_, _, (upd_at _ _ _).trans (upd_at _ _ _).symm, H7.out.less (fun _ h => h.elim) (fun _ h => h.elim)⟩
            · have hb1 : (kd == 1) = false := by simpa using hk1
              clear hk1
              by_cases hk2 : kd = 2
              · have hb2 : (kd == 2) = true := by simpa using hk2
                clear hk2
                have HOp := Lib.hid (HangP HT.out.2.1 0 (by omega))
                go_wp2_with fail
                refine HOp.out.mono ?_
                rintro e w6 ⟨rfl, h6, -⟩
                have HOq := Lib.hid (HangQ h6 0 (by omega))
                clear h6
                go_wp2_with fail
                refine HOq.out.mono ?_
                rintro e w7 ⟨rfl, h7, -⟩
                have H7 := Lib.hid h7
                clear h7
                go_wp2
                go_meet
                case rel => exact ⟨_, _, by rw [upd_at, upd_at, HT.out.1], H7.out.less (fun _ h => h.elim) (fun _ h => h.elim)⟩
              · have hb2 : (kd == 2) = false := by simpa using hk2
                clear hk2
                go_wp2
                go_meet
                case rel => exact ⟨_, _, HT.out.1, HT.out.2.1.less (fun _ h => h.elim) (fun _ h => h.elim)⟩
        case rest =>
          obtain ⟨f2, g2, HU⟩ := hcut
          clear HT j0 j2 j3
          obtain ⟨ov, hov⟩ : ∃ ov, ((g2 0).en && (g2 0).xs.isEmpty) = ov := ⟨_, rfl⟩
          obtain ⟨r, hr⟩ : ∃ r, roomOf rm (g2 0).en (g2 0).xs.length = r := ⟨_, rfl⟩
          have PO : Hid (Calls Tryd.prog 15 #[.pointer (some ⟨p, 0, none⟩), .int .i64 1] wc fun e w' => e = .returned (.bool ov) ∧ wc = w') := by
            have h := OverP HU.out.2 HA.out.2.2 1 (by omega)
            simp only [Nat.sub_self, HU.out.1, hov] at h
            exact h
          have PP : Hid (Calls Tryd.prog 15 #[.pointer (some ⟨q, 0, none⟩), .int .i64 1] wc fun e w' => e = .returned (.bool ov) ∧ wc = w') := by
            have h := OverP HU.out.2.swap HA.out.2.2 1 (by omega)
            simp only [Nat.sub_self, hov] at h
            exact h
          have PR : Hid (Calls Tryd.prog 17 #[.pointer (some ⟨p, 0, none⟩), .int .i64 0] wc fun e w' => e = .returned (.int .i64 r) ∧ ∃ n, w' = wc.drewN n) := by
            have h := RoomP HU.out.2 0 (by omega)
            simp only [HU.out.1, hr] at h
            exact h
          have PS : Hid (∀ n, Calls Tryd.prog 17 #[.pointer (some ⟨q, 0, none⟩), .int .i64 0] (wc.drewN n) fun e w' => e = .returned (.int .i64 r) ∧ Duo (fun _ => False) (fun _ => False) w w' p q rm f2 g2) := by
            intro n
            have h := RoomP (HU.out.2.drewN n).swap 0 (by omega)
            simp only [hr] at h
            exact h.mono fun e w' ⟨he, nn, hw⟩ => ⟨he, hw ▸ (HU.out.2.drewN n).drewN nn⟩
          clear hov hr
          go_wp2_with fail
          refine PO.out.mono ?_
          rintro e w' ⟨rfl, rfl⟩
          go_wp2_with fail
          refine PP.out.mono ?_
          rintro e w' ⟨rfl, rfl⟩
          go_wp2_with fail
          refine PR.out.mono ?_
          rintro e w' ⟨rfl, n, rfl⟩
          go_wp2_with fail
          refine (PS.out n).mono ?_
          rintro e w8 ⟨rfl, h8⟩
          have H8 := Lib.hid h8
          clear h8
          go_wp2
          go_roundw
          case rel => exact ⟨k + 1, f2, g2, by omega, by go_num, HU.out.1, H8.out⟩
          case measure => simp [intOf]; omega
    · obtain rfl : k = l.length := by omega
      have HE := Lib.hid HS.out.2.below
      clear HS
      go_wp2
      go_ret
      exact ⟨rfl, HE.out⟩

theorem ways_true (room : Int) (hr0 : room ≤ 9223372036854775807) (v : Value) (l : List ActV) (v' : Value) (m : List ActV) (w : World) (hl : Acts w v l) (hm : Acts w v' m) (ho : Oth w) :
    Calls Tryd.prog 6 #[.int .i64 room, v, v'] w fun e w' => e = .returned (.bool true) ∧ Below w.heap.size w w' := by
  cases h : (isGreat l || isGreat m) with
  | true => exact ways_great room v l v' m w hl hm ho h
  | false => exact ways_small room hr0 v l v' m w hl hm ho (Bool.or_eq_false_iff.1 h).1 (Bool.or_eq_false_iff.1 h).2
end Go.Proofs.YtniikeciccfjoaaDoor
