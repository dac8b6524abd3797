/-
  cuecardlaw06.PtyActs answers true for every room and every list of acts.
  Conditions: the package's table holds what its initialiser lays (Oth).
-/
import Derived.Test.YtniikeciccfjoaaDoorPPair
import Derived.Deep.DeepCutAuto
import Derived.Deep.CutBlock
import Derived.Deep.RegionHeld3
import Derived.Deep.QuietTactic
import Derived.BigQuiet
namespace Go.Proofs.YtniikeciccfjoaaDoor
open Go.RowKit

theorem quiet_l {P : Program} {f : FuncId} {args : Array Value} {w : World} {n : Nat} {v : Value}
    (h : Calls P f args (w.drewN n) fun e w' => e = .returned v ∧ w.drewN n = w') : Calls P f args (w.drewN n) fun e w'' => e = .returned v ∧ ∃ m, w'' = w.drewN m :=
  h.mono fun _ _ ⟨he, hm⟩ => ⟨he, n, hm.symm⟩
theorem small_len {l : List ActV} (h : isGreat l = false) : l.length ≤ 100 := by
  simp only [isGreat, Bool.or_eq_false_iff, decide_eq_false_iff_not] at h
  omega
theorem small_at {l : List ActV} (h : isGreat l = false) (a : ActV) (ha : a ∈ l) : a.zs.length ≤ 100 := by
  simp only [isGreat, Bool.or_eq_false_iff, List.any_eq_false] at h
  have := h.2 a ha
  simpa using this

set_option maxHeartbeats 4000000 in
set_option maxRecDepth 100000 in
theorem acts_great (room : Int) (v : Value) (l : List ActV) (w : World) (h : Acts w v l) (ho : Oth w) (hg : isGreat l = true) :
    Calls Tryd.prog 3 #[.int .i64 room, v] w fun e w' => e = .returned (.bool true) ∧ Below w.heap.size w w' := by
  have HA := Lib.hid (And.intro h ho)
  have HG := Lib.hid hg
  obtain ⟨_, A, c, rfl, -⟩ := h
  clear ho hg
  go_enter Tryd.func3, Tryd.ntmps3
  go_wp2_with fail
  refine (alive_true w HA.out.2).mono ?_
  rintro e w1 ⟨rfl, hb1⟩
  have B1 := Lib.hid hb1
  clear hb1
  go_wp2_with fail
  refine (great_any _ l w1 (HA.out.1.below B1.out)).mono ?_
  rintro e w2 ⟨rfl, hb2⟩
  have B2 : Hid (Below w.heap.size w w2) := B1.out.trans (hb2.mono B1.out.size)
  clear hb2 B1
  rw [HG.out]
  go_wp2_with fail
  refine (alive_true w2 (HA.out.2.below B2.out)).mono ?_
  rintro e w3 ⟨rfl, hb3⟩
  have B3 : Hid (Below w.heap.size w w3) := B2.out.trans (hb3.mono B2.out.size)
  clear hb3 B2
  go_wp2
  go_ret
  exact ⟨rfl, B3.out⟩

set_option maxHeartbeats 4000000 in
set_option maxRecDepth 100000 in
theorem acts_small (room : Int) (hr0 : room ≤ 9223372036854775807) (v : Value) (l : List ActV) (w : World) (h : Acts w v l) (ho : Oth w) (hg : isGreat l = false) :
    Calls Tryd.prog 3 #[.int .i64 room, v] w fun e w' => e = .returned (.bool true) ∧ Below w.heap.size w w' := by
  have HA := Lib.hid (And.intro h ho)
  have HG := Lib.hid hg
  obtain ⟨hm, A, c, rfl, -⟩ := h
  have hl100 := small_len hg
  clear ho hg
  obtain ⟨z, hz1, hmax⟩ : ∃ z : Nat, z ≤ 9223372036854775807 ∧ max 0 room = (z : Int) := ⟨room.toNat, by omega, by omega⟩
  obtain ⟨rm, hrm1, hrm2, hrm3⟩ : ∃ rm : Nat, 1 ≤ rm ∧ rm ≤ 30 ∧ 1 + (z : Int) % 30 = (rm : Int) := ⟨1 + z % 30, by omega, by omega, by omega⟩
  go_enter Tryd.func3, Tryd.ntmps3
  go_wp2_with fail
  refine (alive_true w HA.out.2).mono ?_
  rintro e w1 ⟨rfl, hb1⟩
  have B1 := Lib.hid hb1
  clear hb1
  go_wp2_with fail
  refine (great_any _ l w1 (HA.out.1.below B1.out)).mono ?_
  rintro e w2 ⟨rfl, hb2⟩
  have B2 : Hid (Below w.heap.size w w2) := B1.out.trans (hb2.mono B1.out.size)
  clear hb2 B1
  rw [HG.out]
  go_wp2_with fail
  refine (PNew_yes rm w2 (by omega) (by omega)).mono ?_
  rintro e w3 ⟨rfl, hq3, hb3⟩
  have X3 := Lib.hid (And.intro hq3 hb3)
  clear hq3 hb3 hmax hrm3
  obtain ⟨p, hp⟩ : ∃ p, w2.heap.size = p := ⟨_, rfl⟩
  rw [hp]
  have HP := Lib.hid hp
  clear hp
  go_wp2_with fail
  refine (DNew_any rm w3 (by omega)).mono ?_
  rintro e w4 ⟨rfl, hq4, hb4⟩
  obtain ⟨m, hm0⟩ : ∃ m, w3.heap.size + 2 = m := ⟨_, rfl⟩
  have B4 : Hid (Pair (fun _ => False) (fun _ => False) w w4 p m rm (fun _ => ⟨false, []⟩) (fun _ => ⟨false, []⟩)) := by
    rw [← HP.out, ← hm0]; exact Pair.start B2.out X3.out.1 X3.out.2 hq4 hb4
  rw [hm0]
  clear hq4 hb4 X3 B2 HP hm0
  go_wp2_with fail
  go_loopw [38] (fun i wr => ∃ (k : Nat) (f t : Nat → Way), k ≤ l.length ∧ i = .int .i64 k ∧ Hid (Alike f t ∧ Pair (fun _ => False) (fun _ => False) w wr p m rm f t)) (fun i _ => l.length - (intOf i).toNat)
  case atStart => exact ⟨0, fun _ => ⟨false, []⟩, fun _ => ⟨false, []⟩, Nat.zero_le _, rfl, fun _ _ => rfl, B4.out⟩
  case round =>
    obtain ⟨k, f, t, hk, rfl, HS⟩ := hrel
    by_cases hlt : k < l.length
    · obtain ⟨a, ha⟩ : ∃ a, l[k]? = some a := ⟨_, List.getElem?_eq_getElem hlt⟩
      have hza := small_at HG.out a (List.mem_of_getElem? ha)
      obtain ⟨_, A', c', e', hacts⟩ := HA.out.1
      injection e' with e1 _ e3
      subst e1 e3
      obtain ⟨b, o, rfl, hx⟩ := hacts (by omega)
      clear hacts
      have HAT := Lib.hid (hx k a ha)
      have hat := HAT.out.below HS.out.2.below
      have k0 := hat.kind
      have k1 := hat.side
      have k2 := hat.num
      have k3 := hat.list
      clear hat hx ha
      obtain ⟨kd, sd, nm, AA, cc, zs⟩ := a
      simp only at k0 k1 k2 k3 hza
      by_cases hs01 : sd = 0 ∨ sd = 1
      · obtain ⟨s, hs2, rfl⟩ : ∃ s : Nat, s < 2 ∧ sd = (s : Int) := ⟨sd.toNat, by omega, by omega⟩
        have hsI0 : (0 : Int) ≤ (s : Int) := by omega
        have hsI : (s : Int) < 2 := by omega
        have HS2 := Lib.hid hs2
        clear hs01
        go_upto_region 11 with (fail)
        obtain ⟨cb, hcb⟩ : ∃ cb, wr.heap.size = cb := ⟨_, rfl⟩
        have hact := HS.out.2.more (.cells #[.int .i64 kd, .int .i64 s, .int .i64 nm, .slice AA zs.length cc] 33)
        have hblk := Blk.new wr 33 #[.int .i64 kd, .int .i64 s, .int .i64 nm, .slice AA zs.length cc]
        rw [hcb] at hact hblk ⊢
        obtain ⟨w5, hw5⟩ : ∃ w5, wr.alloc (.cells #[.int .i64 kd, .int .i64 s, .int .i64 nm, .slice AA zs.length cc] 33) = w5 := ⟨_, rfl⟩
        rw [hw5] at hact hblk ⊢
        have HC := Lib.hid (And.intro hact hblk)
        have HE := Lib.hid HS.out.1
        clear hcb hw5 hact hblk k0 k1 k2 k3 HS
        go_cut [49] (fun v wc => v = .bool false ∧ w5 = wc)
        case first =>
          rcases (show s = 0 ∨ s = 1 by have := HS2.out; omega) with rfl | rfl
          · have j1 : w5.cell? ⟨cb, 1, none⟩ = some (.int .i64 0) := HC.out.2.cell 1
            go_wp2
            go_meet
            case rel => exact ⟨rfl, rfl⟩
          · have j1 : w5.cell? ⟨cb, 1, none⟩ = some (.int .i64 1) := HC.out.2.cell 1
            go_wp2
            go_meet
            case rel => exact ⟨rfl, rfl⟩
        case rest =>
          obtain ⟨rfl, rfl⟩ := hcut
          have j0 : w5.cell? ⟨cb, 0, none⟩ = some (.int .i64 kd) := HC.out.2.cell 0
          have j1 : w5.cell? ⟨cb, 1, none⟩ = some (.int .i64 s) := HC.out.2.cell 1
          have j2 : w5.cell? ⟨cb, 2, none⟩ = some (.int .i64 nm) := HC.out.2.cell 2
          have j3 : w5.cell? ⟨cb, 3, none⟩ = some (.slice AA zs.length cc) := HC.out.2.cell 3
          go_upto_block 2 with (fail)
          go_cut [93] (fun _ wc => ∃ (f' t' : Nat → Way), Hid (Alike f' t' ∧ Pair (fun _ => False) (fun _ => False) w wc p m rm f' t'))
          case first =>
            by_cases hk0 : kd = 0
            · have hb0 : (kd == 0) = true := by simpa using hk0
              clear hk0
              have hs2 := HS2.out
              have hts := HE.out s hs2
              obtain ⟨np, hnp⟩ : ∃ np, putN rm (f s).en (f s).xs.length zs.length = np := ⟨_, rfl⟩
              obtain ⟨y, hy⟩ : ∃ y, Way.mk (f s).en ((f s).xs ++ zs.take np) = y := ⟨_, rfl⟩
              have hmx := HAT.out.max
              simp only at hmx
              have PW1 : Hid (Calls Tryd.prog 13 #[.pointer (some ⟨p, 0, none⟩), .int .i64 s, .slice AA zs.length cc] w5.drew fun e w' => e = .returned (.int .i64 np) ∧ Pair (fun b => b = cb) (fun b => b = cb) w w' p m rm (upd f s y) t ∧ Stay (fun b => b = cb) w5 w') := by
                have h := pair_write HC.out.1.drew s hs2 (HAT.out.rd.kept HC.out.1.drew.below) hmx
                simp only [hnp, hy] at h
                exact h
              have PW2 : Hid (∀ W f', Pair (fun b => b = cb) (fun b => b = cb) w W p m rm f' t → Calls Tryd.prog 18 #[.pointer (some ⟨m, 0, none⟩), .int .i64 s, .slice AA zs.length cc] W fun e w' => e = .returned (.int .i64 np) ∧ Pair (fun b => b = cb) (fun b => b = cb) w w' p m rm f' (upd t (1 - s) y) ∧ Stay (fun b => b = cb) W w') := by
                intro W f' hd
                have h := pair_dwrite hd s hs2 (HAT.out.rd.kept hd.below) (by simp only; omega) HAT.out.byte
                simp only [hts, hnp, hy] at h
                exact h
              clear hnp hmx hy hts hs2
              go_wp2_with fail
              go_region_held (fun w' => w'.cell? ⟨cb, 3, none⟩ = some (.slice AA zs.length cc) ∧ w'.cell? ⟨cb, 1, none⟩ = some (.int .i64 s)) (go_keep) (first
                | (go_at_call 13; (with_reducible refine PW1.out.mono ?_); rintro e w6 ⟨rfl, h6, hk6⟩; have hb6 := hk6.blk rfl HC.out.2; have c6 : w6.cell? ⟨cb, 3, none⟩ = some (.slice AA zs.length cc) := hb6.cell 3; have d6 : w6.cell? ⟨cb, 1, none⟩ = some (.int .i64 s) := hb6.cell 1; have H6 := Lib.hid (And.intro h6 hb6); clear h6 hk6 hb6)
                | (go_at_call 18; (with_reducible refine (PW2.out _ _ (by exact H6.out.1)).mono ?_); rintro e w7 ⟨rfl, h7, hk7⟩; have hb7 := hk7.blk rfl H6.out.2; have c7 : w7.cell? ⟨cb, 3, none⟩ = some (.slice AA zs.length cc) := hb7.cell 3; have d7 : w7.cell? ⟨cb, 1, none⟩ = some (.int .i64 s) := hb7.cell 1; have H7 := Lib.hid h7; clear h7 hk7 hb7))
              all_goals
                go_wp2
                go_meet
                case rel => exact ⟨_, _, HE.out.upd HS2.out y, H7.out.none_⟩
            · have hb0 : (kd == 0) = false := by simpa using hk0
              clear hk0
              by_cases hk1 : kd = 1
              · have hb1 : (kd == 1) = true := by simpa using hk1
                clear hk1
                have hs2 := HS2.out
                have hts := HE.out.to s hs2
                obtain ⟨ys, hys⟩ : ∃ ys, (f (1 - s)).xs.take nm.toNat = ys := ⟨_, rfl⟩
                obtain ⟨y, hy⟩ : ∃ y, Way.mk (f (1 - s)).en ((f (1 - s)).xs.drop nm.toNat) = y := ⟨_, rfl⟩
                have PW1 : Hid (Calls Tryd.prog 14 #[.pointer (some ⟨p, 0, none⟩), .int .i64 s, .int .i64 nm] w5.drew fun e w' => ∃ At ct gt, e = .returned (.slice At ys.length ct) ∧ Row w' 5 gt (.slice At ys.length ct) (bv ys) ∧ Pair (fun b => b = cb) (fun b => b = cb ∨ gt = some b) w w' p m rm (upd f (1 - s) y) t ∧ Stay (fun b => b = cb) w5 w') := by
                  have h := pair_read HC.out.1.drew HA.out.2 s hs2 nm
                  simp only [hys, hy] at h
                  exact h
                have PW2 : Hid (∀ W f' gt, Pair (fun b => b = cb) (fun b => b = cb ∨ gt = some b) w W p m rm f' t → Calls Tryd.prog 19 #[.pointer (some ⟨m, 0, none⟩), .int .i64 s, .int .i64 nm] W fun e w' => ∃ At ct, e = .returned (.slice At ys.length ct) ∧ Rd w' (.slice At ys.length ct) (bv ys) ∧ Pair (fun b => b = cb) (fun b => b = cb ∨ gt = some b) w w' p m rm f' (upd t s y) ∧ Stay (fun b => b = cb ∨ gt = some b) W w') := by
                  intro W f' gt hd
                  have h := pair_dread hd s hs2 nm
                  simp only [hts, hys, hy] at h
                  exact h
                clear hys hy hts hs2
                go_wp2_with fail
                go_region_held (fun w' => w'.cell? ⟨cb, 2, none⟩ = some (.int .i64 nm) ∧ w'.cell? ⟨cb, 1, none⟩ = some (.int .i64 s)) (go_keep) (first
                  | (go_at_call 14; (with_reducible refine PW1.out.mono ?_); rintro e w6 ⟨At, ct, gt, rfl, hr6, h6, hk6⟩; have hb6 := hk6.blk rfl HC.out.2; have c6 : w6.cell? ⟨cb, 2, none⟩ = some (.int .i64 nm) := hb6.cell 2; have d6 : w6.cell? ⟨cb, 1, none⟩ = some (.int .i64 s) := hb6.cell 1; have s6 := run_str hr6.rd; have H6 := Lib.hid (And.intro h6 (And.intro hb6 hr6)); clear h6 hk6 hr6 hb6)
                  | (go_at_call 19; (with_reducible refine (PW2.out _ _ _ (by exact H6.out.1)).mono ?_); rintro e w7 ⟨Bt, dt, rfl, hr7, h7, hk7⟩; have hb7 := hk7.blk (.inl rfl) H6.out.2.1; have c7 : w7.cell? ⟨cb, 2, none⟩ = some (.int .i64 nm) := hb7.cell 2; have d7 : w7.cell? ⟨cb, 1, none⟩ = some (.int .i64 s) := hb7.cell 1; have s7 := run_str hr7; have t7 := run_str (hk7.row (fun b e => .inr e) H6.out.2.2).rd; have H7 := Lib.hid h7; clear h7 hk7 hr7 hb7))
                all_goals
                  go_wp2
                  go_meet
                  case rel => exact ⟨_, _, HE.out.upd' HS2.out y, H7.out.none_⟩
              · have hb1 : (kd == 1) = false := by simpa using hk1
                clear hk1
                by_cases hk2 : kd = 2
                · have hb2 : (kd == 2) = true := by simpa using hk2
                  clear hk2
                  have HOp := Lib.hid (pair_hang HC.out.1 s HS2.out)
                  go_wp2_with fail
                  refine HOp.out.mono ?_
                  rintro e w6 ⟨rfl, h6, hk6⟩
                  have hb6 := hk6.blk rfl HC.out.2
                  have d6 : w6.cell? ⟨cb, 1, none⟩ = some (.int .i64 s) := hb6.cell 1
                  obtain ⟨r, hr⟩ : ∃ r, 1 - s = r := ⟨_, rfl⟩
                  have hrI : (1 : Int) - (s : Int) = (r : Int) := by have := HS2.out; omega
                  have hr0 : (0 : Int) ≤ (r : Int) := by omega
                  have hr1 : (r : Int) < 2 := by omega
                  obtain ⟨q, A6, c6, x1, x2, x3, x4, x5, -⟩ := pair_queue h6 r (by omega)
                  have H7 := Lib.hid x5
                  have HR := Lib.hid (And.intro hr (HE.out s HS2.out))
                  clear h6 hk6 hb6 x5 hr x2
                  go_wp2_with fail
                  go_region
                  go_wp2
                  go_meet
                  case rel =>
                    refine ⟨_, _, ?_, H7.out.drew.none_⟩
                    have e1 := HR.out.2
                    rw [HR.out.1] at e1
                    have := HE.out.upd HS2.out ⟨true, (f s).xs⟩
                    rw [HR.out.1] at this
                    rw [e1]
                    exact this
                · have hb2 : (kd == 2) = false := by simpa using hk2
                  clear hk2
                  go_wp2
                  go_meet
                  case rel => exact ⟨_, _, HE.out, HC.out.1.none_⟩
          case rest =>
            obtain ⟨f2, t2, HU⟩ := hcut
            clear HC HE HS2 hsI0 hsI j0 j1 j2 j3
            go_wp2_with fail
            go_loopw [141] (fun i wi => ∃ j : Int, (j = 0 ∨ j = 1 ∨ j = 2) ∧ i = .int .i64 j ∧ Hid (Pair (fun _ => False) (fun _ => False) w wi p m rm f2 t2)) (fun i _ => 2 - (intOf i).toNat)
            case atStart => exact ⟨0, .inl rfl, rfl, HU.out.2⟩
            case round =>
              obtain ⟨j, hj, rfl, HI⟩ := hrel
              by_cases hj2 : j = 2
              · subst hj2
                clear hj
                go_wp2
                go_roundw
                case rel => exact ⟨k + 1, f2, t2, by omega, by go_num, HU.out.1, HI.out⟩
                case measure => simp [intOf]; omega
              · obtain ⟨J, hJ, hJ2⟩ : ∃ J : Nat, j = J ∧ J < 2 := ⟨j.toNat, by omega, by omega⟩
                obtain ⟨K, hK⟩ : ∃ K : Nat, 1 - J = K := ⟨_, rfl⟩
                have hK2 : K < 2 := by omega
                have e1 : t2 J = f2 K := by rw [← hK]; exact HU.out.1.to J hJ2
                have e2 : t2 K = f2 J := by rw [← hK]; exact HU.out.1 J hJ2
                obtain ⟨xs, hxs⟩ : ∃ xs, (f2 K).xs = xs := ⟨_, rfl⟩
                obtain ⟨ov, hov⟩ : ∃ ov, ((f2 K).en && xs.isEmpty) = ov := ⟨_, rfl⟩
                obtain ⟨r, hr⟩ : ∃ r, roomOf rm (f2 J).en (f2 J).xs.length = r := ⟨_, rfl⟩
                have PO : Hid (∀ n, Calls Tryd.prog 15 #[.pointer (some ⟨p, 0, none⟩), .int .i64 (J : Int)] (wr.drewN n) fun e w' => e = .returned (.bool ov) ∧ wr.drewN n = w') := by
                  intro n
                  have := pair_over (HI.out.drewN n) HA.out.2 J hJ2
                  rwa [hK, hxs, hov] at this
                have PD : Hid (∀ n, Calls Tryd.prog 20 #[.pointer (some ⟨m, 0, none⟩), .int .i64 (J : Int)] (wr.drewN n) fun e w' => e = .returned (.bool ov) ∧ wr.drewN n = w') := by
                  intro n
                  have := pair_dover (HI.out.drewN n) J hJ2
                  rwa [e1, hxs, hov] at this
                have PT : Hid (∀ n, Calls Tryd.prog 16 #[.pointer (some ⟨p, 0, none⟩), .int .i64 (J : Int)] (wr.drewN n) fun e w' => e = .returned (.int .i64 xs.length) ∧ wr.drewN n = w') := by
                  intro n
                  have := pair_waits (HI.out.drewN n) HA.out.2 J hJ2
                  rwa [hK, hxs] at this
                have PR : Hid (∀ n, Calls Tryd.prog 17 #[.pointer (some ⟨p, 0, none⟩), .int .i64 (J : Int)] (wr.drewN n) fun e w' => e = .returned (.int .i64 r) ∧ ∃ n', w' = wr.drewN n') := by
                  intro n
                  have := pair_room (HI.out.drewN n) J hJ2
                  rw [hr] at this
                  exact this.mono fun e w' ⟨he, n', hw⟩ => ⟨he, n + n', by rw [hw]; exact World.drewN_drewN ..⟩
                obtain ⟨q1, A1, c1, x1, x2, -, -, -, -⟩ := pair_queue HI.out J hJ2
                obtain ⟨q2, A2, c2, y1, -, -, -, -, y6⟩ := pair_queue HI.out K hK2
                rw [e1, hxs] at x2
                rw [e2, hr] at y6
                have HR := Lib.hid y6
                have hN := Lib.hid (show j = 0 ∨ j = 1 by omega)
                clear hov hxs hr y6 e1 e2
                rcases hN.out with rfl | rfl
                · obtain rfl : J = 0 := by omega
                  obtain rfl : K = 1 := by omega
                  clear hj hj2 hJ hJ2 hN hK hK2
                  go_wp2_with fail
                  go_quiet ((first
                    | (go_at_call 15; exact quiet_l (PO.out _))
                    | (go_at_call 20; exact quiet_l (PD.out _))
                    | (go_at_call 16; exact quiet_l (PT.out _))
                    | (go_at_call 17; exact PR.out _)
                    | (go_at_call 21; exact HR.out _)))
                  go_wp2
                  go_roundw
                  case rel => exact ⟨1, .inr (.inl rfl), rfl, HI.out.drewN _⟩
                  case measure => simp [intOf]
                · obtain rfl : J = 1 := by omega
                  obtain rfl : K = 0 := by omega
                  clear hj hj2 hJ hJ2 hN hK hK2
                  go_wp2_with fail
                  go_quiet ((first
                    | (go_at_call 15; exact quiet_l (PO.out _))
                    | (go_at_call 20; exact quiet_l (PD.out _))
                    | (go_at_call 16; exact quiet_l (PT.out _))
                    | (go_at_call 17; exact PR.out _)
                    | (go_at_call 21; exact HR.out _)))
                  go_wp2
                  go_roundw
                  case rel => exact ⟨2, .inr (.inr rfl), rfl, HI.out.drewN _⟩
                  case measure => simp [intOf]
      · have h0 : sd ≠ 0 := fun e => hs01 (.inl e)
        have h1 : sd ≠ 1 := fun e => hs01 (.inr e)
        have hb0 : (sd != 0) = true := by simpa using h0
        have hb1 : (sd != 1) = true := by simpa using h1
        have H01 := Lib.hid (And.intro h0 h1)
        clear hs01 h0 h1
        have HN : Hid (Pair (fun _ => False) (fun _ => False) w (wr.alloc (.cells #[.int .i64 kd, .int .i64 sd, .int .i64 nm, .slice AA zs.length cc] 33)) p m rm f t) := (HS.out.2.more _).none_
        go_wp2_with (first
          | (go_at_call 12; refine (PHang_no _ _ H01.out.1 H01.out.2 _).mono ?_; rintro e w' ⟨rfl, rfl⟩)
          | (go_at_call 13; refine (PWrite_no _ _ _ _ _ H01.out.1 H01.out.2 _).mono ?_; rintro e w' ⟨rfl, rfl⟩)
          | (go_at_call 14; refine (PRead_no _ _ _ H01.out.1 H01.out.2 _).mono ?_; rintro e w' ⟨rfl, rfl⟩)
          | (go_at_call 15; refine (POver_no _ _ H01.out.1 H01.out.2 _).mono ?_; rintro e w' ⟨rfl, rfl⟩)
          | (go_at_call 16; refine (PWaits_no _ _ H01.out.1 H01.out.2 _).mono ?_; rintro e w' ⟨rfl, rfl⟩)
          | (go_at_call 17; refine (PRoom_no _ _ H01.out.1 H01.out.2 _).mono ?_; rintro e w' ⟨rfl, rfl⟩))
        go_roundw
        case rel => exact ⟨k + 1, f, t, by omega, by go_num, HS.out.1, HN.out⟩
        case measure => simp [intOf]; omega
    · obtain rfl : k = l.length := by omega
      have HE := Lib.hid HS.out.2.below
      clear HS
      go_wp2
      go_ret
      exact ⟨rfl, HE.out⟩

theorem acts_true (room : Int) (hr0 : room ≤ 9223372036854775807) (v : Value) (l : List ActV) (w : World) (h : Acts w v l) (ho : Oth w) :
    Calls Tryd.prog 3 #[.int .i64 room, v] w fun e w' => e = .returned (.bool true) ∧ Below w.heap.size w w' := by
  cases hg : isGreat l with
  | true => exact acts_great room v l w h ho hg
  | false => exact acts_small room hr0 v l w h ho hg
end Go.Proofs.YtniikeciccfjoaaDoor
