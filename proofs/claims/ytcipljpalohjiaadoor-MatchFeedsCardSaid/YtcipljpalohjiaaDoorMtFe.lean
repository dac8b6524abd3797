/-
  The law MatchFeeds.
  Conditions: each pattern has at most 1048576 bytes.
-/
import Derived.Test.YtcipljpalohjiaaDoorMtFi
namespace Go.Proofs.YtcipljpalohjiaaDoor
open Go.RowKit

set_option maxRecDepth 100000 in
set_option maxHeartbeats 8000000 in
theorem feeds_true (z : Int) (A : Option Addr) (n c : Nat) (b : List Nat) (v : Value) (l : List Brc) (w : World) [tz : TzW w] (hr : Rd w (.slice A n c) (bv b)) (hbb : ∀ d ∈ b, d < 256) (hnn : n ≤ 9223372036854775807) (h : Brs all w v l) (hx : ∀ x ∈ l, BrIn x) (hl : l.length ≤ 9223372036854775807) :
    Calls Tryd.prog 3 #[.int .i64 z, .slice A n c, v] w fun e w' => e = .returned (.bool true) ∧ Below w.heap.size w w' := by
  obtain rfl := hr.bytes
  obtain ⟨D, d, rfl, -⟩ := h.form
  have HR := Lib.hid hr
  have HB := Lib.hid h
  have HX := Lib.hid hx
  have HBB := Lib.hid hbb
  have HG := Lib.hid (fun W (hW : Below w.heap.size w W) => great_is A c b (.slice D l.length d) l W hnn (SlI.below brc_ok h hW) hx hl)
  have HCK := Lib.hid (fun W (hW : Below w.heap.size w W) => RCheck_is z (.slice D l.length d) l W (SlI.below brc_ok h hW) hx)
  clear hr h hx hbb hl
  go_enter Tryd.func3, Tryd.ntmps3
  go_wp2_with fail
  refine (alive_true (Below.refl _ _)).mono ?_
  rintro e w1 ⟨rfl, hb⟩
  have X1 := Lib.hid hb
  have HG1 := Lib.hid (HG.out w1 X1.out)
  clear hb
  cases hbig : bigB b l with
  | true =>
    rw [hbig] at HG1
    clear hbig
    go_wp2_with fail
    refine HG1.out.mono ?_
    rintro e w2 ⟨rfl, hb⟩
    have X2 := Lib.hid (X1.out.trans (hb.mono X1.out.size))
    clear hb
    go_wp2_with fail
    refine (alive_true (X2.out)).mono ?_
    rintro e w3 ⟨rfl, hb⟩
    have X3 := Lib.hid (X2.out.trans (hb.mono X2.out.size))
    clear hb
    go_wp2_with fail
    go_ret
    exact ⟨rfl, X3.out⟩
  | false =>
    obtain ⟨hb60, hl70⟩ := big_small hbig
    rw [hbig] at HG1
    clear hbig
    go_wp2_with fail
    refine HG1.out.mono ?_
    rintro e w2 ⟨rfl, hb⟩
    have X2 := Lib.hid (X1.out.trans (hb.mono X1.out.size))
    clear hb HG1 HG X1
    by_cases hc : checkS z l = 0
    · obtain ⟨hz1, hz2, -, hw⟩ := check_zero hc
      obtain ⟨n, rfl⟩ : ∃ n : Nat, z = (n : Int) := ⟨z.toNat, by omega⟩
      have HH := Lib.hid (fun (t : List Nat) (ht : ∀ d ∈ t, d < 256) (htl : t.length ≤ 60) W (hW : Below w.heap.size w W) => RHit_is (n : Int) ⟨hz1, hz2⟩ t ht (by omega) (.slice D l.length d) l W (SlI.below brc_ok HB.out hW) HX.out hw (by omega))
      have HN2 := Lib.hid (new_m n (.slice D l.length d) l X2.out (SlI.below brc_ok HB.out X2.out) HX.out hc)
      have HCZ := Lib.hid hc
      clear hc hw
      go_wp2_with fail
      refine HN2.out.mono ?_
      rintro e w3 ⟨m, rfl, hm⟩
      have X3 := Lib.hid hm
      have HC3 := Lib.hid (HCK.out w3 X3.out.below)
      rw [HCZ.out] at HC3
      clear hm HN2 X2 HCK
      go_wp2_with fail
      refine HC3.out.mono ?_
      rintro e w4 ⟨rfl, hb⟩
      have X4 := Lib.hid (X3.out.keep (mat_framed _ _ _ _) hb)
      clear hb HC3 X3
      go_wp2_with fail
      go_loopw [56] (fun iv wr => ∃ r : Nat, r ≤ 2 ∧ iv = .int .i64 (r : Nat) ∧ Hid (Has (MatT m n l []) (fun _ => False) w wr)) (fun iv _ => 2 - (intOf iv).toNat)
      case atStart => exact ⟨0, by omega, rfl, X4⟩
      case round =>
        obtain ⟨r, hr, rfl, HW⟩ := hrel
        clear X4
        by_cases hr2 : r < 2
        · have r1 : decide ((r : Int) < 2) = true := decide_eq_true (by omega)
          have H5 := Lib.hid (HH.out [] (by simp) (by simp) wr HW.out.below)
          rw [show str [] = (⟨#[]⟩ : ByteArray) from rfl] at H5
          go_wp2_with fail
          refine H5.out.mono ?_
          rintro e w5 ⟨rfl, hb⟩
          have X5 := Lib.hid (HW.out.keep (mat_framed _ _ _ _) hb)
          clear hb H5 HW
          have HM : Hid (∀ (N : Nat → Prop) (W : World), Has (MatT m n l []) N w W → Calls Tryd.prog 15 #[.pointer (some ⟨m, 0, none⟩)] W fun e w' => e = .returned (hitE (hitS (n : Nat) [] l) 0) ∧ Has (MatT m n l []) N w w' ∧ Stay N W w') := Lib.hid fun N W hW => start_1 hW
          cases hq : hitS (n : Int) [] l with
          | none =>
            rw [show hitV none = .tuple #[.int .i64 (-1), .int .i64 0] from rfl]
            rw [hq, show hitE none 0 = .tuple #[.agg #[.int .i64 0, .int .i64 0, .int .i64 0], .bool false] from rfl] at HM
            clear hq
            go_wp2_with fail
            refine (hit_none 0 0 _).mono ?_
            rintro e w6 ⟨rfl, hb⟩
            have X6 := Lib.hid (X5.out.keep (mat_framed _ _ _ _) hb)
            have X7 := Lib.hid (X6.out.more (mat_framed _ _ _ _) (.cells #[.int .i64 0, .int .i64 0, .int .i64 0] 34))
            have B7 := Lib.hid (Blk.new w6 34 #[.int .i64 0, .int .i64 0, .int .i64 0])
            clear hb X5
            go_upto_region 13 with (fail)
            generalize hP : w6.heap.size = P at *
            generalize World.alloc w6 _ = w7 at *
            clear hP X6
            have M7 := Lib.hid (HM.out _ w7 X7.out)
            go_wp2_with fail
            refine M7.out.mono ?_
            rintro e w8 ⟨rfl, hm, hst⟩
            have X8 := Lib.hid (hm.keep (mat_framed _ _ _ _) ((Below.refl _ w8).alloc (Nat.le_refl _) (.cells #[.int .i64 0, .int .i64 0, .int .i64 0] 34)))
            have b8 := hst.blk (.inr rfl) B7.out
            have hlt := b8.lt
            have hne : P ≠ w8.heap.size := by omega
            obtain ⟨c0, c1, c2⟩ := hit_cells b8 ((Below.refl _ w8).alloc (Nat.le_refl _) (.cells #[.int .i64 0, .int .i64 0, .int .i64 0] 34))
            clear hm hst b8 X7 B7 M7
            go_wp2_with fail
            clear HM hlt hne c0 c1 c2
            go_loopw [85] (fun iv wr => ∃ k : Nat, k ≤ b.length ∧ iv = .int .i64 (k : Nat) ∧ Hid (Has (MatT m n l (b.take k)) (fun _ => False) w wr)) (fun iv _ => b.length - (intOf iv).toNat)
            case atStart => exact ⟨0, by omega, rfl, Lib.hid (by rw [List.take_zero]; exact X8.out.none_)⟩
            case round =>
              obtain ⟨k, hk, rfl, HW⟩ := hrel
              clear X8
              by_cases hlt2 : k < b.length
              · obtain ⟨bb, oo, dd, rfl, cd, hd⟩ := (HR.out.kept HW.out.below).byteAt hlt2
                have hd6 := HBB.out dd (List.mem_of_getElem? hd)
                have HT : Hid (b.take (k + 1) = b.take k ++ [dd]) := Lib.hid (by rw [List.take_add_one, hd]; rfl)
                have hlk : (b.take k).length = k := by rw [List.length_take]; omega
                obtain ⟨A6, hrun6, hr6⟩ := run_upto HR.out (k := k + 1) (by omega)
                have s6 := run_str (hr6.kept HW.out.below)
                rw [show (((k + 1 : Nat)) : Int) = (k : Int) + 1 by omega] at hrun6
                have H6 := Lib.hid (HH.out (b.take (k + 1)) (fun x hx => HBB.out x (List.mem_of_mem_take hx)) (by rw [List.length_take]; omega) wr HW.out.below)
                have HM : Hid (∀ (N : Nat → Prop) (W : World), Has (MatT m n l (b.take k)) N w W → Calls Tryd.prog 16 #[.pointer (some ⟨m, 0, none⟩), .int .u8 (dd : Nat)] W fun e w' => e = .returned (hitE (hitS (n : Nat) (b.take (k + 1)) l) (k + 1)) ∧ Has (MatT m n l (b.take (k + 1))) N w w' ∧ Stay N W w') := Lib.hid fun N W hW => by
                  have := feed_1 hW dd hd6 (by omega)
                  rw [hlk, ← HT.out] at this
                  exact this
                generalize str (b.take (k + 1)) = sk at *
                clear hd hr6 hlk
                go_wp2_with fail
                refine H6.out.mono ?_
                rintro e w6b ⟨rfl, hb⟩
                have X6b := Lib.hid (HW.out.keep (mat_framed _ _ _ _) hb)
                clear hb H6 HW s6 hrun6 cd
                cases hq : hitS (n : Int) (b.take (k + 1)) l with
                | none =>
                  rw [show hitV none = .tuple #[.int .i64 (-1), .int .i64 0] from rfl]
                  rw [hq, show hitE none (k + 1) = .tuple #[.agg #[.int .i64 0, .int .i64 0, .int .i64 0], .bool false] from rfl] at HM
                  clear hq
                  go_wp2_with fail
                  refine (hit_none 0 ((k : Int) + 1) _).mono ?_
                  rintro e w6 ⟨rfl, hb⟩
                  have X6 := Lib.hid (X6b.out.keep (mat_framed _ _ _ _) hb)
                  have X7 := Lib.hid (X6.out.more (mat_framed _ _ _ _) (.cells #[.int .i64 0, .int .i64 0, .int .i64 0] 34))
                  have B7 := Lib.hid (Blk.new w6 34 #[.int .i64 0, .int .i64 0, .int .i64 0])
                  clear hb X6b
                  go_upto_region 21 with (fail)
                  generalize hP : w6.heap.size = P at *
                  generalize World.alloc w6 _ = w7 at *
                  clear hP X6
                  have M7 := Lib.hid (HM.out _ w7 X7.out)
                  go_wp2_with fail
                  refine M7.out.mono ?_
                  rintro e w8 ⟨rfl, hm, hst⟩
                  have X8 := Lib.hid (hm.keep (mat_framed _ _ _ _) ((Below.refl _ w8).alloc (Nat.le_refl _) (.cells #[.int .i64 0, .int .i64 0, .int .i64 0] 34)))
                  have b8 := hst.blk (.inr rfl) B7.out
                  have hlt := b8.lt
                  have hne : P ≠ w8.heap.size := by omega
                  obtain ⟨c0, c1, c2⟩ := hit_cells b8 ((Below.refl _ w8).alloc (Nat.le_refl _) (.cells #[.int .i64 0, .int .i64 0, .int .i64 0] 34))
                  clear hm hst b8 X7 B7 M7
                  go_wp2_with fail
                  go_roundw
                  case rel => exact ⟨k + 1, by omega, by go_num, Lib.hid X8.out.none_⟩
                  case measure => simp [intOf]; omega
                | some p =>
                  obtain ⟨i, f⟩ := p
                  rw [show hitV (some (i, f)) = .tuple #[.int .i64 (i : Nat), .int .i64 (f : Nat)] from rfl]
                  rw [hq, show hitE (some (i, f)) (k + 1) = .tuple #[.agg #[.int .i64 (i : Nat), .int .i64 (f : Nat), .int .i64 ((k : Int) + 1)], .bool true] from rfl] at HM
                  clear hq
                  go_wp2_with fail
                  refine (hit_some i f ((k : Int) + 1) _).mono ?_
                  rintro e w6 ⟨rfl, hb⟩
                  have X6 := Lib.hid (X6b.out.keep (mat_framed _ _ _ _) hb)
                  have X7 := Lib.hid (X6.out.more (mat_framed _ _ _ _) (.cells #[.int .i64 (i : Nat), .int .i64 (f : Nat), .int .i64 ((k : Int) + 1)] 34))
                  have B7 := Lib.hid (Blk.new w6 34 #[.int .i64 (i : Nat), .int .i64 (f : Nat), .int .i64 ((k : Int) + 1)])
                  clear hb X6b
                  go_upto_region 21 with (fail)
                  generalize hP : w6.heap.size = P at *
                  generalize World.alloc w6 _ = w7 at *
                  clear hP X6
                  have M7 := Lib.hid (HM.out _ w7 X7.out)
                  go_wp2_with fail
                  refine M7.out.mono ?_
                  rintro e w8 ⟨rfl, hm, hst⟩
                  have X8 := Lib.hid (hm.keep (mat_framed _ _ _ _) ((Below.refl _ w8).alloc (Nat.le_refl _) (.cells #[.int .i64 (i : Nat), .int .i64 (f : Nat), .int .i64 ((k : Int) + 1)] 34)))
                  have b8 := hst.blk (.inr rfl) B7.out
                  have hlt := b8.lt
                  have hne : P ≠ w8.heap.size := by omega
                  obtain ⟨c0, c1, c2⟩ := hit_cells b8 ((Below.refl _ w8).alloc (Nat.le_refl _) (.cells #[.int .i64 (i : Nat), .int .i64 (f : Nat), .int .i64 ((k : Int) + 1)] 34))
                  clear hm hst b8 X7 B7 M7
                  go_wp2_with fail
                  go_roundw
                  case rel => exact ⟨k + 1, by omega, by go_num, Lib.hid X8.out.none_⟩
                  case measure => simp [intOf]; omega
              · have HRS := Lib.hid (reset_1 HW.out)
                go_wp2_with fail
                refine HRS.out.mono ?_
                rintro e w9 ⟨rfl, hm, -⟩
                have X9 := Lib.hid hm
                clear hm HRS HW
                go_wp2_with fail
                go_roundw
                case rel => exact ⟨r + 1, by omega, by go_num, X9⟩
                case measure => simp [intOf]; omega
          | some p =>
            obtain ⟨i, f⟩ := p
            rw [show hitV (some (i, f)) = .tuple #[.int .i64 (i : Nat), .int .i64 (f : Nat)] from rfl]
            rw [hq, show hitE (some (i, f)) 0 = .tuple #[.agg #[.int .i64 (i : Nat), .int .i64 (f : Nat), .int .i64 0], .bool true] from rfl] at HM
            clear hq
            go_wp2_with fail
            refine (hit_some i f 0 _).mono ?_
            rintro e w6 ⟨rfl, hb⟩
            have X6 := Lib.hid (X5.out.keep (mat_framed _ _ _ _) hb)
            have X7 := Lib.hid (X6.out.more (mat_framed _ _ _ _) (.cells #[.int .i64 (i : Nat), .int .i64 (f : Nat), .int .i64 0] 34))
            have B7 := Lib.hid (Blk.new w6 34 #[.int .i64 (i : Nat), .int .i64 (f : Nat), .int .i64 0])
            clear hb X5
            go_upto_region 13 with (fail)
            generalize hP : w6.heap.size = P at *
            generalize World.alloc w6 _ = w7 at *
            clear hP X6
            have M7 := Lib.hid (HM.out _ w7 X7.out)
            go_wp2_with fail
            refine M7.out.mono ?_
            rintro e w8 ⟨rfl, hm, hst⟩
            have X8 := Lib.hid (hm.keep (mat_framed _ _ _ _) ((Below.refl _ w8).alloc (Nat.le_refl _) (.cells #[.int .i64 (i : Nat), .int .i64 (f : Nat), .int .i64 0] 34)))
            have b8 := hst.blk (.inr rfl) B7.out
            have hlt := b8.lt
            have hne : P ≠ w8.heap.size := by omega
            obtain ⟨c0, c1, c2⟩ := hit_cells b8 ((Below.refl _ w8).alloc (Nat.le_refl _) (.cells #[.int .i64 (i : Nat), .int .i64 (f : Nat), .int .i64 0] 34))
            clear hm hst b8 X7 B7 M7
            go_wp2_with fail
            clear HM hlt hne c0 c1 c2
            go_loopw [85] (fun iv wr => ∃ k : Nat, k ≤ b.length ∧ iv = .int .i64 (k : Nat) ∧ Hid (Has (MatT m n l (b.take k)) (fun _ => False) w wr)) (fun iv _ => b.length - (intOf iv).toNat)
            case atStart => exact ⟨0, by omega, rfl, Lib.hid (by rw [List.take_zero]; exact X8.out.none_)⟩
            case round =>
              obtain ⟨k, hk, rfl, HW⟩ := hrel
              clear X8
              by_cases hlt2 : k < b.length
              · obtain ⟨bb, oo, dd, rfl, cd, hd⟩ := (HR.out.kept HW.out.below).byteAt hlt2
                have hd6 := HBB.out dd (List.mem_of_getElem? hd)
                have HT : Hid (b.take (k + 1) = b.take k ++ [dd]) := Lib.hid (by rw [List.take_add_one, hd]; rfl)
                have hlk : (b.take k).length = k := by rw [List.length_take]; omega
                obtain ⟨A6, hrun6, hr6⟩ := run_upto HR.out (k := k + 1) (by omega)
                have s6 := run_str (hr6.kept HW.out.below)
                rw [show (((k + 1 : Nat)) : Int) = (k : Int) + 1 by omega] at hrun6
                have H6 := Lib.hid (HH.out (b.take (k + 1)) (fun x hx => HBB.out x (List.mem_of_mem_take hx)) (by rw [List.length_take]; omega) wr HW.out.below)
                have HM : Hid (∀ (N : Nat → Prop) (W : World), Has (MatT m n l (b.take k)) N w W → Calls Tryd.prog 16 #[.pointer (some ⟨m, 0, none⟩), .int .u8 (dd : Nat)] W fun e w' => e = .returned (hitE (hitS (n : Nat) (b.take (k + 1)) l) (k + 1)) ∧ Has (MatT m n l (b.take (k + 1))) N w w' ∧ Stay N W w') := Lib.hid fun N W hW => by
                  have := feed_1 hW dd hd6 (by omega)
                  rw [hlk, ← HT.out] at this
                  exact this
                generalize str (b.take (k + 1)) = sk at *
                clear hd hr6 hlk
                go_wp2_with fail
                refine H6.out.mono ?_
                rintro e w6b ⟨rfl, hb⟩
                have X6b := Lib.hid (HW.out.keep (mat_framed _ _ _ _) hb)
                clear hb H6 HW s6 hrun6 cd
                cases hq : hitS (n : Int) (b.take (k + 1)) l with
                | none =>
                  rw [show hitV none = .tuple #[.int .i64 (-1), .int .i64 0] from rfl]
                  rw [hq, show hitE none (k + 1) = .tuple #[.agg #[.int .i64 0, .int .i64 0, .int .i64 0], .bool false] from rfl] at HM
                  clear hq
                  go_wp2_with fail
                  refine (hit_none 0 ((k : Int) + 1) _).mono ?_
                  rintro e w6 ⟨rfl, hb⟩
                  have X6 := Lib.hid (X6b.out.keep (mat_framed _ _ _ _) hb)
                  have X7 := Lib.hid (X6.out.more (mat_framed _ _ _ _) (.cells #[.int .i64 0, .int .i64 0, .int .i64 0] 34))
                  have B7 := Lib.hid (Blk.new w6 34 #[.int .i64 0, .int .i64 0, .int .i64 0])
                  clear hb X6b
                  go_upto_region 21 with (fail)
                  generalize hP : w6.heap.size = P at *
                  generalize World.alloc w6 _ = w7 at *
                  clear hP X6
                  have M7 := Lib.hid (HM.out _ w7 X7.out)
                  go_wp2_with fail
                  refine M7.out.mono ?_
                  rintro e w8 ⟨rfl, hm, hst⟩
                  have X8 := Lib.hid (hm.keep (mat_framed _ _ _ _) ((Below.refl _ w8).alloc (Nat.le_refl _) (.cells #[.int .i64 0, .int .i64 0, .int .i64 0] 34)))
                  have b8 := hst.blk (.inr rfl) B7.out
                  have hlt := b8.lt
                  have hne : P ≠ w8.heap.size := by omega
                  obtain ⟨c0, c1, c2⟩ := hit_cells b8 ((Below.refl _ w8).alloc (Nat.le_refl _) (.cells #[.int .i64 0, .int .i64 0, .int .i64 0] 34))
                  clear hm hst b8 X7 B7 M7
                  go_wp2_with fail
                  go_roundw
                  case rel => exact ⟨k + 1, by omega, by go_num, Lib.hid X8.out.none_⟩
                  case measure => simp [intOf]; omega
                | some p =>
                  obtain ⟨i, f⟩ := p
                  rw [show hitV (some (i, f)) = .tuple #[.int .i64 (i : Nat), .int .i64 (f : Nat)] from rfl]
                  rw [hq, show hitE (some (i, f)) (k + 1) = .tuple #[.agg #[.int .i64 (i : Nat), .int .i64 (f : Nat), .int .i64 ((k : Int) + 1)], .bool true] from rfl] at HM
                  clear hq
                  go_wp2_with fail
                  refine (hit_some i f ((k : Int) + 1) _).mono ?_
                  rintro e w6 ⟨rfl, hb⟩
                  have X6 := Lib.hid (X6b.out.keep (mat_framed _ _ _ _) hb)
                  have X7 := Lib.hid (X6.out.more (mat_framed _ _ _ _) (.cells #[.int .i64 (i : Nat), .int .i64 (f : Nat), .int .i64 ((k : Int) + 1)] 34))
                  have B7 := Lib.hid (Blk.new w6 34 #[.int .i64 (i : Nat), .int .i64 (f : Nat), .int .i64 ((k : Int) + 1)])
                  clear hb X6b
                  go_upto_region 21 with (fail)
                  generalize hP : w6.heap.size = P at *
                  generalize World.alloc w6 _ = w7 at *
                  clear hP X6
                  have M7 := Lib.hid (HM.out _ w7 X7.out)
                  go_wp2_with fail
                  refine M7.out.mono ?_
                  rintro e w8 ⟨rfl, hm, hst⟩
                  have X8 := Lib.hid (hm.keep (mat_framed _ _ _ _) ((Below.refl _ w8).alloc (Nat.le_refl _) (.cells #[.int .i64 (i : Nat), .int .i64 (f : Nat), .int .i64 ((k : Int) + 1)] 34)))
                  have b8 := hst.blk (.inr rfl) B7.out
                  have hlt := b8.lt
                  have hne : P ≠ w8.heap.size := by omega
                  obtain ⟨c0, c1, c2⟩ := hit_cells b8 ((Below.refl _ w8).alloc (Nat.le_refl _) (.cells #[.int .i64 (i : Nat), .int .i64 (f : Nat), .int .i64 ((k : Int) + 1)] 34))
                  clear hm hst b8 X7 B7 M7
                  go_wp2_with fail
                  go_roundw
                  case rel => exact ⟨k + 1, by omega, by go_num, Lib.hid X8.out.none_⟩
                  case measure => simp [intOf]; omega
              · have HRS := Lib.hid (reset_1 HW.out)
                go_wp2_with fail
                refine HRS.out.mono ?_
                rintro e w9 ⟨rfl, hm, -⟩
                have X9 := Lib.hid hm
                clear hm HRS HW
                go_wp2_with fail
                go_roundw
                case rel => exact ⟨r + 1, by omega, by go_num, X9⟩
                case measure => simp [intOf]; omega
        · have r1 : decide ((r : Int) < 2) = false := decide_eq_false (by omega)
          go_wp2_with fail
          go_ret
          exact ⟨rfl, HW.out.below⟩
    · have HN2 := Lib.hid (New_bad z (.slice D l.length d) l w2 (tz.out.below X2.out) (SlI.below brc_ok HB.out X2.out) HX.out hc)
      have q0 : (((checkS z l : Nat) : Int) != 0) = true := by simp; omega
      clear hc
      go_wp2_with fail
      refine HN2.out.mono ?_
      rintro e w3 ⟨rfl, hb⟩
      have X3 := Lib.hid (X2.out.trans (hb.mono X2.out.size))
      have HC3 := Lib.hid (HCK.out w3 X3.out)
      clear hb HN2 X2 HCK
      go_wp2_with fail
      refine HC3.out.mono ?_
      rintro e w4 ⟨rfl, hb⟩
      have X4 := Lib.hid (X3.out.trans (hb.mono X3.out.size))
      clear hb HC3 X3
      go_wp2_with fail
      go_ret
      exact ⟨rfl, X4.out⟩
end Go.Proofs.YtcipljpalohjiaaDoor
