/-
  cuecardlaw07.RelayPrefix answers true for every room and every list of picks.
  Conditions: the package's table holds what its initialiser lays (Oth).
-/
import Derived.Test.YtfmmomdfmmoklaaDoorRInv
import Derived.Test.YtfmmomdfmmoklaaDoorEvRef
import Derived.Deep.DeepCutAuto
import Derived.Deep.CutBlock
import Derived.Deep.QuietTactic
import Derived.BigQuiet
namespace Go.Proofs.YtfmmomdfmmoklaaDoor
open Go.RowKit

theorem quiet_l {P : Program} {f : FuncId} {args : Array Value} {w : World} {n : Nat} {v : Value}
    (h : Calls P f args (w.drewN n) fun e w' => e = .returned v ∧ w.drewN n = w') : Calls P f args (w.drewN n) fun e w'' => e = .returned v ∧ ∃ m, w'' = w.drewN m :=
  h.mono fun _ _ ⟨he, hm⟩ => ⟨he, n, hm.symm⟩

/-- A beginning is one. -/
theorem begins_yes (l m k : List Nat) (h : m = l ++ k) (w : World) : Calls Tryd.prog 28 #[.string (str l), .string (str m)] w fun e w' => e = .returned (.bool true) ∧ w = w' := by
  have hle : (str l).size ≤ (str m).size := by rw [str_len, str_len, h, List.length_append]; omega
  have hex : (str m).extract 0 (str l).size = str l := by rw [str_take, str_len, h, List.take_left]
  clear h
  generalize str l = R at *
  generalize str m = W at *
  go_enter Tryd.func28, Tryd.ntmps28
  go_wp2_with fail
  go_ret
  exact ⟨rfl, rfl⟩

set_option maxHeartbeats 4000000 in
set_option maxRecDepth 100000 in
theorem prefixes_great (room : Int) (v : Value) (l : List PickV) (w : World) (h : Picks w v l) (ho : Oth w) (hg : isGreat l = true) :
    Calls Tryd.prog 5 #[.int .i64 room, v] w fun e w' => e = .returned (.bool true) ∧ Below w.heap.size w w' := by
  have HA := Lib.hid (And.intro h ho)
  have HG := Lib.hid hg
  obtain ⟨_, A, c, rfl, -⟩ := h
  clear ho hg
  go_enter Tryd.func5, Tryd.ntmps5
  go_wp2_with fail
  refine (alive_true w HA.out.2).mono ?_
  rintro e w1 ⟨rfl, hb1⟩
  have B1 := Lib.hid hb1
  clear hb1
  go_wp2_with fail
  refine (great_any _ l w1 (HA.out.1.below B1.out)).mono ?_
  rintro e w2 ⟨rfl, hb2⟩
  have B2 : Hid (Below w.heap.size w w2) := B1.out.trans (hb2.mono B1.out.size)
  clear hb2 B1
  rw [HG.out]
  go_wp2_with fail
  refine (alive_true w2 (HA.out.2.below B2.out)).mono ?_
  rintro e w3 ⟨rfl, hb3⟩
  have B3 : Hid (Below w.heap.size w w3) := B2.out.trans (hb3.mono B2.out.size)
  clear hb3 B2
  go_wp2_with fail
  go_ret
  exact ⟨rfl, B3.out⟩

set_option maxHeartbeats 4000000 in
set_option maxRecDepth 100000 in
theorem prefixes_small (room : Int) (hr0 : room ≤ 9223372036854775807) (v : Value) (l : List PickV) (w : World) (h : Picks w v l) (ho : Oth w) (hg : isGreat l = false) :
    Calls Tryd.prog 5 #[.int .i64 room, v] w fun e w' => e = .returned (.bool true) ∧ Below w.heap.size w w' := by
  have HA := Lib.hid (And.intro h ho)
  have HG := Lib.hid hg
  obtain ⟨hm, A, c, rfl, -⟩ := h
  have hl := pick_len hg
  clear ho hg
  obtain ⟨rm, hrm⟩ : ∃ rm : Nat, (rm : Int) = 1 + (max 0 room) % 30 := ⟨(1 + (max 0 room) % 30).toNat, by omega⟩
  have hrm30 : rm ≤ 30 := by omega
  have HRM := Lib.hid hrm
  clear hrm
  go_enter Tryd.func5, Tryd.ntmps5
  go_wp2_with fail
  refine (alive_true w HA.out.2).mono ?_
  rintro e w1 ⟨rfl, hb1⟩
  have B1 := Lib.hid hb1
  clear hb1
  go_wp2_with fail
  refine (great_any _ l w1 (HA.out.1.below B1.out)).mono ?_
  rintro e w2 ⟨rfl, hb2⟩
  have B2 : Hid (Below w.heap.size w w2) := B1.out.trans (hb2.mono B1.out.size)
  clear hb2 B1
  rw [HG.out]
  go_wp2_with fail
  refine (WNew room hr0 w2 rm HRM.out).mono ?_
  intro e w3 hnew
  obtain ⟨b, u, c', r, rfl, h3⟩ := WAt.of_new B2.out hnew
  have H3 := Lib.hid h3
  clear hnew h3 B2
  go_wp2_with fail
  go_loopw [24] (fun i wr => ∃ (k : Nat) (y : Wld), k ≤ l.length ∧ i = .int .i64 k ∧ Hid (WAt (fun _ => False) w wr b u c' r y ∧ y.Good rm k ∧ y.Inv)) (fun i _ => l.length - (intOf i).toNat)
  case atStart => exact ⟨0, _, Nat.zero_le _, rfl, H3.out, Wld.Good.start hrm30, Wld.Inv.start rm⟩
  case round =>
    obtain ⟨k, y, hk, rfl, HS⟩ := hrel
    by_cases hlt : k < l.length
    · obtain ⟨a, ha⟩ : ∃ a, l[k]? = some a := ⟨_, List.getElem?_eq_getElem hlt⟩
      have hza := pick_small HG.out a (List.mem_of_getElem? ha)
      obtain ⟨_, A', c'', e', hpk⟩ := HA.out.1
      injection e' with e1 _ e3
      subst e1 e3
      obtain ⟨bb, o, rfl, hx⟩ := hpk (by omega)
      clear hpk
      have HAT := Lib.hid (hx k a ha)
      have hat := HAT.out.below HS.out.1.below
      have k0 := hat.kind
      have k1 := hat.num
      have k2 := hat.time
      have k3 := hat.list
      clear hat hx ha
      obtain ⟨kd, nm, tm, AA, cc, zs⟩ := a
      simp only at k0 k1 k2 k3 hza
      go_upto_region 9 with (fail)
      obtain ⟨cb, hcb⟩ : ∃ cb, wr.heap.size = cb := ⟨_, rfl⟩
      have hblk := Blk.new wr 37 #[.int .i64 kd, .int .i64 nm, .int .i64 tm, .slice AA zs.length cc]
      have hat5 := (HS.out.1.more (.cells #[.int .i64 kd, .int .i64 nm, .int .i64 tm, .slice AA zs.length cc] 37)).none_
      generalize hW5 : wr.alloc (.cells #[.int .i64 kd, .int .i64 nm, .int .i64 tm, .slice AA zs.length cc] 37) = w5 at *
      rw [hcb] at hblk ⊢
      have j0 : w5.cell? ⟨cb, 0, none⟩ = some (.int .i64 kd) := hblk.cell 0
      have j1 : w5.cell? ⟨cb, 1, none⟩ = some (.int .i64 nm) := hblk.cell 1
      have j2 : w5.cell? ⟨cb, 2, none⟩ = some (.int .i64 tm) := hblk.cell 2
      have j3 : w5.cell? ⟨cb, 3, none⟩ = some (.slice AA zs.length cc) := hblk.cell 3
      have HDo := Lib.hid (Do_at hat5 HA.out.2 HS.out.2.1.ok (HS.out.2.1.short (by omega)) kd nm tm HAT.out.rd hza)
      clear hcb hblk hat5 hW5 k0 k1 k2 k3
      go_wp2_with fail
      refine HDo.out.mono ?_
      rintro e w6 ⟨rfl, h6, -⟩
      have hg1 := HS.out.2.1.act hrm30 kd nm tm hza HAT.out.byte
      have hi1 := HS.out.2.2.act kd nm tm zs
      generalize (y.act kd nm tm zs).2 = y1 at *
      have H6 := Lib.hid (And.intro h6 (And.intro hg1 hi1))
      clear h6 hg1 hi1 HDo HS
      have i2 : w6.cell? ⟨b, 2, none⟩ = some (.pointer (some ⟨r, 0, none⟩)) := H6.out.1.blk.cell 2
      go_wp2_with fail
      refine (WTell H6.out.1 H6.out.2.1.ok).mono ?_
      intro e w7 h7
      obtain ⟨A7, c7, ls, rfl, hev, hpe, hb7⟩ := h7.evs H6.out.2.1.ok
      have hfd := run_events A7 ls.length c7 (y1.x.ov 0)
      have H7 := Lib.hid (And.intro (H6.out.1.keep hb7) (And.intro hev hpe))
      clear h7 hev hpe hb7 i2
      go_upto_region 11 with (fail)
      have hwh : whole (pes ls) ≤ 1048576 := by have := H6.out.2.1.ok.all; rw [H7.out.2.2]; omega
      have HR1 := Lib.hid (RBytes_any 1 (.slice A7 ls.length c7) ls w7.drew (H7.out.2.1.below ⟨rfl, rfl, rfl, Nat.le_refl _, fun _ _ => rfl⟩) hwh)
      have HR0 : Hid (∀ W, Below w7.heap.size w7 W → Calls Tryd.prog 27 #[.int .i64 0, .slice A7 ls.length c7] W (BytTo W (byts 0 (pes ls)))) := fun W hW => RBytes_any 0 _ ls W (H7.out.2.1.below hW) hwh
      clear hfd
      go_cut [9, 10] (fun v9 v10 wc => v9 = .string (str (byts 1 y1.x.ev)) ∧ v10 = .string (str (byts 0 y1.x.ev)) ∧ Hid (WAt (fun _ => False) w wc b u c' r y1))
      case first =>
        go_region_with ((first
          | (go_at_call 27; ((with_reducible refine HR1.out.mono ?_); rintro e w8 ⟨A8, c8, g8, rfl, row8, -, hb8⟩; have hcv8 : ∀ W, Below w8.heap.size w8 W → (convert 31 9 (.slice A8 (byts 1 (pes ls)).length c8)).run Tryd.prog W = .ok (.string (str (byts 1 (pes ls)))) W := fun W hW => run_str (row8.below hW (fun _ e => row8.lt e)).rd; have b88 : Below w8.heap.size w8 w8 := Below.refl _ _; have HB8 := Lib.hid (show Below w7.heap.size w7 w8 from ⟨hb8.os, hb8.tape, hb8.output, hb8.size, hb8.block⟩); clear row8 hb8))
          | (go_at_call 27; ((with_reducible refine (HR0.out w8 HB8.out).mono ?_); rintro e w9 ⟨A9, c9, g9, rfl, row9, -, hb9⟩; have hcv9 := run_str row9.rd; have HB9 := Lib.hid (show Below w7.heap.size w7 w9 from HB8.out.trans (hb9.mono HB8.out.size)); clear row9))))
        all_goals
          go_wp2_with fail
          go_meet
          case rel => exact ⟨by rw [H7.out.2.2], by rw [H7.out.2.2], H7.out.1.keep HB9.out⟩
      case rest =>
        obtain ⟨rfl, rfl, HC⟩ := hcut
        have hn1 := H6.out.2.2.noted 1 (by omega)
        have hn0 := H6.out.2.2.noted 0 (by omega)
        have hw1 := H6.out.2.2.wrote 1 (by omega)
        have hw0 := H6.out.2.2.wrote 0 (by omega)
        simp only [Nat.sub_self, Nat.sub_zero, Int.natCast_zero, Int.natCast_one] at hn1 hn0 hw1 hw0
        have hle := H6.out.2.1.len
        have hl0 := hle 0 (by omega)
        have hl1 := hle 1 (by omega)
        clear hle
        have g0 := H6.out.1.blk
        have c1' : wc.cell? ⟨b, 1, none⟩ = some (.pointer (some ⟨c', 0, none⟩)) := HC.out.blk.cell 1
        have c0' : wc.cell? ⟨b, 0, none⟩ = some (.pointer (some ⟨u, 0, none⟩)) := HC.out.blk.cell 0
        have c2' : wc.cell? ⟨b, 2, none⟩ = some (.pointer (some ⟨r, 0, none⟩)) := HC.out.blk.cell 2
        have c3' : wc.cell? ⟨b, 3, none⟩ = some (.string (str (y1.wr 0))) := HC.out.blk.cell 3
        have c4' : wc.cell? ⟨b, 4, none⟩ = some (.string (str (y1.wr 1))) := HC.out.blk.cell 4
        have c5' : wc.cell? ⟨b, 5, none⟩ = some (.string (str (y1.rd 0))) := HC.out.blk.cell 5
        have c6' : wc.cell? ⟨b, 6, none⟩ = some (.string (str (y1.rd 1))) := HC.out.blk.cell 6
        have B1 := Lib.hid (begins_yes (y1.rd 1) (byts 1 y1.x.ev) ((y1.x.f 0 0).xs ++ y1.x.ws 1) (by rw [hn1, List.append_assoc]) wc)
        have B2 := Lib.hid (begins_yes (byts 1 y1.x.ev) (y1.wr 0) (y1.x.f 1 0).xs hw1 wc)
        have B3 := Lib.hid (begins_yes (y1.rd 0) (byts 0 y1.x.ev) ((y1.x.f 1 1).xs ++ y1.x.ws 0) (by rw [hn0, List.append_assoc]) wc)
        have B4 := Lib.hid (begins_yes (byts 0 y1.x.ev) (y1.wr 1) (y1.x.f 0 1).xs hw0 wc)
        have z1 : (str (byts 1 y1.x.ev)).size = (str (y1.rd 1)).size + (y1.x.f 0 0).xs.length + (y1.x.ws 1).length := by rw [str_len, str_len, hn1, List.length_append, List.length_append]
        have z0 : (str (byts 0 y1.x.ev)).size = (str (y1.rd 0)).size + (y1.x.f 1 1).xs.length + (y1.x.ws 0).length := by rw [str_len, str_len, hn0, List.length_append, List.length_append]
        have s1 : (str (byts 1 y1.x.ev)).size ≤ 15100 := by
          rw [str_len]
          have := congrArg List.length hw1
          rw [List.length_append] at this; omega
        have s0 : (str (byts 0 y1.x.ev)).size ≤ 15100 := by
          rw [str_len]
          have := congrArg List.length hw0
          rw [List.length_append] at this; omega
        obtain ⟨R0, eR0⟩ : ∃ R, str (y1.rd 0) = R := ⟨_, rfl⟩
        obtain ⟨R1, eR1⟩ : ∃ R, str (y1.rd 1) = R := ⟨_, rfl⟩
        obtain ⟨W0, eW0⟩ : ∃ R, str (y1.wr 0) = R := ⟨_, rfl⟩
        obtain ⟨W1, eW1⟩ : ∃ R, str (y1.wr 1) = R := ⟨_, rfl⟩
        obtain ⟨I, eI⟩ : ∃ R, str (byts 1 y1.x.ev) = R := ⟨_, rfl⟩
        obtain ⟨O, eO⟩ : ∃ R, str (byts 0 y1.x.ev) = R := ⟨_, rfl⟩
        have PW1 : Hid (∀ n, Calls Tryd.prog 21 #[.pointer (some ⟨c', 0, none⟩), .int .i64 1] (wc.drewN n) fun e w' => e = .returned (.int .i64 ((y1.x.f 0 0).xs.length : Nat)) ∧ wc.drewN n = w') := fun n => WWaits (HC.out.drewN n) HA.out.2 (k := 0) (s := 1) (p := c') (z := 1) (by omega) (by omega) rfl rfl
        have PW0 : Hid (∀ n, Calls Tryd.prog 21 #[.pointer (some ⟨u, 0, none⟩), .int .i64 0] (wc.drewN n) fun e w' => e = .returned (.int .i64 ((y1.x.f 1 1).xs.length : Nat)) ∧ wc.drewN n = w') := fun n => WWaits (HC.out.drewN n) HA.out.2 (k := 1) (s := 0) (p := u) (z := 0) (by omega) (by omega) rfl rfl
        have PR1 : Hid (∀ n, Calls Tryd.prog 17 #[.pointer (some ⟨r, 0, none⟩), .int .i64 1] (wc.drewN n) fun e w' => e = .returned (.int .i64 ((y1.x.ws 1).length : Nat)) ∧ wc.drewN n = w') := fun n => WRWaits (HC.out.drewN n) (d := 1) (z := 1) (by omega) rfl
        have PR0 : Hid (∀ n, Calls Tryd.prog 17 #[.pointer (some ⟨r, 0, none⟩), .int .i64 0] (wc.drewN n) fun e w' => e = .returned (.int .i64 ((y1.x.ws 0).length : Nat)) ∧ wc.drewN n = w') := fun n => WRWaits (HC.out.drewN n) (d := 0) (z := 0) (by omega) rfl
        rw [eR1] at c6' B1 z1
        rw [eR0] at c5' B3 z0
        rw [eW0] at c3' B2
        rw [eW1] at c4' B4
        rw [eI] at B1 B2 z1 s1 ⊢
        rw [eO] at B3 B4 z0 s0 ⊢
        generalize (y1.x.f 0 0).xs.length = m1 at *
        generalize (y1.x.f 1 1).xs.length = m0 at *
        generalize (y1.x.ws 1).length = q1 at *
        generalize (y1.x.ws 0).length = q0 at *
        have a1 : IntKind.i64.wrap ((R1.size : Int) + (m1 : Int)) = (R1.size : Int) + (m1 : Int) := IntWalk.i64_in _ (by omega)
        have a2 : IntKind.i64.wrap ((R1.size : Int) + (m1 : Int) + (q1 : Int)) = (R1.size : Int) + (m1 : Int) + (q1 : Int) := IntWalk.i64_in _ (by omega)
        have a3 : ((R1.size : Int) + (m1 : Int) + (q1 : Int) != (I.size : Int)) = false := by simp; omega
        have b1 : IntKind.i64.wrap ((R0.size : Int) + (m0 : Int)) = (R0.size : Int) + (m0 : Int) := IntWalk.i64_in _ (by omega)
        have b2 : IntKind.i64.wrap ((R0.size : Int) + (m0 : Int) + (q0 : Int)) = (R0.size : Int) + (m0 : Int) + (q0 : Int) := IntWalk.i64_in _ (by omega)
        have b3 : ((R0.size : Int) + (m0 : Int) + (q0 : Int) != (O.size : Int)) = false := by simp; omega
        clear hn1 hn0 hw1 hw0 hl0 hl1 eR0 eR1 eW0 eW1 eI eO z1 z0 s1 s0 HR1 HR0 hwh g0
        go_wp2_with (first
          | (go_at_call 28; ((with_reducible refine B1.out.mono ?_); rintro e w' ⟨rfl, rfl⟩))
          | (go_at_call 28; ((with_reducible refine B2.out.mono ?_); rintro e w' ⟨rfl, rfl⟩))
          | (go_at_call 28; ((with_reducible refine B3.out.mono ?_); rintro e w' ⟨rfl, rfl⟩))
          | (go_at_call 28; ((with_reducible refine B4.out.mono ?_); rintro e w' ⟨rfl, rfl⟩)))
        go_quiet ((first
          | (go_at_call 21; with_reducible exact quiet_l (PW1.out _))
          | (go_at_call 21; with_reducible exact quiet_l (PW0.out _))
          | (go_at_call 17; with_reducible exact quiet_l (PR1.out _))
          | (go_at_call 17; with_reducible exact quiet_l (PR0.out _))))
        go_wp2_with fail
        go_roundw
        case rel => exact ⟨k + 1, y1, by omega, by go_num, HC.out.drewN _, H6.out.2⟩
        case measure => simp [intOf]; omega
    · obtain rfl : k = l.length := by omega
      have HE := Lib.hid HS.out.1.below
      clear HS
      go_wp2_with fail
      go_ret
      exact ⟨rfl, HE.out⟩

theorem prefixes_true (room : Int) (hr0 : room ≤ 9223372036854775807) (v : Value) (l : List PickV) (w : World) (h : Picks w v l) (ho : Oth w) :
    Calls Tryd.prog 5 #[.int .i64 room, v] w fun e w' => e = .returned (.bool true) ∧ Below w.heap.size w w' := by
  cases hg : isGreat l with
  | true => exact prefixes_great room v l w h ho hg
  | false => exact prefixes_small room hr0 v l w h ho hg
end Go.Proofs.YtfmmomdfmmoklaaDoor
