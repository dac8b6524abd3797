/-
  cuecardlaw07.RelayActs answers true for every room and every list of picks.
  Conditions: the package's table holds what its initialiser lays (Oth).
-/
import Derived.Test.YtfmmomdfmmoklaaDoorDAll
import Derived.Test.YtfmmomdfmmoklaaDoorUptoAll
import Derived.ChangeKeysEq
import Derived.Laws.StructEq
import Derived.Deep.DeepCutAuto
import Derived.Deep.CutBlock
import Derived.Deep.QuietTactic
import Derived.BigQuiet
import Derived.StillTailTactics
namespace Go.Proofs.YtfmmomdfmmoklaaDoor
open Go.RowKit

theorem quiet_l {P : Program} {f : FuncId} {args : Array Value} {w : World} {n : Nat} {v : Value}
    (h : Calls P f args (w.drewN n) fun e w' => e = .returned v ∧ w.drewN n = w') : Calls P f args (w.drewN n) fun e w'' => e = .returned v ∧ ∃ m, w'' = w.drewN m :=
  h.mono fun _ _ ⟨he, hm⟩ => ⟨he, n, hm.symm⟩

set_option maxHeartbeats 4000000 in
set_option maxRecDepth 100000 in
theorem acts_great (room : Int) (v : Value) (l : List PickV) (w : World) (h : Picks w v l) (ho : Oth w) (hg : isGreat l = true) :
    Calls Tryd.prog 3 #[.int .i64 room, v] w fun e w' => e = .returned (.bool true) ∧ Below w.heap.size w w' := by
  have HA := Lib.hid (And.intro h ho)
  have HG := Lib.hid hg
  obtain ⟨_, A, c, rfl, -⟩ := h
  clear ho hg
  go_enter Tryd.func3, Tryd.ntmps3
  go_wp2_with fail
  refine (alive_true w HA.out.2).mono ?_
  rintro e w1 ⟨rfl, hb1⟩
  have B1 := Lib.hid hb1
  clear hb1
  go_wp2_with fail
  refine (great_any _ l w1 (HA.out.1.below B1.out)).mono ?_
  rintro e w2 ⟨rfl, hb2⟩
  have B2 : Hid (Below w.heap.size w w2) := B1.out.trans (hb2.mono B1.out.size)
  clear hb2 B1
  rw [HG.out]
  go_wp2_with fail
  refine (alive_true w2 (HA.out.2.below B2.out)).mono ?_
  rintro e w3 ⟨rfl, hb3⟩
  have B3 : Hid (Below w.heap.size w w3) := B2.out.trans (hb3.mono B2.out.size)
  clear hb3 B2
  go_wp2_with fail
  go_ret
  exact ⟨rfl, B3.out⟩

set_option maxHeartbeats 40000000 in
set_option maxRecDepth 100000 in
theorem acts_small (room : Int) (hr0 : room ≤ 9223372036854775807) (v : Value) (l : List PickV) (w : World) (h : Picks w v l) (ho : Oth w) (hg : isGreat l = false) :
    Calls Tryd.prog 3 #[.int .i64 room, v] w fun e w' => e = .returned (.bool true) ∧ Below w.heap.size w w' := by
  have HA := Lib.hid (And.intro h ho)
  have HG := Lib.hid hg
  obtain ⟨hm, A, c, rfl, -⟩ := h
  have hl := pick_len hg
  clear ho hg
  obtain ⟨z, hz1, hmax⟩ : ∃ z : Nat, z ≤ 9223372036854775807 ∧ max 0 room = (z : Int) := ⟨room.toNat, by omega, by omega⟩
  obtain ⟨rm, hrm1, hrm30, hrm3⟩ : ∃ rm : Nat, 1 ≤ rm ∧ rm ≤ 30 ∧ 1 + (z : Int) % 30 = (rm : Int) := ⟨1 + z % 30, by omega, by omega, by omega⟩
  have HRM : Hid ((rm : Int) = 1 + (max 0 room) % 30) := by rw [hmax]; exact hrm3.symm
  go_enter Tryd.func3, Tryd.ntmps3
  go_wp2_with fail
  refine (alive_true w HA.out.2).mono ?_
  rintro e w1 ⟨rfl, hb1⟩
  have B1 := Lib.hid hb1
  clear hb1
  go_wp2_with fail
  refine (great_any _ l w1 (HA.out.1.below B1.out)).mono ?_
  rintro e w2 ⟨rfl, hb2⟩
  have B2 : Hid (Below w.heap.size w w2) := B1.out.trans (hb2.mono B1.out.size)
  clear hb2 B1
  rw [HG.out]
  go_wp2_with fail
  refine (WNew room hr0 w2 rm HRM.out).mono ?_
  intro e w3 hnew
  obtain ⟨b, u, c', r, rfl, h3⟩ := WAt.of_new B2.out hnew
  have H3 := Lib.hid h3
  clear hnew h3 B2
  go_wp2_with fail
  refine (DNew_any rm w3 (by omega)).mono ?_
  rintro e w4 ⟨rfl, hq4, hb4⟩
  have X4 := Lib.hid (And.intro hq4 hb4)
  clear hq4 hb4
  go_wp2_with fail
  refine (DNew_any rm w4 (by omega)).mono ?_
  rintro e w5 ⟨rfl, hq5, hb5⟩
  have X5 := Lib.hid (And.intro hq5 hb5)
  clear hq5 hb5
  go_upto_region 8 with (fail)
  obtain ⟨m, hm5⟩ : ∃ m, w5.heap.size = m := ⟨_, rfl⟩
  obtain ⟨u2, hu2⟩ : ∃ u2, w3.heap.size + 2 = u2 := ⟨_, rfl⟩
  obtain ⟨c2, hc2⟩ : ∃ c2, w4.heap.size + 2 = c2 := ⟨_, rfl⟩
  rw [hm5, hu2, hc2]
  obtain ⟨w6, hW6⟩ : ∃ w6, w5.alloc (.cells #[.pointer (some ⟨u2, 0, none⟩), .pointer (some ⟨c2, 0, none⟩), .slice none 0 0, .bool false, .bool false, .slice none 0 0, .slice none 0 0, .slice none 0 0] 35) = w6 := ⟨_, rfl⟩
  rw [hW6]
  have H6 : Hid (Has (Star (WorldT b u c' r (Wld.start rm)) (DSys (two c2 u2) m (Sys.start rm))) (fun _ => False) w w6) := by
    have := DSys.new X4.out.1 X5.out.1 X4.out.2 X5.out.2 (w3 := w6) (by rw [hu2, hc2]; exact hW6) rfl rfl
    rw [hm5, hu2, hc2] at this
    exact Has.both H3.out (WorldT.framed ..) this.1 (fun i hi => hi.1) this.2
  clear hm5 hu2 hc2 hW6 X4 X5 H3
  go_wp2_with fail
  go_loopw [35] (fun i wr => ∃ (k : Nat) (y : Wld), k ≤ l.length ∧ i = .int .i64 k ∧ Hid (Has (Star (WorldT b u c' r y) (DSys (two c2 u2) m y.x)) (fun _ => False) w wr ∧ y.Good rm k)) (fun i _ => l.length - (intOf i).toNat)
  case atStart => exact ⟨0, _, Nat.zero_le _, rfl, H6.out, Wld.Good.start hrm30⟩
  case round =>
    obtain ⟨k, y, hk, rfl, HS⟩ := hrel
    by_cases hlt : k < l.length
    · obtain ⟨a, ha⟩ : ∃ a, l[k]? = some a := ⟨_, List.getElem?_eq_getElem hlt⟩
      have hza := pick_small HG.out a (List.mem_of_getElem? ha)
      obtain ⟨_, A', c'', e', hpk⟩ := HA.out.1
      injection e' with e1 _ e3
      subst e1 e3
      obtain ⟨bb, o, rfl, hx⟩ := hpk (by omega)
      clear hpk
      have HAT := Lib.hid (hx k a ha)
      have hat := HAT.out.below HS.out.1.below
      have k0 := hat.kind
      have k1 := hat.num
      have k2 := hat.time
      have k3 := hat.list
      clear hat hx ha
      obtain ⟨kd, nm, tm, AA, cc, zs⟩ := a
      simp only at k0 k1 k2 k3 hza
      go_upto_region 11 with (fail)
      obtain ⟨cb, hcb⟩ : ∃ cb, wr.heap.size = cb := ⟨_, rfl⟩
      have hblk := Blk.new wr 37 #[.int .i64 kd, .int .i64 nm, .int .i64 tm, .slice AA zs.length cc]
      have hat5 : Has (Star (WorldT b u c' r y) (DSys (two c2 u2) m y.x)) (fun i => i = cb) w (wr.alloc (.cells #[.int .i64 kd, .int .i64 nm, .int .i64 tm, .slice AA zs.length cc] 37)) := (HS.out.1.more (Star.framed (WorldT.framed ..) (DSys.framed ..)) _).less (fun i hi => .inr (by rw [hi, hcb]))
      have hsz5 : (wr.alloc (.cells #[.int .i64 kd, .int .i64 nm, .int .i64 tm, .slice AA zs.length cc] 37)).heap.size = cb + 1 := by rw [World.size_alloc, hcb]
      generalize hW7 : wr.alloc (.cells #[.int .i64 kd, .int .i64 nm, .int .i64 tm, .slice AA zs.length cc] 37) = w7 at *
      rw [hcb] at hblk ⊢
      have hL7 := HasL.of hat5 (by rw [hsz5]; rfl) (by rw [hsz5]; omega)
      have H7 := Lib.hid (And.intro hL7 hblk)
      have HG0 := Lib.hid HS.out.2
      clear hcb hblk hat5 hL7 hW7 k0 k1 k2 k3 hsz5 HS
      have j0 : w7.cell? ⟨cb, 0, none⟩ = some (.int .i64 kd) := H7.out.2.cell 0
      have j1 : w7.cell? ⟨cb, 1, none⟩ = some (.int .i64 nm) := H7.out.2.cell 1
      have j3 : w7.cell? ⟨cb, 3, none⟩ = some (.slice AA zs.length cc) := H7.out.2.cell 3
      go_upto_block 2 with (fail)
      go_cut [41] (fun _ wc => Hid (HasL (WorldT b u c' r y) (DSys (two c2 u2) m (y.pre kd nm zs)) (fun i => i = cb) w wc ∧ Blk wc cb 37 #[.int .i64 kd, .int .i64 nm, .int .i64 tm, .slice AA zs.length cc]))
      case first =>
        as_aux_lemma =>
        obtain ⟨A0, c0, v0, l0, vt0, rb, -, -⟩ := pair_rl H7.out.1.has
        have q0 : w7.cell? ⟨m, 0, none⟩ = some (.pointer (some ⟨u2, 0, none⟩)) := rb.cell 0
        have q1 : w7.cell? ⟨m, 1, none⟩ = some (.pointer (some ⟨c2, 0, none⟩)) := rb.cell 1
        clear rb
        by_cases k4 : kd = 4
        · subst k4
          have HP := Lib.hid (pair_says (H7.out.1.drew (WorldT.framed ..) (DSys.framed ..)) (WorldT.framed ..) (e := 0) (p := u2) (z := 0) (by omega) rfl rfl (HAT.out.rd.kept (H7.out.1.has.drew (Star.framed (WorldT.framed ..) (DSys.framed ..))).below) (by simp only; omega) HAT.out.byte)
          go_wp2_with fail
          go_still_tail 6, (by kernel_rfl)
          change wpList _ _ _ _ _ w7.drew
          go_wp2_with fail
          refine HP.out.mono ?_
          rintro e w8 ⟨⟨v8, rfl⟩, h8, s8⟩
          have H8 := Lib.hid (And.intro h8 s8)
          clear h8 s8
          go_wp2_with fail
          go_meet
          case rel => exact ⟨by have := H8.out.1; rwa [Wld.pre, if_pos rfl], H8.out.2.blk rfl H7.out.2⟩
        have b4 : (kd == 4) = false := by simpa using k4
        by_cases k5 : kd = 5
        · subst k5
          clear b4
          have HP := Lib.hid (pair_hears (H7.out.1.drew (WorldT.framed ..) (DSys.framed ..)) (WorldT.framed ..) (e := 0) (p := u2) (z := 0) (by omega) rfl rfl nm)
          go_wp2_with fail
          go_still_tail 6, (by kernel_rfl)
          change wpList _ _ _ _ _ w7.drew
          go_wp2_with fail
          refine HP.out.mono ?_
          rintro e w8 ⟨⟨v8, rfl⟩, h8, s8⟩
          have H8 := Lib.hid (And.intro h8 s8)
          clear h8 s8
          go_wp2_with fail
          go_meet
          case rel => exact ⟨by have := H8.out.1; rwa [Wld.pre, if_neg (by omega), if_pos rfl], H8.out.2.blk rfl H7.out.2⟩
        have b5 : (kd == 5) = false := by simpa using k5
        by_cases k6 : kd = 6
        · subst k6
          clear b4 b5
          obtain ⟨q, z1, ⟨zu, z2⟩, z3, z4, z5⟩ := pair_hangs H7.out.1 (WorldT.framed ..) (e := 0) (p := u2) (by omega) rfl
          have z1' : w7.cell? ⟨u2, 1, none⟩ = some (.pointer (some ⟨q, 0, none⟩)) := z1
          have H8 := Lib.hid (And.intro z4 z5)
          clear z1 z4 z5
          go_wp2_with fail
          go_meet
          case rel => exact ⟨by have := H8.out.1; rwa [Wld.pre, if_neg (by omega), if_neg (by omega), if_pos rfl], H8.out.2.blk rfl H7.out.2⟩
        have b6 : (kd == 6) = false := by simpa using k6
        by_cases k7 : kd = 7
        · subst k7
          clear b4 b5 b6
          have HP := Lib.hid (pair_says (H7.out.1.drew (WorldT.framed ..) (DSys.framed ..)) (WorldT.framed ..) (e := 1) (p := c2) (z := 1) (by omega) rfl rfl (HAT.out.rd.kept (H7.out.1.has.drew (Star.framed (WorldT.framed ..) (DSys.framed ..))).below) (by simp only; omega) HAT.out.byte)
          go_wp2_with fail
          go_still_tail 6, (by kernel_rfl)
          change wpList _ _ _ _ _ w7.drew
          go_wp2_with fail
          refine HP.out.mono ?_
          rintro e w8 ⟨⟨v8, rfl⟩, h8, s8⟩
          have H8 := Lib.hid (And.intro h8 s8)
          clear h8 s8
          go_wp2_with fail
          go_meet
          case rel => exact ⟨by have := H8.out.1; rwa [Wld.pre, if_neg (by omega), if_neg (by omega), if_neg (by omega), if_pos rfl], H8.out.2.blk rfl H7.out.2⟩
        have b7 : (kd == 7) = false := by simpa using k7
        by_cases k8 : kd = 8
        · subst k8
          clear b4 b5 b6 b7
          have HP := Lib.hid (pair_hears (H7.out.1.drew (WorldT.framed ..) (DSys.framed ..)) (WorldT.framed ..) (e := 1) (p := c2) (z := 1) (by omega) rfl rfl nm)
          go_wp2_with fail
          go_still_tail 6, (by kernel_rfl)
          change wpList _ _ _ _ _ w7.drew
          go_wp2_with fail
          refine HP.out.mono ?_
          rintro e w8 ⟨⟨v8, rfl⟩, h8, s8⟩
          have H8 := Lib.hid (And.intro h8 s8)
          clear h8 s8
          go_wp2_with fail
          go_meet
          case rel => exact ⟨by have := H8.out.1; rwa [Wld.pre, if_neg (by omega), if_neg (by omega), if_neg (by omega), if_neg (by omega), if_pos rfl], H8.out.2.blk rfl H7.out.2⟩
        have b8 : (kd == 8) = false := by simpa using k8
        by_cases k9 : kd = 9
        · subst k9
          clear b4 b5 b6 b7 b8
          obtain ⟨q, z1, ⟨zu, z2⟩, z3, z4, z5⟩ := pair_hangs H7.out.1 (WorldT.framed ..) (e := 1) (p := c2) (by omega) rfl
          have z1' : w7.cell? ⟨c2, 0, none⟩ = some (.pointer (some ⟨q, 0, none⟩)) := z1
          have H8 := Lib.hid (And.intro z4 z5)
          clear z1 z4 z5
          go_wp2_with fail
          go_meet
          case rel => exact ⟨by have := H8.out.1; rwa [Wld.pre, if_neg (by omega), if_neg (by omega), if_neg (by omega), if_neg (by omega), if_neg (by omega), if_pos rfl], H8.out.2.blk rfl H7.out.2⟩
        have b9 : (kd == 9) = false := by simpa using k9
        have hpre : y.pre kd nm zs = y.x := by unfold Wld.pre; rw [if_neg k4, if_neg k5, if_neg k6, if_neg k7, if_neg k8, if_neg k9]
        have HPR := Lib.hid hpre
        clear hpre k4 k5 k6 k7 k8 k9
        go_wp2_with fail
        go_meet
        case rel => exact ⟨by rw [HPR.out]; exact H7.out.1, H7.out.2⟩
      case rest =>
        as_aux_lemma =>
        have HC := hcut
        clear hcut H7 j0 j1 j3
        have i0 : wc.cell? ⟨cb, 0, none⟩ = some (.int .i64 kd) := HC.out.2.cell 0
        have i1 : wc.cell? ⟨cb, 1, none⟩ = some (.int .i64 nm) := HC.out.2.cell 1
        have i2 : wc.cell? ⟨cb, 2, none⟩ = some (.int .i64 tm) := HC.out.2.cell 2
        have i3 : wc.cell? ⟨cb, 3, none⟩ = some (.slice AA zs.length cc) := HC.out.2.cell 3
        have HDo := Lib.hid (pair_do (w := wc.drew) (HC.out.1.drew (WorldT.framed ..) (DSys.framed ..)) HA.out.2 HG0.out.ok (HG0.out.short (by omega)) kd nm tm HAT.out.rd hza)
        go_upto_region 24 with (fail)
        go_cut [117] (fun v wd => v = .bool false ∧ Hid (Has (Star (WorldT b u c' r (y.act kd nm tm zs).2) (DSys (two c2 u2) m (y.act kd nm tm zs).2.x)) (fun _ => False) w wd))
        case first =>
          as_aux_lemma =>
          by_cases hlow : kd < 4
          · as_aux_lemma =>
            have hd : decide (kd < 4) = true := by simpa using hlow
            obtain ⟨e1, e2⟩ := y.act_low hlow nm tm zs
            have HE := Lib.hid (And.intro e1 e2)
            rw [e1, e2] at HDo
            clear e1 e2 hlow
            have HSt : Hid (∀ W, Has (Star (WorldT b u c' r { y with x := (y.x.step kd nm tm).2 }) (DSys (two c2 u2) m y.x)) (fun i => i = cb) w W → Calls Tryd.prog 16 #[.pointer (some ⟨m, 0, none⟩), .int .i64 kd, .int .i64 nm, .int .i64 tm] W fun e w' => e = .returned (.bool (y.x.step kd nm tm).1) ∧ Has (Star (WorldT b u c' r { y with x := (y.x.step kd nm tm).2 }) (DSys (two c2 u2) m (y.x.step kd nm tm).2)) (fun i => i = cb) w w' ∧ Stay (fun i => i = cb) W w') := fun W hW => pair_step hW (WorldT.framed ..) HG0.out.ok kd nm tm
            obtain ⟨sb, hsb⟩ : ∃ sb, (y.x.step kd nm tm).1 = sb := ⟨_, rfl⟩
            rw [hsb] at HSt
            simp only [hsb] at HDo
            have HSB := Lib.hid hsb
            clear hsb
            refine wp_region_noPanic ?_
            refine wp_region_upto (fun V => V.cell? ⟨cb, 0, none⟩ = some (.int .i64 kd) ∧ V.cell? ⟨cb, 1, none⟩ = some (.int .i64 nm) ∧ V.cell? ⟨cb, 2, none⟩ = some (.int .i64 tm) ∧ V.cell? ⟨cb, 3, none⟩ = some (.slice AA zs.length cc)) 17 (by kernel_rfl) ?_ (fun hHeld => ?_)
            · exact ⟨i0, i1, i2, i3⟩
            refine wpUpto.takeAll 0 (by kernel_rfl) (by kernel_rfl) (by kernel_rfl) (by kernel_rfl) (by assumption) ?_
            intro o ho
            simp only [List.getElem?_toArray, List.getElem?_cons_zero, Option.some.injEq] at ho
            subst ho
            refine ⟨?_, fun _ _ _ h => h, Or.inl ⟨by rfl, ?_⟩, ?_⟩
            rotate_left
            · intro w hSw
              go_simp
              try with_reducible rfl
            simp only [Act.put, List.setIfInBounds_toArray, List.set_cons_zero, List.set_cons_succ]
            refine wpUpto.takeAll 1 (by kernel_rfl) (by kernel_rfl) (by kernel_rfl) (by kernel_rfl) (by assumption) ?_
            intro o ho
            simp only [List.getElem?_toArray, List.getElem?_cons_succ, List.getElem?_cons_zero, Option.some.injEq] at ho
            subst ho
            refine ⟨?_, fun _ _ _ h => h, Or.inl ⟨by rfl, ?_⟩, ?_⟩
            rotate_left
            · intro w hSw
              go_simp
              try with_reducible rfl
            simp only [Act.put, List.setIfInBounds_toArray, List.set_cons_zero, List.set_cons_succ]
            refine wpUpto.takeAll 3 (by kernel_rfl) (by kernel_rfl) (by kernel_rfl) (by kernel_rfl) (by assumption) ?_
            intro o ho
            simp only [List.getElem?_toArray, List.getElem?_cons_succ, List.getElem?_cons_zero, Option.some.injEq] at ho
            subst ho
            refine ⟨?_, fun _ _ _ h => h, Or.inl ⟨by rfl, ?_⟩, ?_⟩
            rotate_left
            · intro w hSw
              go_simp
              try with_reducible rfl
            simp only [Act.put, List.setIfInBounds_toArray, List.set_cons_zero, List.set_cons_succ]
            refine wpUpto.takeAll 4 (by kernel_rfl) (by kernel_rfl) (by kernel_rfl) (by kernel_rfl) (by assumption) ?_
            intro o ho
            simp only [List.getElem?_toArray, List.getElem?_cons_succ, List.getElem?_cons_zero, Option.some.injEq] at ho
            subst ho
            refine ⟨?_, fun _ _ _ h => h, Or.inl ⟨by rfl, ?_⟩, ?_⟩
            rotate_left
            · intro w hSw
              go_simp
              try with_reducible rfl
            simp only [Act.put, List.setIfInBounds_toArray, List.set_cons_zero, List.set_cons_succ]
            refine wpUpto.takeAll 5 (by kernel_rfl) (by kernel_rfl) (by kernel_rfl) (by kernel_rfl) (by assumption) ?_
            intro o ho
            simp only [List.getElem?_toArray, List.getElem?_cons_succ, List.getElem?_cons_zero, Option.some.injEq] at ho
            subst ho
            refine ⟨?_, fun _ _ _ h => h, Or.inl ⟨by rfl, ?_⟩, ?_⟩
            rotate_left
            · intro w hSw
              go_simp
              try with_reducible rfl
            simp only [Act.put, List.setIfInBounds_toArray, List.set_cons_zero, List.set_cons_succ]
            refine wpUpto.one 2 (by kernel_rfl) ?_
            intro o ho K hK
            simp only [List.getElem?_toArray, List.getElem?_cons_succ, List.getElem?_cons_zero, Option.some.injEq] at ho
            subst ho
            go_simp
            go_at_call 15
            refine HDo.out.mono ?_
            rintro e w8 ⟨rfl, h8, s8⟩
            have hb8 := s8.blk rfl HC.out.2.drew
            have H8 := Lib.hid h8
            clear s8 h8
            refine hK.out _ _ ?_ (fun hHeld => ?_)
            · exact ⟨hb8.cell 0, hb8.cell 1, hb8.cell 2, hb8.cell 3⟩
            clear hK K
            try simp only [Act.put, List.setIfInBounds_toArray, List.set_cons_zero, List.set_cons_succ]
            refine wpUpto.takeAll 6 (by kernel_rfl) (by kernel_rfl) (by kernel_rfl) (by kernel_rfl) (by assumption) ?_
            intro o ho
            simp only [List.getElem?_toArray, List.getElem?_cons_succ, List.getElem?_cons_zero, Option.some.injEq] at ho
            subst ho
            refine ⟨?_, fun _ _ _ h => h, Or.inl ⟨by rfl, ?_⟩, ?_⟩
            rotate_left
            · intro w hSw
              go_simp
              try with_reducible rfl
            simp only [Act.put, List.setIfInBounds_toArray, List.set_cons_zero, List.set_cons_succ]
            refine wpUpto.takeAll 7 (by kernel_rfl) (by kernel_rfl) (by kernel_rfl) (by kernel_rfl) (by assumption) ?_
            intro o ho
            simp only [List.getElem?_toArray, List.getElem?_cons_succ, List.getElem?_cons_zero, Option.some.injEq] at ho
            subst ho
            refine ⟨?_, fun _ _ _ h => h, Or.inl ⟨by rfl, ?_⟩, ?_⟩
            rotate_left
            · intro w hSw
              go_simp
              try with_reducible rfl
            simp only [Act.put, List.setIfInBounds_toArray, List.set_cons_zero, List.set_cons_succ]
            refine wpUpto.takeAll 8 (by kernel_rfl) (by kernel_rfl) (by kernel_rfl) (by kernel_rfl) (by assumption) ?_
            intro o ho
            simp only [List.getElem?_toArray, List.getElem?_cons_succ, List.getElem?_cons_zero, Option.some.injEq] at ho
            subst ho
            refine ⟨?_, fun _ _ _ h => h, Or.inl ⟨by rfl, ?_⟩, ?_⟩
            rotate_left
            · intro w hSw
              go_simp
              try with_reducible rfl
            simp only [Act.put, List.setIfInBounds_toArray, List.set_cons_zero, List.set_cons_succ]
            refine wpUpto.takeAll 9 (by kernel_rfl) (by kernel_rfl) (by kernel_rfl) (by kernel_rfl) (by assumption) ?_
            intro o ho
            simp only [List.getElem?_toArray, List.getElem?_cons_succ, List.getElem?_cons_zero, Option.some.injEq] at ho
            subst ho
            refine ⟨?_, fun _ _ _ h => h, Or.inl ⟨by rfl, ?_⟩, ?_⟩
            rotate_left
            · intro w hSw
              go_simp
              try with_reducible rfl
            simp only [Act.put, List.setIfInBounds_toArray, List.set_cons_zero, List.set_cons_succ]
            refine wpUpto.takeAll 10 (by kernel_rfl) (by kernel_rfl) (by kernel_rfl) (by kernel_rfl) (by assumption) ?_
            intro o ho
            simp only [List.getElem?_toArray, List.getElem?_cons_succ, List.getElem?_cons_zero, Option.some.injEq] at ho
            subst ho
            refine ⟨?_, fun _ _ _ h => h, Or.inl ⟨by rfl, ?_⟩, ?_⟩
            rotate_left
            · intro w hSw
              go_simp
              try with_reducible rfl
            simp only [Act.put, List.setIfInBounds_toArray, List.set_cons_zero, List.set_cons_succ]
            refine wpUpto.takeAll 11 (by kernel_rfl) (by kernel_rfl) (by kernel_rfl) (by kernel_rfl) (by assumption) ?_
            intro o ho
            simp only [List.getElem?_toArray, List.getElem?_cons_succ, List.getElem?_cons_zero, Option.some.injEq] at ho
            subst ho
            refine ⟨?_, fun _ _ _ h => h, Or.inl ⟨by rfl, ?_⟩, ?_⟩
            rotate_left
            · intro w hSw
              go_simp
              try with_reducible rfl
            simp only [Act.put, List.setIfInBounds_toArray, List.set_cons_zero, List.set_cons_succ]
            refine wpUpto.takeAll 12 (by kernel_rfl) (by kernel_rfl) (by kernel_rfl) (by kernel_rfl) (by assumption) ?_
            intro o ho
            simp only [List.getElem?_toArray, List.getElem?_cons_succ, List.getElem?_cons_zero, Option.some.injEq] at ho
            subst ho
            refine ⟨?_, fun _ _ _ h => h, Or.inl ⟨by rfl, ?_⟩, ?_⟩
            rotate_left
            · intro w hSw
              go_simp
              try with_reducible rfl
            simp only [Act.put, List.setIfInBounds_toArray, List.set_cons_zero, List.set_cons_succ]
            refine wpUpto.takeAll 13 (by kernel_rfl) (by kernel_rfl) (by kernel_rfl) (by kernel_rfl) (by assumption) ?_
            intro o ho
            simp only [List.getElem?_toArray, List.getElem?_cons_succ, List.getElem?_cons_zero, Option.some.injEq] at ho
            subst ho
            refine ⟨?_, fun _ _ _ h => h, Or.inl ⟨by rfl, ?_⟩, ?_⟩
            rotate_left
            · intro w hSw
              go_simp
              try with_reducible rfl
            simp only [Act.put, List.setIfInBounds_toArray, List.set_cons_zero, List.set_cons_succ]
            refine wpUpto.one 14 (by kernel_rfl) ?_
            intro o ho K hK
            simp only [List.getElem?_toArray, List.getElem?_cons_succ, List.getElem?_cons_zero, Option.some.injEq] at ho
            subst ho
            go_simp
            go_at_call 16
            refine (HSt.out _ H8.out).mono ?_
            rintro e w9 ⟨rfl, h9, s9⟩
            have hb9 := s9.blk rfl hb8
            have H9 := Lib.hid h9
            clear s9 h9
            refine hK.out _ _ ?_ (fun hHeld => ?_)
            · exact ⟨hb9.cell 0, hb9.cell 1, hb9.cell 2, hb9.cell 3⟩
            clear hK K
            try simp only [Act.put, List.setIfInBounds_toArray, List.set_cons_zero, List.set_cons_succ]
            refine wpUpto.takeAll 15 (by kernel_rfl) (by kernel_rfl) (by kernel_rfl) (by kernel_rfl) (by assumption) ?_
            intro o ho
            simp only [List.getElem?_toArray, List.getElem?_cons_succ, List.getElem?_cons_zero, Option.some.injEq] at ho
            subst ho
            refine ⟨?_, fun _ _ _ h => h, Or.inl ⟨by rfl, ?_⟩, ?_⟩
            rotate_left
            · intro w hSw
              go_simp
              try with_reducible rfl
            simp only [Act.put, List.setIfInBounds_toArray, List.set_cons_zero, List.set_cons_succ]
            refine wpUpto.one 16 (by kernel_rfl) ?_
            intro o ho K hK
            simp only [List.getElem?_toArray, List.getElem?_cons_succ, List.getElem?_cons_zero, Option.some.injEq] at ho
            subst ho
            go_simp
            refine hK.out _ _ ?_ (fun hHeld => ?_)
            · exact ⟨hb9.cell 0, hb9.cell 1, hb9.cell 2, hb9.cell 3⟩
            clear hK K
            refine wpUpto.done (by kernel_rfl) ?_ _
            refine NoPanic.normal ?_
            try simp only [Act.put, List.setIfInBounds_toArray, List.set_cons_zero, List.set_cons_succ]
            go_wp2_with fail
            go_meet
            case rel => exact ⟨by simp, by rw [HE.out.2]; exact H9.out.none_⟩
          · as_aux_lemma =>
            have hd : decide (kd < 4) = false := by simpa using hlow
            obtain ⟨e1, e2⟩ := y.act_high hlow nm tm zs
            have HE := Lib.hid (And.intro e1 e2)
            rw [e1] at HDo
            clear e1 e2 hlow
            refine wp_region_noPanic ?_
            refine wp_region_upto (fun V => V.cell? ⟨cb, 0, none⟩ = some (.int .i64 kd) ∧ V.cell? ⟨cb, 1, none⟩ = some (.int .i64 nm) ∧ V.cell? ⟨cb, 2, none⟩ = some (.int .i64 tm) ∧ V.cell? ⟨cb, 3, none⟩ = some (.slice AA zs.length cc)) 17 (by kernel_rfl) ?_ (fun hHeld => ?_)
            · exact ⟨i0, i1, i2, i3⟩
            refine wpUpto.takeAll 0 (by kernel_rfl) (by kernel_rfl) (by kernel_rfl) (by kernel_rfl) (by assumption) ?_
            intro o ho
            simp only [List.getElem?_toArray, List.getElem?_cons_zero, Option.some.injEq] at ho
            subst ho
            refine ⟨?_, fun _ _ _ h => h, Or.inl ⟨by rfl, ?_⟩, ?_⟩
            rotate_left
            · intro w hSw
              go_simp
              try with_reducible rfl
            simp only [Act.put, List.setIfInBounds_toArray, List.set_cons_zero, List.set_cons_succ]
            refine wpUpto.takeAll 1 (by kernel_rfl) (by kernel_rfl) (by kernel_rfl) (by kernel_rfl) (by assumption) ?_
            intro o ho
            simp only [List.getElem?_toArray, List.getElem?_cons_succ, List.getElem?_cons_zero, Option.some.injEq] at ho
            subst ho
            refine ⟨?_, fun _ _ _ h => h, Or.inl ⟨by rfl, ?_⟩, ?_⟩
            rotate_left
            · intro w hSw
              go_simp
              try with_reducible rfl
            simp only [Act.put, List.setIfInBounds_toArray, List.set_cons_zero, List.set_cons_succ]
            refine wpUpto.takeAll 3 (by kernel_rfl) (by kernel_rfl) (by kernel_rfl) (by kernel_rfl) (by assumption) ?_
            intro o ho
            simp only [List.getElem?_toArray, List.getElem?_cons_succ, List.getElem?_cons_zero, Option.some.injEq] at ho
            subst ho
            refine ⟨?_, fun _ _ _ h => h, Or.inl ⟨by rfl, ?_⟩, ?_⟩
            rotate_left
            · intro w hSw
              go_simp
              try with_reducible rfl
            simp only [Act.put, List.setIfInBounds_toArray, List.set_cons_zero, List.set_cons_succ]
            refine wpUpto.takeAll 4 (by kernel_rfl) (by kernel_rfl) (by kernel_rfl) (by kernel_rfl) (by assumption) ?_
            intro o ho
            simp only [List.getElem?_toArray, List.getElem?_cons_succ, List.getElem?_cons_zero, Option.some.injEq] at ho
            subst ho
            refine ⟨?_, fun _ _ _ h => h, Or.inl ⟨by rfl, ?_⟩, ?_⟩
            rotate_left
            · intro w hSw
              go_simp
              try with_reducible rfl
            simp only [Act.put, List.setIfInBounds_toArray, List.set_cons_zero, List.set_cons_succ]
            refine wpUpto.takeAll 5 (by kernel_rfl) (by kernel_rfl) (by kernel_rfl) (by kernel_rfl) (by assumption) ?_
            intro o ho
            simp only [List.getElem?_toArray, List.getElem?_cons_succ, List.getElem?_cons_zero, Option.some.injEq] at ho
            subst ho
            refine ⟨?_, fun _ _ _ h => h, Or.inl ⟨by rfl, ?_⟩, ?_⟩
            rotate_left
            · intro w hSw
              go_simp
              try with_reducible rfl
            simp only [Act.put, List.setIfInBounds_toArray, List.set_cons_zero, List.set_cons_succ]
            refine wpUpto.one 2 (by kernel_rfl) ?_
            intro o ho K hK
            simp only [List.getElem?_toArray, List.getElem?_cons_succ, List.getElem?_cons_zero, Option.some.injEq] at ho
            subst ho
            go_simp
            go_at_call 15
            refine HDo.out.mono ?_
            rintro e w8 ⟨rfl, h8, s8⟩
            have hb8 := s8.blk rfl HC.out.2.drew
            have H8 := Lib.hid h8
            clear s8 h8
            refine hK.out _ _ ?_ (fun hHeld => ?_)
            · exact ⟨hb8.cell 0, hb8.cell 1, hb8.cell 2, hb8.cell 3⟩
            clear hK K
            try simp only [Act.put, List.setIfInBounds_toArray, List.set_cons_zero, List.set_cons_succ]
            refine wpUpto.takeAll 6 (by kernel_rfl) (by kernel_rfl) (by kernel_rfl) (by kernel_rfl) (by assumption) ?_
            intro o ho
            simp only [List.getElem?_toArray, List.getElem?_cons_succ, List.getElem?_cons_zero, Option.some.injEq] at ho
            subst ho
            refine ⟨?_, fun _ _ _ h => h, Or.inl ⟨by rfl, ?_⟩, ?_⟩
            rotate_left
            · intro w hSw
              go_simp
              try with_reducible rfl
            simp only [Act.put, List.setIfInBounds_toArray, List.set_cons_zero, List.set_cons_succ]
            refine wpUpto.takeAll 7 (by kernel_rfl) (by kernel_rfl) (by kernel_rfl) (by kernel_rfl) (by assumption) ?_
            intro o ho
            simp only [List.getElem?_toArray, List.getElem?_cons_succ, List.getElem?_cons_zero, Option.some.injEq] at ho
            subst ho
            refine ⟨undef, fun _ _ _ h => h, Or.inr ⟨by rfl, rfl⟩, ?_⟩
            simp only [Act.put, List.setIfInBounds_toArray, List.set_cons_zero, List.set_cons_succ]
            refine wpUpto.takeAll 8 (by kernel_rfl) (by kernel_rfl) (by kernel_rfl) (by kernel_rfl) (by assumption) ?_
            intro o ho
            simp only [List.getElem?_toArray, List.getElem?_cons_succ, List.getElem?_cons_zero, Option.some.injEq] at ho
            subst ho
            refine ⟨undef, fun _ _ _ h => h, Or.inr ⟨by rfl, rfl⟩, ?_⟩
            simp only [Act.put, List.setIfInBounds_toArray, List.set_cons_zero, List.set_cons_succ]
            refine wpUpto.takeAll 9 (by kernel_rfl) (by kernel_rfl) (by kernel_rfl) (by kernel_rfl) (by assumption) ?_
            intro o ho
            simp only [List.getElem?_toArray, List.getElem?_cons_succ, List.getElem?_cons_zero, Option.some.injEq] at ho
            subst ho
            refine ⟨undef, fun _ _ _ h => h, Or.inr ⟨by rfl, rfl⟩, ?_⟩
            simp only [Act.put, List.setIfInBounds_toArray, List.set_cons_zero, List.set_cons_succ]
            refine wpUpto.takeAll 10 (by kernel_rfl) (by kernel_rfl) (by kernel_rfl) (by kernel_rfl) (by assumption) ?_
            intro o ho
            simp only [List.getElem?_toArray, List.getElem?_cons_succ, List.getElem?_cons_zero, Option.some.injEq] at ho
            subst ho
            refine ⟨undef, fun _ _ _ h => h, Or.inr ⟨by rfl, rfl⟩, ?_⟩
            simp only [Act.put, List.setIfInBounds_toArray, List.set_cons_zero, List.set_cons_succ]
            refine wpUpto.takeAll 11 (by kernel_rfl) (by kernel_rfl) (by kernel_rfl) (by kernel_rfl) (by assumption) ?_
            intro o ho
            simp only [List.getElem?_toArray, List.getElem?_cons_succ, List.getElem?_cons_zero, Option.some.injEq] at ho
            subst ho
            refine ⟨undef, fun _ _ _ h => h, Or.inr ⟨by rfl, rfl⟩, ?_⟩
            simp only [Act.put, List.setIfInBounds_toArray, List.set_cons_zero, List.set_cons_succ]
            refine wpUpto.takeAll 12 (by kernel_rfl) (by kernel_rfl) (by kernel_rfl) (by kernel_rfl) (by assumption) ?_
            intro o ho
            simp only [List.getElem?_toArray, List.getElem?_cons_succ, List.getElem?_cons_zero, Option.some.injEq] at ho
            subst ho
            refine ⟨undef, fun _ _ _ h => h, Or.inr ⟨by rfl, rfl⟩, ?_⟩
            simp only [Act.put, List.setIfInBounds_toArray, List.set_cons_zero, List.set_cons_succ]
            refine wpUpto.takeAll 13 (by kernel_rfl) (by kernel_rfl) (by kernel_rfl) (by kernel_rfl) (by assumption) ?_
            intro o ho
            simp only [List.getElem?_toArray, List.getElem?_cons_succ, List.getElem?_cons_zero, Option.some.injEq] at ho
            subst ho
            refine ⟨undef, fun _ _ _ h => h, Or.inr ⟨by rfl, rfl⟩, ?_⟩
            simp only [Act.put, List.setIfInBounds_toArray, List.set_cons_zero, List.set_cons_succ]
            refine wpUpto.one 14 (by kernel_rfl) ?_
            intro o ho K hK
            simp only [List.getElem?_toArray, List.getElem?_cons_succ, List.getElem?_cons_zero, Option.some.injEq] at ho
            subst ho
            go_simp
            refine hK.out _ _ ?_ (fun hHeld => ?_)
            · exact ⟨hb8.cell 0, hb8.cell 1, hb8.cell 2, hb8.cell 3⟩
            clear hK K
            try simp only [Act.put, List.setIfInBounds_toArray, List.set_cons_zero, List.set_cons_succ]
            refine wpUpto.takeAll 15 (by kernel_rfl) (by kernel_rfl) (by kernel_rfl) (by kernel_rfl) (by assumption) ?_
            intro o ho
            simp only [List.getElem?_toArray, List.getElem?_cons_succ, List.getElem?_cons_zero, Option.some.injEq] at ho
            subst ho
            refine ⟨?_, fun _ _ _ h => h, Or.inl ⟨by rfl, ?_⟩, ?_⟩
            rotate_left
            · intro w hSw
              go_simp
              try with_reducible rfl
            simp only [Act.put, List.setIfInBounds_toArray, List.set_cons_zero, List.set_cons_succ]
            refine wpUpto.one 16 (by kernel_rfl) ?_
            intro o ho K hK
            simp only [List.getElem?_toArray, List.getElem?_cons_succ, List.getElem?_cons_zero, Option.some.injEq] at ho
            subst ho
            go_simp
            refine hK.out _ _ ?_ (fun hHeld => ?_)
            · exact ⟨hb8.cell 0, hb8.cell 1, hb8.cell 2, hb8.cell 3⟩
            clear hK K
            refine wpUpto.done (by kernel_rfl) ?_ _
            refine NoPanic.normal ?_
            try simp only [Act.put, List.setIfInBounds_toArray, List.set_cons_zero, List.set_cons_succ]
            go_wp2_with fail
            go_meet
            case rel => exact ⟨by simp, by rw [HE.out.2]; exact H8.out.none_⟩
        case rest =>
          as_aux_lemma =>
          obtain ⟨rfl, HD⟩ := hcut
          have hg1 := HG0.out.act hrm30 kd nm tm hza HAT.out.byte
          generalize (y.act kd nm tm zs).2 = y1 at *
          have HG1 := Lib.hid hg1
          clear hg1 HDo i0 i1 i2 i3 HC HG0
          obtain ⟨A0, c0, v0, l0, vt0, rb, -, -⟩ := pair_rl HD.out
          have p2 : wc.cell? ⟨b, 2, none⟩ = some (.pointer (some ⟨r, 0, none⟩)) := (WAt.blk HD.out.fst).cell 2
          have q3 : wc.cell? ⟨m, 3, none⟩ = some (.bool (y1.x.ov 0)) := rb.cell 3
          have q5 : wc.cell? ⟨m, 5, none⟩ = some (.slice (A0 0) (y1.x.ws 0).length (c0 0)) := rb.cell 5
          have q6 : wc.cell? ⟨m, 6, none⟩ = some (.slice (A0 1) (y1.x.ws 1).length (c0 1)) := rb.cell 6
          have PR1 : Hid (∀ n, Calls Tryd.prog 17 #[.pointer (some ⟨r, 0, none⟩), .int .i64 1] (wc.drewN n) fun e w' => e = .returned (.int .i64 ((y1.x.ws 1).length : Nat)) ∧ wc.drewN n = w') := fun n => WRWaits (HD.out.drewN (Star.framed (WorldT.framed ..) (DSys.framed ..)) n).fst (d := 1) (z := 1) (by omega) rfl
          have PR0 : Hid (∀ n, Calls Tryd.prog 17 #[.pointer (some ⟨r, 0, none⟩), .int .i64 0] (wc.drewN n) fun e w' => e = .returned (.int .i64 ((y1.x.ws 0).length : Nat)) ∧ wc.drewN n = w') := fun n => WRWaits (HD.out.drewN (Star.framed (WorldT.framed ..) (DSys.framed ..)) n).fst (d := 0) (z := 0) (by omega) rfl
          have PR2 : Hid (∀ n, Calls Tryd.prog 17 #[.pointer (some ⟨r, 0, none⟩), .int .i64 2] (wc.drewN n) fun e w' => e = .returned (.int .i64 0) ∧ wc.drewN n = w') := fun n => Waits_no r 2 _ (by omega) (by omega)
          have PDN : Hid (∀ W, Has (Star (WorldT b u c' r y1) (DSys (two c2 u2) m y1.x)) (fun _ => False) w W → Calls Tryd.prog 18 #[.pointer (some ⟨r, 0, none⟩)] W fun e w' => e = .returned (.bool (y1.x.ov 0 && ((y1.x.ws 0).length : Int) == 0)) ∧ W = w') := fun W hW => by
            have h := WDone hW.fst
            have e : y1.x.done = (y1.x.ov 0 && ((y1.x.ws 0).length : Int) == 0) := by
              unfold Sys.done
              generalize y1.x.ws 0 = xs
              have he : xs.isEmpty = ((xs.length : Int) == 0) := by
                cases xs
                · rfl
                · simp; omega
              rw [he]
            rwa [e] at h
          clear rb
          generalize (y1.x.ws 0).length = n0 at *
          generalize (y1.x.ws 1).length = n1 at *
          generalize y1.x.ov 0 = ov at *
          go_wp2_with fail
          go_quiet ((first
            | (go_at_call 17; with_reducible exact quiet_l (PR1.out _))
            | (go_at_call 17; with_reducible exact quiet_l (PR0.out _))
            | (go_at_call 17; with_reducible exact quiet_l (PR2.out _))))
          obtain ⟨w9, hw9⟩ : ∃ w9, wc.drewN nq = w9 := ⟨_, rfl⟩
          have HD9 : Hid (Has (Star (WorldT b u c' r y1) (DSys (two c2 u2) m y1.x)) (fun _ => False) w w9) := by rw [← hw9]; exact HD.out.drewN (Star.framed (WorldT.framed ..) (DSys.framed ..)) _
          have p2' : w9.cell? ⟨b, 2, none⟩ = some (.pointer (some ⟨r, 0, none⟩)) := by rw [← hw9]; exact p2
          have q3' : w9.cell? ⟨m, 3, none⟩ = some (.bool ov) := by rw [← hw9]; exact q3
          have q5' : w9.cell? ⟨m, 5, none⟩ = some (.slice (A0 0) n0 (c0 0)) := by rw [← hw9]; exact q5
          have PD9 : Hid (∀ n, Calls Tryd.prog 18 #[.pointer (some ⟨r, 0, none⟩)] (w9.drewN n) fun e w' => e = .returned (.bool (ov && (n0 : Int) == 0)) ∧ w9.drewN n = w') := fun n => PDN.out _ (HD9.out.drewN (Star.framed (WorldT.framed ..) (DSys.framed ..)) n)
          rw [hw9]
          clear hw9 p2 q3 q5 q6 PDN PR0 PR1 PR2 HD
          cases ov with
          | false =>
            as_aux_lemma =>
            go_wp2_with fail
            simp only [Bool.false_and] at PD9
            go_quiet ((go_at_call 18; with_reducible exact quiet_l (PD9.out _)))
            go_wp2_with fail
            go_roundw
            case rel => exact ⟨k + 1, y1, by omega, by go_num, HD9.out.drewN (Star.framed (WorldT.framed ..) (DSys.framed ..)) _, HG1.out⟩
            case measure => simp [intOf]; omega
          | true =>
            as_aux_lemma =>
            go_wp2_with fail
            simp only [Bool.true_and] at PD9
            go_quiet ((go_at_call 18; with_reducible exact quiet_l (PD9.out _)))
            go_wp2_with fail
            go_roundw
            case rel => exact ⟨k + 1, y1, by omega, by go_num, HD9.out.drewN (Star.framed (WorldT.framed ..) (DSys.framed ..)) _, HG1.out⟩
            case measure => simp [intOf]; omega
    · as_aux_lemma =>
      obtain rfl : k = l.length := by omega
      have i2 : wr.cell? ⟨b, 2, none⟩ = some (.pointer (some ⟨r, 0, none⟩)) := (WAt.blk HS.out.1.fst).cell 2
      go_wp2_with fail
      refine (WTell HS.out.1.fst HS.out.2.ok).mono ?_
      intro e w7 h7
      obtain ⟨A7, c7, ls, rfl, hev, hpe, hb7⟩ := h7.evs HS.out.2.ok
      have h8 := HS.out.1.keep (Star.framed (WorldT.framed ..) (DSys.framed ..)) hb7
      have H7 := Lib.hid (And.intro h8 (And.intro hev hpe))
      clear h7 hev hpe hb7 i2 h8
      go_upto_region 32 with (fail)
      obtain ⟨tb, htb⟩ : ∃ tb, w7.heap.size = tb := ⟨_, rfl⟩
      have hbx : Blk (w7.alloc (.cells #[.slice A7 ls.length c7, .bool (y.x.ov 0)] 56)) w7.heap.size 56 #[.slice A7 ls.length c7, .bool (y.x.ov 0)] := Blk.new w7 _ _
      have hh8 : Has (Star (WorldT b u c' r y) (DSys (two c2 u2) m y.x)) (fun _ => False) w (w7.alloc (.cells #[.slice A7 ls.length c7, .bool (y.x.ov 0)] 56)) := H7.out.1.keep (Star.framed (WorldT.framed ..) (DSys.framed ..)) ((Below.refl _ w7).alloc (Nat.le_refl _) _)
      have he8 := H7.out.2.1.alloc (.cells #[.slice A7 ls.length c7, .bool (y.x.ov 0)] 56)
      obtain ⟨w8, hW8⟩ : ∃ w8, w7.alloc (.cells #[.slice A7 ls.length c7, .bool (y.x.ov 0)] 56) = w8 := ⟨_, rfl⟩
      rw [hW8] at hbx hh8 he8
      rw [htb] at hbx
      rw [hW8, htb]
      obtain ⟨A0, c0, v0, l0, vt0, rb, ⟨g0, G0, hel0⟩, hpe0⟩ := pair_rl hh8
      have hl0 : l0.length ≤ 9223372036854775807 := by have := HS.out.2.ok.len; rw [← hpe0, pes_len] at this; omega
      have he0 : Evs w8 v0 l0 := hel0.evsIn hl0 (fun _ _ => trivial) (fun _ _ => trivial)
      have hdr : Below w8.heap.size w8 w8.drew := ⟨rfl, rfl, rfl, Nat.le_refl _, fun _ _ => rfl⟩
      have t0 : w8.cell? ⟨tb, 0, none⟩ = some (.slice A7 ls.length c7) := hbx.cell 0
      have t1 : w8.cell? ⟨tb, 1, none⟩ = some (.bool (y.x.ov 0)) := hbx.cell 1
      have q2 : w8.cell? ⟨m, 2, none⟩ = some v0 := rb.cell 2
      have q3 : w8.cell? ⟨m, 3, none⟩ = some (.bool (y.x.ov 0)) := rb.cell 3
      have HEV := Lib.hid (And.intro (he8.below hdr) (And.intro (he0.below hdr) (And.intro H7.out.2.2 hpe0)))
      have H8 := Lib.hid (hh8.drew (Star.framed (WorldT.framed ..) (DSys.framed ..)))
      have HT := Lib.hid (And.intro rb.drew hbx.drew)
      have HOK := Lib.hid HS.out.2
      clear hdr he0 hl0 hel0 hpe0 rb he8 hh8 hbx hW8 htb H7 HS
      refine wp_region_noPanic ?_
      refine wp_region_upto (fun V => V.cell? ⟨tb, 0, none⟩ = some (.slice A7 ls.length c7) ∧ V.cell? ⟨tb, 1, none⟩ = some (.bool (y.x.ov 0)) ∧ V.cell? ⟨m, 2, none⟩ = some v0 ∧ V.cell? ⟨m, 3, none⟩ = some (.bool (y.x.ov 0))) 17 (by kernel_rfl) ?_ (fun hHeld => ?_)
      · exact ⟨t0, t1, q2, q3⟩
      refine wpUpto.takeAll 0 (by kernel_rfl) (by kernel_rfl) (by kernel_rfl) (by kernel_rfl) (by assumption) ?_
      intro o ho
      simp only [List.getElem?_toArray, List.getElem?_cons_zero, Option.some.injEq] at ho
      subst ho
      refine ⟨?_, fun _ _ _ h => h, Or.inl ⟨by rfl, ?_⟩, ?_⟩
      rotate_left
      · intro w hSw
        go_simp
        try with_reducible rfl
      simp only [Act.put, List.setIfInBounds_toArray, List.set_cons_zero, List.set_cons_succ]
      refine wpUpto.takeAll 1 (by kernel_rfl) (by kernel_rfl) (by kernel_rfl) (by kernel_rfl) (by assumption) ?_
      intro o ho
      simp only [List.getElem?_toArray, List.getElem?_cons_succ, List.getElem?_cons_zero, Option.some.injEq] at ho
      subst ho
      refine ⟨?_, fun _ _ _ h => h, Or.inl ⟨by rfl, ?_⟩, ?_⟩
      rotate_left
      · intro w hSw
        go_simp
        try with_reducible rfl
      simp only [Act.put, List.setIfInBounds_toArray, List.set_cons_zero, List.set_cons_succ]
      refine wpUpto.takeAll 2 (by kernel_rfl) (by kernel_rfl) (by kernel_rfl) (by kernel_rfl) (by assumption) ?_
      intro o ho
      simp only [List.getElem?_toArray, List.getElem?_cons_succ, List.getElem?_cons_zero, Option.some.injEq] at ho
      subst ho
      refine ⟨?_, fun _ _ _ h => h, Or.inl ⟨by rfl, ?_⟩, ?_⟩
      rotate_left
      · intro w hSw
        go_simp
        try with_reducible rfl
      simp only [Act.put, List.setIfInBounds_toArray, List.set_cons_zero, List.set_cons_succ]
      refine wpUpto.takeAll 3 (by kernel_rfl) (by kernel_rfl) (by kernel_rfl) (by kernel_rfl) (by assumption) ?_
      intro o ho
      simp only [List.getElem?_toArray, List.getElem?_cons_succ, List.getElem?_cons_zero, Option.some.injEq] at ho
      subst ho
      refine ⟨?_, fun _ _ _ h => h, Or.inl ⟨by rfl, ?_⟩, ?_⟩
      rotate_left
      · intro w hSw
        go_simp
        try with_reducible rfl
      simp only [Act.put, List.setIfInBounds_toArray, List.set_cons_zero, List.set_cons_succ]
      refine wpUpto.takeAll 4 (by kernel_rfl) (by kernel_rfl) (by kernel_rfl) (by kernel_rfl) (by assumption) ?_
      intro o ho
      simp only [List.getElem?_toArray, List.getElem?_cons_succ, List.getElem?_cons_zero, Option.some.injEq] at ho
      subst ho
      refine ⟨?_, fun _ _ _ h => h, Or.inl ⟨by rfl, ?_⟩, ?_⟩
      rotate_left
      · intro w hSw
        go_simp
        try with_reducible rfl
      simp only [Act.put, List.setIfInBounds_toArray, List.set_cons_zero, List.set_cons_succ]
      refine wpUpto.takeAll 5 (by kernel_rfl) (by kernel_rfl) (by kernel_rfl) (by kernel_rfl) (by assumption) ?_
      intro o ho
      simp only [List.getElem?_toArray, List.getElem?_cons_succ, List.getElem?_cons_zero, Option.some.injEq] at ho
      subst ho
      refine ⟨?_, fun _ _ _ h => h, Or.inl ⟨by rfl, ?_⟩, ?_⟩
      rotate_left
      · intro w hSw
        go_simp
        try with_reducible rfl
      simp only [Act.put, List.setIfInBounds_toArray, List.set_cons_zero, List.set_cons_succ]
      refine wpUpto.one 6 (by kernel_rfl) ?_
      intro o ho K hK
      simp only [List.getElem?_toArray, List.getElem?_cons_succ, List.getElem?_cons_zero, Option.some.injEq] at ho
      subst ho
      go_simp
      go_at_call 20
      refine (RSame_any _ _ ls l0 w8.drew HEV.out.1 HEV.out.2.1).mono ?_
      rintro e w9 ⟨rfl, hb9⟩
      have hdd : decide (pes ls = pes l0) = true := by simp [HEV.out.2.2.1, HEV.out.2.2.2]
      rw [hdd]
      have hbt := HT.out.2.below hb9 HT.out.2.lt
      have hbm := HT.out.1.below hb9 HT.out.1.lt
      have H9 := Lib.hid (H8.out.keep (Star.framed (WorldT.framed ..) (DSys.framed ..)) hb9)
      clear hb9 hdd
      refine hK.out _ _ ?_ (fun hHeld => ?_)
      · exact ⟨hbt.cell 0, hbt.cell 1, hbm.cell 2, hbm.cell 3⟩
      clear hK K
      try simp only [Act.put, List.setIfInBounds_toArray, List.set_cons_zero, List.set_cons_succ]
      refine wpUpto.takeAll 7 (by kernel_rfl) (by kernel_rfl) (by kernel_rfl) (by kernel_rfl) (by assumption) ?_
      intro o ho
      simp only [List.getElem?_toArray, List.getElem?_cons_succ, List.getElem?_cons_zero, Option.some.injEq] at ho
      subst ho
      refine ⟨?_, fun _ _ _ h => h, Or.inl ⟨by rfl, ?_⟩, ?_⟩
      rotate_left
      · intro w hSw
        go_simp
        try with_reducible rfl
      simp only [Act.put, List.setIfInBounds_toArray, List.set_cons_zero, List.set_cons_succ]
      refine wpUpto.takeAll 8 (by kernel_rfl) (by kernel_rfl) (by kernel_rfl) (by kernel_rfl) (by assumption) ?_
      intro o ho
      simp only [List.getElem?_toArray, List.getElem?_cons_succ, List.getElem?_cons_zero, Option.some.injEq] at ho
      subst ho
      refine ⟨?_, fun _ _ _ h => h, Or.inl ⟨by rfl, ?_⟩, ?_⟩
      rotate_left
      · intro w hSw
        go_simp
        try with_reducible rfl
      simp only [Act.put, List.setIfInBounds_toArray, List.set_cons_zero, List.set_cons_succ]
      refine wpUpto.takeAll 9 (by kernel_rfl) (by kernel_rfl) (by kernel_rfl) (by kernel_rfl) (by assumption) ?_
      intro o ho
      simp only [List.getElem?_toArray, List.getElem?_cons_succ, List.getElem?_cons_zero, Option.some.injEq] at ho
      subst ho
      refine ⟨?_, fun _ _ _ h => h, Or.inl ⟨by rfl, ?_⟩, ?_⟩
      rotate_left
      · intro w hSw
        go_simp
        try with_reducible rfl
      simp only [Act.put, List.setIfInBounds_toArray, List.set_cons_zero, List.set_cons_succ]
      refine wpUpto.takeAll 10 (by kernel_rfl) (by kernel_rfl) (by kernel_rfl) (by kernel_rfl) (by assumption) ?_
      intro o ho
      simp only [List.getElem?_toArray, List.getElem?_cons_succ, List.getElem?_cons_zero, Option.some.injEq] at ho
      subst ho
      refine ⟨?_, fun _ _ _ h => h, Or.inl ⟨by rfl, ?_⟩, ?_⟩
      rotate_left
      · intro w hSw
        go_simp
        try with_reducible rfl
      simp only [Act.put, List.setIfInBounds_toArray, List.set_cons_zero, List.set_cons_succ]
      refine wpUpto.takeAll 11 (by kernel_rfl) (by kernel_rfl) (by kernel_rfl) (by kernel_rfl) (by assumption) ?_
      intro o ho
      simp only [List.getElem?_toArray, List.getElem?_cons_succ, List.getElem?_cons_zero, Option.some.injEq] at ho
      subst ho
      refine ⟨?_, fun _ _ _ h => h, Or.inl ⟨by rfl, ?_⟩, ?_⟩
      rotate_left
      · intro w hSw
        go_simp
        try with_reducible rfl
      simp only [Act.put, List.setIfInBounds_toArray, List.set_cons_zero, List.set_cons_succ]
      refine wpUpto.takeAll 12 (by kernel_rfl) (by kernel_rfl) (by kernel_rfl) (by kernel_rfl) (by assumption) ?_
      intro o ho
      simp only [List.getElem?_toArray, List.getElem?_cons_succ, List.getElem?_cons_zero, Option.some.injEq] at ho
      subst ho
      refine ⟨?_, fun _ _ _ h => h, Or.inl ⟨by rfl, ?_⟩, ?_⟩
      rotate_left
      · intro w hSw
        go_simp
        try with_reducible rfl
      simp only [Act.put, List.setIfInBounds_toArray, List.set_cons_zero, List.set_cons_succ]
      refine wpUpto.takeAll 13 (by kernel_rfl) (by kernel_rfl) (by kernel_rfl) (by kernel_rfl) (by assumption) ?_
      intro o ho
      simp only [List.getElem?_toArray, List.getElem?_cons_succ, List.getElem?_cons_zero, Option.some.injEq] at ho
      subst ho
      refine ⟨?_, fun _ _ _ h => h, Or.inl ⟨by rfl, ?_⟩, ?_⟩
      rotate_left
      · intro w hSw
        go_simp
        try with_reducible rfl
      simp only [Act.put, List.setIfInBounds_toArray, List.set_cons_zero, List.set_cons_succ]
      refine wpUpto.takeAll 14 (by kernel_rfl) (by kernel_rfl) (by kernel_rfl) (by kernel_rfl) (by assumption) ?_
      intro o ho
      simp only [List.getElem?_toArray, List.getElem?_cons_succ, List.getElem?_cons_zero, Option.some.injEq] at ho
      subst ho
      refine ⟨?_, fun _ _ _ h => h, Or.inl ⟨by rfl, ?_⟩, ?_⟩
      rotate_left
      · intro w hSw
        go_simp
        try with_reducible rfl
      simp only [Act.put, List.setIfInBounds_toArray, List.set_cons_zero, List.set_cons_succ]
      refine wpUpto.takeAll 15 (by kernel_rfl) (by kernel_rfl) (by kernel_rfl) (by kernel_rfl) (by assumption) ?_
      intro o ho
      simp only [List.getElem?_toArray, List.getElem?_cons_succ, List.getElem?_cons_zero, Option.some.injEq] at ho
      subst ho
      refine ⟨?_, fun _ _ _ h => h, Or.inl ⟨by rfl, ?_⟩, ?_⟩
      rotate_left
      · intro w hSw
        go_simp
        try with_reducible rfl
      simp only [Act.put, List.setIfInBounds_toArray, List.set_cons_zero, List.set_cons_succ]
      refine wpUpto.one 16 (by kernel_rfl) ?_
      intro o ho K hK
      simp only [List.getElem?_toArray, List.getElem?_cons_succ, List.getElem?_cons_zero, Option.some.injEq] at ho
      subst ho
      go_simp
      refine hK.out _ _ ?_ (fun hHeld => ?_)
      · exact ⟨hbt.cell 0, hbt.cell 1, hbm.cell 2, hbm.cell 3⟩
      clear hK K
      try simp only [Act.put, List.setIfInBounds_toArray, List.set_cons_zero, List.set_cons_succ]
      refine wpUpto.done (by kernel_rfl) ?_ _
      refine NoPanic.normal ?_
      try simp only [Act.put, List.setIfInBounds_toArray, List.set_cons_zero, List.set_cons_succ]
      go_wp2_with fail
      go_loopw [194] (fun i wi => ∃ j : Int, (j = 0 ∨ j = 1 ∨ j = 2) ∧ i = .int .i64 j ∧ Hid (Has (Star (WorldT b u c' r y) (DSys (two c2 u2) m y.x)) (fun _ => False) w wi)) (fun i _ => 2 - (intOf i).toNat)
      case atStart => exact ⟨0, .inl rfl, rfl, H9.out⟩
      case round =>
        obtain ⟨j, hj, rfl, HI⟩ := hrel
        have p0 : wr.cell? ⟨b, 0, none⟩ = some (.pointer (some ⟨u, 0, none⟩)) := (WAt.blk HI.out.fst).cell 0
        have p1 : wr.cell? ⟨b, 1, none⟩ = some (.pointer (some ⟨c', 0, none⟩)) := (WAt.blk HI.out.fst).cell 1
        obtain ⟨A1, c1, v1, l1, vt1, rb1, -, -⟩ := pair_rl HI.out
        have q0 : wr.cell? ⟨m, 0, none⟩ = some (.pointer (some ⟨u2, 0, none⟩)) := rb1.cell 0
        have q1 : wr.cell? ⟨m, 1, none⟩ = some (.pointer (some ⟨c2, 0, none⟩)) := rb1.cell 1
        clear rb1
        rcases hj with rfl | rfl | rfl
        · as_aux_lemma =>
          have PWu : Hid (∀ n, Calls Tryd.prog 21 #[.pointer (some ⟨u, 0, none⟩), .int .i64 0] (wr.drewN n) fun e w' => e = .returned (.int .i64 ((y.x.f 1 (1 - 0)).xs.length : Nat)) ∧ wr.drewN n = w') := fun n => WWaits (HI.out.drewN (Star.framed (WorldT.framed ..) (DSys.framed ..)) n).fst HA.out.2 (k := 1) (s := 0) (p := u) (z := 0) (by omega) (by omega) rfl rfl
          have PWc : Hid (∀ n, Calls Tryd.prog 21 #[.pointer (some ⟨c', 0, none⟩), .int .i64 0] (wr.drewN n) fun e w' => e = .returned (.int .i64 ((y.x.f 0 (1 - 0)).xs.length : Nat)) ∧ wr.drewN n = w') := fun n => WWaits (HI.out.drewN (Star.framed (WorldT.framed ..) (DSys.framed ..)) n).fst HA.out.2 (k := 0) (s := 0) (p := c') (z := 0) (by omega) (by omega) rfl rfl
          have POu : Hid (∀ n, Calls Tryd.prog 22 #[.pointer (some ⟨u, 0, none⟩), .int .i64 0] (wr.drewN n) fun e w' => e = .returned (.bool ((y.x.f 1 (1 - 0)).en && (y.x.f 1 (1 - 0)).xs.isEmpty)) ∧ wr.drewN n = w') := fun n => WOver (HI.out.drewN (Star.framed (WorldT.framed ..) (DSys.framed ..)) n).fst HA.out.2 (k := 1) (s := 0) (p := u) (z := 0) (by omega) (by omega) rfl rfl
          have POc : Hid (∀ n, Calls Tryd.prog 22 #[.pointer (some ⟨c', 0, none⟩), .int .i64 0] (wr.drewN n) fun e w' => e = .returned (.bool ((y.x.f 0 (1 - 0)).en && (y.x.f 0 (1 - 0)).xs.isEmpty)) ∧ wr.drewN n = w') := fun n => WOver (HI.out.drewN (Star.framed (WorldT.framed ..) (DSys.framed ..)) n).fst HA.out.2 (k := 0) (s := 0) (p := c') (z := 0) (by omega) (by omega) rfl rfl
          have PDu : Hid (∀ n, Calls Tryd.prog 23 #[.pointer (some ⟨u2, 0, none⟩), .int .i64 0] (wr.drewN n) fun e w' => e = .returned (.bool ((y.x.f 1 (1 - 0)).en && (y.x.f 1 (1 - 0)).xs.isEmpty)) ∧ wr.drewN n = w') := fun n => pair_over (HI.out.drewN (Star.framed (WorldT.framed ..) (DSys.framed ..)) n) (k := 1) (s := 0) (p := u2) (z := 0) (by omega) (by omega) rfl rfl
          have PDc : Hid (∀ n, Calls Tryd.prog 23 #[.pointer (some ⟨c2, 0, none⟩), .int .i64 0] (wr.drewN n) fun e w' => e = .returned (.bool ((y.x.f 0 (1 - 0)).en && (y.x.f 0 (1 - 0)).xs.isEmpty)) ∧ wr.drewN n = w') := fun n => pair_over (HI.out.drewN (Star.framed (WorldT.framed ..) (DSys.framed ..)) n) (k := 0) (s := 0) (p := c2) (z := 0) (by omega) (by omega) rfl rfl
          obtain ⟨qa, Aa, ca, x1, x2⟩ := pair_queue HI.out (k := 1) (s := 0) (p := u2) (by omega) (by omega) rfl
          obtain ⟨qb, Ab, cb, z1, z2⟩ := pair_queue HI.out (k := 0) (s := 0) (p := c2) (by omega) (by omega) rfl
          generalize ((y.x.f 1 (1 - 0)).en && (y.x.f 1 (1 - 0)).xs.isEmpty) = o1 at *
          generalize ((y.x.f 0 (1 - 0)).en && (y.x.f 0 (1 - 0)).xs.isEmpty) = o0 at *
          generalize (y.x.f 1 (1 - 0)).xs.length = n1 at *
          generalize (y.x.f 0 (1 - 0)).xs.length = n0 at *
          go_wp2_with fail
          go_quiet ((first
            | (go_at_call 21; with_reducible exact quiet_l (PWu.out _))
            | (go_at_call 21; with_reducible exact quiet_l (PWc.out _))
            | (go_at_call 22; with_reducible exact quiet_l (POu.out _))
            | (go_at_call 22; with_reducible exact quiet_l (POc.out _))
            | (go_at_call 23; with_reducible exact quiet_l (PDu.out _))
            | (go_at_call 23; with_reducible exact quiet_l (PDc.out _))))
          go_wp2_with fail
          go_roundw
          case rel => exact ⟨1, .inr (.inl rfl), rfl, HI.out.drewN (Star.framed (WorldT.framed ..) (DSys.framed ..)) _⟩
          case measure => simp [intOf]
        · as_aux_lemma =>
          have PWu : Hid (∀ n, Calls Tryd.prog 21 #[.pointer (some ⟨u, 0, none⟩), .int .i64 1] (wr.drewN n) fun e w' => e = .returned (.int .i64 ((y.x.f 1 (1 - 1)).xs.length : Nat)) ∧ wr.drewN n = w') := fun n => WWaits (HI.out.drewN (Star.framed (WorldT.framed ..) (DSys.framed ..)) n).fst HA.out.2 (k := 1) (s := 1) (p := u) (z := 1) (by omega) (by omega) rfl rfl
          have PWc : Hid (∀ n, Calls Tryd.prog 21 #[.pointer (some ⟨c', 0, none⟩), .int .i64 1] (wr.drewN n) fun e w' => e = .returned (.int .i64 ((y.x.f 0 (1 - 1)).xs.length : Nat)) ∧ wr.drewN n = w') := fun n => WWaits (HI.out.drewN (Star.framed (WorldT.framed ..) (DSys.framed ..)) n).fst HA.out.2 (k := 0) (s := 1) (p := c') (z := 1) (by omega) (by omega) rfl rfl
          have POu : Hid (∀ n, Calls Tryd.prog 22 #[.pointer (some ⟨u, 0, none⟩), .int .i64 1] (wr.drewN n) fun e w' => e = .returned (.bool ((y.x.f 1 (1 - 1)).en && (y.x.f 1 (1 - 1)).xs.isEmpty)) ∧ wr.drewN n = w') := fun n => WOver (HI.out.drewN (Star.framed (WorldT.framed ..) (DSys.framed ..)) n).fst HA.out.2 (k := 1) (s := 1) (p := u) (z := 1) (by omega) (by omega) rfl rfl
          have POc : Hid (∀ n, Calls Tryd.prog 22 #[.pointer (some ⟨c', 0, none⟩), .int .i64 1] (wr.drewN n) fun e w' => e = .returned (.bool ((y.x.f 0 (1 - 1)).en && (y.x.f 0 (1 - 1)).xs.isEmpty)) ∧ wr.drewN n = w') := fun n => WOver (HI.out.drewN (Star.framed (WorldT.framed ..) (DSys.framed ..)) n).fst HA.out.2 (k := 0) (s := 1) (p := c') (z := 1) (by omega) (by omega) rfl rfl
          have PDu : Hid (∀ n, Calls Tryd.prog 23 #[.pointer (some ⟨u2, 0, none⟩), .int .i64 1] (wr.drewN n) fun e w' => e = .returned (.bool ((y.x.f 1 (1 - 1)).en && (y.x.f 1 (1 - 1)).xs.isEmpty)) ∧ wr.drewN n = w') := fun n => pair_over (HI.out.drewN (Star.framed (WorldT.framed ..) (DSys.framed ..)) n) (k := 1) (s := 1) (p := u2) (z := 1) (by omega) (by omega) rfl rfl
          have PDc : Hid (∀ n, Calls Tryd.prog 23 #[.pointer (some ⟨c2, 0, none⟩), .int .i64 1] (wr.drewN n) fun e w' => e = .returned (.bool ((y.x.f 0 (1 - 1)).en && (y.x.f 0 (1 - 1)).xs.isEmpty)) ∧ wr.drewN n = w') := fun n => pair_over (HI.out.drewN (Star.framed (WorldT.framed ..) (DSys.framed ..)) n) (k := 0) (s := 1) (p := c2) (z := 1) (by omega) (by omega) rfl rfl
          obtain ⟨qa, Aa, ca, x1, x2⟩ := pair_queue HI.out (k := 1) (s := 1) (p := u2) (by omega) (by omega) rfl
          obtain ⟨qb, Ab, cb, z1, z2⟩ := pair_queue HI.out (k := 0) (s := 1) (p := c2) (by omega) (by omega) rfl
          generalize ((y.x.f 1 (1 - 1)).en && (y.x.f 1 (1 - 1)).xs.isEmpty) = o1 at *
          generalize ((y.x.f 0 (1 - 1)).en && (y.x.f 0 (1 - 1)).xs.isEmpty) = o0 at *
          generalize (y.x.f 1 (1 - 1)).xs.length = n1 at *
          generalize (y.x.f 0 (1 - 1)).xs.length = n0 at *
          go_wp2_with fail
          go_quiet ((first
            | (go_at_call 21; with_reducible exact quiet_l (PWu.out _))
            | (go_at_call 21; with_reducible exact quiet_l (PWc.out _))
            | (go_at_call 22; with_reducible exact quiet_l (POu.out _))
            | (go_at_call 22; with_reducible exact quiet_l (POc.out _))
            | (go_at_call 23; with_reducible exact quiet_l (PDu.out _))
            | (go_at_call 23; with_reducible exact quiet_l (PDc.out _))))
          go_wp2_with fail
          go_roundw
          case rel => exact ⟨2, .inr (.inr rfl), rfl, HI.out.drewN (Star.framed (WorldT.framed ..) (DSys.framed ..)) _⟩
          case measure => simp [intOf]
        · go_wp2_with fail
          go_ret
          exact ⟨rfl, HI.out.below⟩

theorem acts_true (room : Int) (hr0 : room ≤ 9223372036854775807) (v : Value) (l : List PickV) (w : World) (h : Picks w v l) (ho : Oth w) :
    Calls Tryd.prog 3 #[.int .i64 room, v] w fun e w' => e = .returned (.bool true) ∧ Below w.heap.size w w' := by
  cases hg : isGreat l with
  | true => exact acts_great room v l w h ho hg
  | false => exact acts_small room hr0 v l w h ho hg
end Go.Proofs.YtfmmomdfmmoklaaDoor
