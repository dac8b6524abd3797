/-
  cuecardlaw07.RelayTimes answers true for every room and every list of picks.
  Conditions: the package's table holds what its initialiser lays (Oth).
-/
import Derived.Test.YtfmmomdfmmoklaaDoorWRun
import Derived.Deep.DeepCutAuto
import Derived.Deep.CutBlock
import Derived.Deep.QuietTactic
import Derived.BigQuiet
namespace Go.Proofs.YtfmmomdfmmoklaaDoor
open Go.RowKit

theorem chk_ok : ∀ {l : List PE} {all : Nat}, (∀ a ∈ l, a.dir = 0 ∨ a.dir = 1) → (∀ a ∈ l, a.data.length ≤ 65536) → all + whole l ≤ 262144 → chk all l = 0
  | [], _, _, _, _ => rfl
  | a :: l, all, h1, h2, h3 => by
    rw [whole_cons] at h3
    have d := h1 a (by simp)
    have e := h2 a (by simp)
    unfold chk
    rw [if_neg (by omega), if_neg (by omega)]
    exact chk_ok (fun b hb => h1 b (by simp [hb])) (fun b hb => h2 b (by simp [hb])) (by omega)
theorem Sys.Ok.check {x : Sys} (h : x.Ok) : chkAll x.ev = 0 := by
  have := h.len
  rw [chkAll_not (by omega)]
  exact chk_ok h.dir h.eless (by have := h.all; omega)

set_option maxHeartbeats 4000000 in
set_option maxRecDepth 100000 in
theorem times_great (room : Int) (v : Value) (l : List PickV) (w : World) (h : Picks w v l) (ho : Oth w) (hg : isGreat l = true) :
    Calls Tryd.prog 6 #[.int .i64 room, v] w fun e w' => e = .returned (.bool true) ∧ Below w.heap.size w w' := by
  have HA := Lib.hid (And.intro h ho)
  have HG := Lib.hid hg
  obtain ⟨_, A, c, rfl, -⟩ := h
  clear ho hg
  go_enter Tryd.func6, Tryd.ntmps6
  go_wp2_with fail
  refine (alive_true w HA.out.2).mono ?_
  rintro e w1 ⟨rfl, hb1⟩
  have B1 := Lib.hid hb1
  clear hb1
  go_wp2_with fail
  refine (great_any _ l w1 (HA.out.1.below B1.out)).mono ?_
  rintro e w2 ⟨rfl, hb2⟩
  have B2 : Hid (Below w.heap.size w w2) := B1.out.trans (hb2.mono B1.out.size)
  clear hb2 B1
  rw [HG.out]
  go_wp2_with fail
  refine (alive_true w2 (HA.out.2.below B2.out)).mono ?_
  rintro e w3 ⟨rfl, hb3⟩
  have B3 : Hid (Below w.heap.size w w3) := B2.out.trans (hb3.mono B2.out.size)
  clear hb3 B2
  go_wp2_with fail
  go_ret
  exact ⟨rfl, B3.out⟩

set_option maxHeartbeats 4000000 in
set_option maxRecDepth 100000 in
theorem times_small (room : Int) (hr0 : room ≤ 9223372036854775807) (v : Value) (l : List PickV) (w : World) (h : Picks w v l) (ho : Oth w) (hg : isGreat l = false) :
    Calls Tryd.prog 6 #[.int .i64 room, v] w fun e w' => e = .returned (.bool true) ∧ Below w.heap.size w w' := by
  have HA := Lib.hid (And.intro h ho)
  have HG := Lib.hid hg
  obtain ⟨hm, A, c, rfl, -⟩ := h
  have hl := pick_len hg
  clear ho hg
  obtain ⟨rm, hrm⟩ : ∃ rm : Nat, (rm : Int) = 1 + (max 0 room) % 30 := ⟨(1 + (max 0 room) % 30).toNat, by omega⟩
  have hrm30 : rm ≤ 30 := by omega
  have HRM := Lib.hid hrm
  clear hrm
  go_enter Tryd.func6, Tryd.ntmps6
  go_wp2_with fail
  refine (alive_true w HA.out.2).mono ?_
  rintro e w1 ⟨rfl, hb1⟩
  have B1 := Lib.hid hb1
  clear hb1
  go_wp2_with fail
  refine (great_any _ l w1 (HA.out.1.below B1.out)).mono ?_
  rintro e w2 ⟨rfl, hb2⟩
  have B2 : Hid (Below w.heap.size w w2) := B1.out.trans (hb2.mono B1.out.size)
  clear hb2 B1
  rw [HG.out]
  go_wp2_with fail
  refine (WNew room hr0 w2 rm HRM.out).mono ?_
  intro e w3 hnew
  obtain ⟨b, u, c', r, rfl, h3⟩ := WAt.of_new B2.out hnew
  have H3 := Lib.hid h3
  clear hnew h3 B2
  go_wp2_with fail
  go_loopw [24] (fun i wr => ∃ (k : Nat) (y : Wld), k ≤ l.length ∧ i = .int .i64 k ∧ Hid (WAt (fun _ => False) w wr b u c' r y ∧ y.Good rm k)) (fun i _ => l.length - (intOf i).toNat)
  case atStart => exact ⟨0, _, Nat.zero_le _, rfl, H3.out, Wld.Good.start hrm30⟩
  case round =>
    obtain ⟨k, y, hk, rfl, HS⟩ := hrel
    by_cases hlt : k < l.length
    · obtain ⟨a, ha⟩ : ∃ a, l[k]? = some a := ⟨_, List.getElem?_eq_getElem hlt⟩
      have hza := pick_small HG.out a (List.mem_of_getElem? ha)
      obtain ⟨_, A', c'', e', hpk⟩ := HA.out.1
      injection e' with e1 _ e3
      subst e1 e3
      obtain ⟨bb, o, rfl, hx⟩ := hpk (by omega)
      clear hpk
      have HAT := Lib.hid (hx k a ha)
      have hat := HAT.out.below HS.out.1.below
      have k0 := hat.kind
      have k1 := hat.num
      have k2 := hat.time
      have k3 := hat.list
      clear hat hx ha
      obtain ⟨kd, nm, tm, AA, cc, zs⟩ := a
      simp only at k0 k1 k2 k3 hza
      go_upto_region 9 with (fail)
      obtain ⟨cb, hcb⟩ : ∃ cb, wr.heap.size = cb := ⟨_, rfl⟩
      have hblk := Blk.new wr 37 #[.int .i64 kd, .int .i64 nm, .int .i64 tm, .slice AA zs.length cc]
      have hat5 := (HS.out.1.more (.cells #[.int .i64 kd, .int .i64 nm, .int .i64 tm, .slice AA zs.length cc] 37)).none_
      generalize hW5 : wr.alloc (.cells #[.int .i64 kd, .int .i64 nm, .int .i64 tm, .slice AA zs.length cc] 37) = w5 at *
      rw [hcb] at hblk ⊢
      have j0 : w5.cell? ⟨cb, 0, none⟩ = some (.int .i64 kd) := hblk.cell 0
      have j1 : w5.cell? ⟨cb, 1, none⟩ = some (.int .i64 nm) := hblk.cell 1
      have j2 : w5.cell? ⟨cb, 2, none⟩ = some (.int .i64 tm) := hblk.cell 2
      have j3 : w5.cell? ⟨cb, 3, none⟩ = some (.slice AA zs.length cc) := hblk.cell 3
      have HDo := Lib.hid (Do_at hat5 HA.out.2 HS.out.2.ok (HS.out.2.short (by omega)) kd nm tm HAT.out.rd hza)
      clear hcb hblk hat5 hW5 k0 k1 k2 k3
      go_wp2_with fail
      refine HDo.out.mono ?_
      rintro e w6 ⟨rfl, h6, -⟩
      have H6 := Lib.hid h6
      clear h6
      go_wp2_with fail
      go_roundw
      case rel => exact ⟨k + 1, _, by omega, by go_num, H6.out, HS.out.2.act hrm30 kd nm tm hza HAT.out.byte⟩
      case measure => simp [intOf]; omega
    · obtain rfl : k = l.length := by omega
      have i2 : wr.cell? ⟨b, 2, none⟩ = some (.pointer (some ⟨r, 0, none⟩)) := HS.out.1.blk.cell 2
      go_wp2_with fail
      refine (WTell HS.out.1 HS.out.2.ok).mono ?_
      intro e w7 h7
      obtain ⟨A7, c7, ls, rfl, hev, hpe, hb7⟩ := h7.evs HS.out.2.ok
      have B7 : Hid (Below w.heap.size w w7) := HS.out.1.below.trans (hb7.mono HS.out.1.below.size)
      have HEV := Lib.hid (And.intro hev hpe)
      have hls : ls.length ≤ 4096 := by have := HS.out.2.ok.len; rw [← hpe, pes_len] at this; exact this
      clear h7 hev hpe hb7 i2
      go_upto_region 12 with (fail)
      obtain ⟨tb, htb⟩ : ∃ tb, w7.heap.size = tb := ⟨_, rfl⟩
      generalize hW8 : w7.alloc (.cells #[.slice A7 ls.length c7, .bool (y.x.ov 0)] 56) = w8
      have hbx : Blk w8 tb 56 #[.slice A7 ls.length c7, .bool (y.x.ov 0)] := by rw [← hW8, ← htb]; exact Blk.new w7 _ _
      have B8 : Hid (Below w.heap.size w w8) := by rw [← hW8]; exact B7.out.alloc B7.out.size _
      have HE8 : Hid (Evs w8 (.slice A7 ls.length c7) ls ∧ pes ls = y.x.ev ∧ Blk w8 tb 56 #[.slice A7 ls.length c7, .bool (y.x.ov 0)]) := by refine ⟨?_, HEV.out.2, hbx⟩; rw [← hW8]; exact HEV.out.1.alloc _
      have t0 : w8.cell? ⟨tb, 0, none⟩ = some (.slice A7 ls.length c7) := hbx.cell 0
      rw [htb]
      clear hbx hW8 htb B7 HEV
      go_wp2_with fail
      go_loopw [40] (fun i wi => ∃ j : Nat, j ≤ ls.length ∧ i = .int .i64 j ∧ Hid (Below w8.heap.size w8 wi)) (fun i _ => ls.length - (intOf i).toNat)
      case atStart => exact ⟨0, Nat.zero_le _, rfl, Below.refl _ _⟩
      case round =>
        obtain ⟨j, hj, rfl, HB⟩ := hrel
        by_cases hjl : j < ls.length
        · obtain ⟨b0, o0, d0, t0', Aa, ca, bs, rfl, ha, c0, c1, c2, hbm, hok⟩ := HE8.out.1.seeAt HB.out hjl
          have hae : y.x.ev[j]? = some ⟨d0, t0', bs⟩ := by rw [← HE8.out.2.1]; exact pes_at ha
          have hbs : ((bs.length : Int) == 0) = false := by
            have := HS.out.2.ok.esome _ (List.mem_of_getElem? hae)
            have h1 : 0 < bs.length := List.length_pos_iff.2 this
            simp; omega
          have hT := HE8.out.2.2.below HB.out HE8.out.2.2.lt
          have B9 : Hid (Below w8.heap.size w8 (wr.alloc (.cells #[.int .i64 d0, .int .i64 t0', .slice Aa bs.length ca] 69))) := HB.out.alloc HB.out.size _
          clear ha hok hbm
          rcases Nat.eq_zero_or_pos j with rfl | hjp
          · clear hae
            simp only [Nat.zero_mul, Nat.add_zero] at c0 c1 c2
            go_upto_region 15 with (fail)
            generalize hW9 : wr.alloc (.cells #[.int .i64 d0, .int .i64 t0', .slice Aa bs.length ca] 69) = w9 at *
            have hbx : Blk w9 wr.heap.size 69 #[.int .i64 d0, .int .i64 t0', .slice Aa bs.length ca] := by rw [← hW9]; exact Blk.new wr _ _
            obtain ⟨eb, heb⟩ : ∃ eb, wr.heap.size = eb := ⟨_, rfl⟩
            rw [heb] at hbx ⊢
            have x2 : w9.cell? ⟨eb, 2, none⟩ = some (.slice Aa bs.length ca) := hbx.cell 2
            clear hbx heb hW9 hT t0
            go_quiet (fail)
            go_wp2_with fail
            go_roundw
            case rel => exact ⟨1, by omega, by go_num, belowN B9.out _⟩
            case measure => simp [intOf]; omega
          · obtain ⟨i, rfl⟩ : ∃ i, j = i + 1 := ⟨j - 1, by omega⟩
            obtain ⟨b1, o1, d1, t1', Ab, cb', bs', e1', ha', p0, p1, p2, -, -⟩ := HE8.out.1.seeAt HB.out (show i < ls.length by omega)
            injection e1' with e1'
            injection e1' with e1 e2
            subst e1 e2
            have hae' : y.x.ev[i]? = some ⟨d1, t1', bs'⟩ := by rw [← HE8.out.2.1]; exact pes_at ha'
            have hle : t1' ≤ t0' := risB_ris.1 HS.out.2.ok.ris i (i + 1) _ _ (by omega) hae' hae
            have hlt' : decide (t0' < t1') = false := by simp; omega
            have hi1 : ((i + 1 : Nat) : Int) - 1 = (i : Int) := by omega
            clear hae hae' ha' hle p0 p2
            go_upto_region 15 with (fail)
            have p1' := ((Below.refl wr.heap.size wr).alloc (Nat.le_refl _) (.cells #[.int .i64 d0, .int .i64 t0', .slice Aa bs.length ca] 69)).cell (p := ⟨b0, o0 + i * 3 + 1, none⟩) (World.block_lt_of_cell? wr _ p1) |>.trans p1
            have q0' := (hT.alloc (.cells #[.int .i64 d0, .int .i64 t0', .slice Aa bs.length ca] 69)).cell 0
            generalize hW9 : wr.alloc (.cells #[.int .i64 d0, .int .i64 t0', .slice Aa bs.length ca] 69) = w9 at *
            have hbx : Blk w9 wr.heap.size 69 #[.int .i64 d0, .int .i64 t0', .slice Aa bs.length ca] := by rw [← hW9]; exact Blk.new wr _ _
            obtain ⟨eb, heb⟩ : ∃ eb, wr.heap.size = eb := ⟨_, rfl⟩
            rw [heb] at hbx ⊢
            have x1 : w9.cell? ⟨eb, 1, none⟩ = some (.int .i64 t0') := hbx.cell 1
            have x2 : w9.cell? ⟨eb, 2, none⟩ = some (.slice Aa bs.length ca) := hbx.cell 2
            have q0 : w9.cell? ⟨tb, 0, none⟩ = some (.slice (some ⟨b0, o0, none⟩) ls.length c7) := q0'
            clear hbx heb hW9 hT t0 q0' c0 c1 c2 p1
            go_quiet (fail)
            go_wp2_with fail
            go_roundw
            case rel => exact ⟨i + 2, by omega, by go_num, belowN B9.out _⟩
            case measure => simp [intOf]; omega
        · obtain rfl : j = ls.length := by omega
          have t1 : wr.cell? ⟨tb, 0, none⟩ = some (.slice A7 ls.length c7) := (HE8.out.2.2.below HB.out HE8.out.2.2.lt).cell 0
          go_wp2_with fail
          refine (RCheck_any _ ls wr (HE8.out.1.below HB.out)).mono ?_
          rintro e w9 ⟨rfl, rfl⟩
          rw [HE8.out.2.1, HS.out.2.ok.check]
          have B9 : Hid (Below w.heap.size w wr) := B8.out.trans (HB.out.mono B8.out.size)
          go_wp2_with fail
          go_ret
          exact ⟨rfl, B9.out⟩

theorem times_true (room : Int) (hr0 : room ≤ 9223372036854775807) (v : Value) (l : List PickV) (w : World) (h : Picks w v l) (ho : Oth w) :
    Calls Tryd.prog 6 #[.int .i64 room, v] w fun e w' => e = .returned (.bool true) ∧ Below w.heap.size w w' := by
  cases hg : isGreat l with
  | true => exact times_great room v l w h ho hg
  | false => exact times_small room hr0 v l w h ho hg
end Go.Proofs.YtfmmomdfmmoklaaDoor
