/-
  cuecardlaw07.RelayOwn answers true for every room and every list of picks.
  Conditions: the package's table holds what its initialiser lays (Oth).
-/
import Derived.Test.YtfmmomdfmmoklaaDoorRTwo
import Derived.Test.YtfmmomdfmmoklaaDoorUptoLast
import Derived.ChangeKeysEq
import Derived.Laws.StructEq
import Derived.Deep.DeepCutAuto
import Derived.Deep.CutBlock
import Derived.Deep.QuietTactic
import Derived.BigQuiet
namespace Go.Proofs.YtfmmomdfmmoklaaDoor
open Go.RowKit

/-- The same pick in both worlds. -/
theorem two_do {N : Nat → Prop} {w0 w : World} {b1 u1 c1 r1 b2 u2 c2 r2 : Nat} {y : Wld} (h : Has (Star (WorldT b1 u1 c1 r1 y) (WorldT b2 u2 c2 r2 y)) N w0 w) (hN : N (w.heap.size - 1)) (hp : 0 < w.heap.size) (ho : Oth w0) (hx : y.x.Ok) (hs : y.Short) (kind n t : Int) {A : Option Addr} {k : Nat} {zs : List Nat} (hr : Rd w0 (.slice A zs.length k) (bv zs)) (hl : zs.length ≤ 100) :
    Calls Tryd.prog 15 #[.pointer (some ⟨b1, 0, none⟩), .agg #[.int .i64 kind, .int .i64 n, .int .i64 t, .slice A zs.length k]] w fun e w1 => e = .returned (.bool (y.act kind n t zs).1) ∧ Stay N w w1 ∧
      Calls Tryd.prog 15 #[.pointer (some ⟨b2, 0, none⟩), .agg #[.int .i64 kind, .int .i64 n, .int .i64 t, .slice A zs.length k]] w1 fun e w2 => e = .returned (.bool (y.act kind n t zs).1) ∧ Has (Star (WorldT b1 u1 c1 r1 (y.act kind n t zs).2) (WorldT b2 u2 c2 r2 (y.act kind n t zs).2)) N w0 w2 ∧ Stay N w w2 := by
  obtain ⟨N1, h1, hN1, k1⟩ := two_calls h (WorldT.framed ..) (WorldT.framed ..) hN hp
  refine (Do_at h1 ho hx hs kind n t hr hl).mono ?_
  rintro e w1 ⟨rfl, h2, s2⟩
  obtain ⟨N2, h3, hN2, -, k2⟩ := k1 _ w1 h2 s2 (WorldT.framed ..)
  refine ⟨rfl, fun i hi => s2 i (hN1 i hi), (Do_at h3 ho hx hs kind n t hr hl).mono ?_⟩
  rintro e w2 ⟨rfl, h4, s4⟩
  obtain ⟨h5, h6⟩ := k2 _ w2 h4 s4
  exact ⟨rfl, h5, h6⟩

/-- Two pairs of strings, the same. -/
theorem str_info : (Tryd.prog.info? 9).map (fun i => (i.zero, i.size, i.bytes)) = some (some (.string ⟨#[]⟩), 1, 16) := by kernel_rfl
theorem str_cells : Tryd.prog.cellsOf 9 = 1 := by kernel_rfl
theorem run_two_eq (a b : ByteArray) (W : World) : (binOp .eql 51 (.agg #[.string a, .string b]) (.agg #[.string a, .string b])).run Tryd.prog W = .ok (.bool true) W := by
  obtain ⟨i0, hi0, hz0, hz1, hz2⟩ := info_parts str_info
  rw [run_eql_struct, show (10000 : Nat) = 9999 + 1 from rfl, run_equalIn_array W 9999 _ _ Tryd.underlying51 hi0, str_cells]
  have hk : Tryd.prog.plainKey 9 = true := by kernel_rfl
  have p0 : (part 9 #[.string a, .string b] 0).run Tryd.prog W = .ok (.string a) W := run_part_plain (w := W) hk rfl
  have p1 : (part 9 #[.string a, .string b] 1).run Tryd.prog W = .ok (.string b) W := run_part_plain (w := W) hk rfl
  have he : ∀ (x : ByteArray), (Op.equalIn 9999 9 (.string x) (.string x)).run Tryd.prog W = .ok true W := fun x => by
    rw [show (9999 : Nat) = 9998 + 1 from rfl, run_equalIn_string W 9998 9 x x Tryd.underlying9]
    simp
  simp [Op.eqItems, show List.range 2 = [0, 1] from rfl, p0, p1, he]

/-- One of two things. -/
theorem Has.fst {P Q : Thing} {N : Nat → Prop} {w0 w : World} (h : Has (Star P Q) N w0 w) : Has P N w0 w := by
  obtain ⟨F, h⟩ := h
  obtain ⟨A, B, hs⟩ := h.it
  exact ⟨A, hs.fst, fun b hb => h.new b ((hs.un b).2 (.inl hb)), fun b hb => ⟨fun ha => (h.np b hb).1 ((hs.un b).2 (.inl ha)), (h.np b hb).2⟩, h.below⟩
theorem Has.snd {P Q : Thing} {N : Nat → Prop} {w0 w : World} (h : Has (Star P Q) N w0 w) : Has Q N w0 w := by
  obtain ⟨F, h⟩ := h
  obtain ⟨A, B, hs⟩ := h.it
  exact ⟨B, hs.snd, fun b hb => h.new b ((hs.un b).2 (.inr hb)), fun b hb => ⟨fun ha => (h.np b hb).1 ((hs.un b).2 (.inr ha)), (h.np b hb).2⟩, h.below⟩

set_option maxHeartbeats 4000000 in
set_option maxRecDepth 100000 in
theorem own_great (room : Int) (v : Value) (l : List PickV) (w : World) (h : Picks w v l) (ho : Oth w) (hg : isGreat l = true) :
    Calls Tryd.prog 8 #[.int .i64 room, v] w fun e w' => e = .returned (.bool true) ∧ Below w.heap.size w w' := by
  have HA := Lib.hid (And.intro h ho)
  have HG := Lib.hid hg
  obtain ⟨_, A, c, rfl, -⟩ := h
  clear ho hg
  go_enter Tryd.func8, Tryd.ntmps8
  go_wp2_with fail
  refine (alive_true w HA.out.2).mono ?_
  rintro e w1 ⟨rfl, hb1⟩
  have B1 := Lib.hid hb1
  clear hb1
  go_wp2_with fail
  refine (great_any _ l w1 (HA.out.1.below B1.out)).mono ?_
  rintro e w2 ⟨rfl, hb2⟩
  have B2 : Hid (Below w.heap.size w w2) := B1.out.trans (hb2.mono B1.out.size)
  clear hb2 B1
  rw [HG.out]
  go_wp2_with fail
  refine (alive_true w2 (HA.out.2.below B2.out)).mono ?_
  rintro e w3 ⟨rfl, hb3⟩
  have B3 : Hid (Below w.heap.size w w3) := B2.out.trans (hb3.mono B2.out.size)
  clear hb3 B2
  go_wp2_with fail
  go_ret
  exact ⟨rfl, B3.out⟩

set_option maxHeartbeats 4000000 in
set_option maxRecDepth 100000 in
theorem own_small (room : Int) (hr0 : room ≤ 9223372036854775807) (v : Value) (l : List PickV) (w : World) (h : Picks w v l) (ho : Oth w) (hg : isGreat l = false) :
    Calls Tryd.prog 8 #[.int .i64 room, v] w fun e w' => e = .returned (.bool true) ∧ Below w.heap.size w w' := by
  have HA := Lib.hid (And.intro h ho)
  have HG := Lib.hid hg
  obtain ⟨hm, A, c, rfl, -⟩ := h
  have hl := pick_len hg
  clear ho hg
  obtain ⟨rm, hrm⟩ : ∃ rm : Nat, (rm : Int) = 1 + (max 0 room) % 30 := ⟨(1 + (max 0 room) % 30).toNat, by omega⟩
  have hrm30 : rm ≤ 30 := by omega
  have HRM := Lib.hid hrm
  clear hrm
  go_enter Tryd.func8, Tryd.ntmps8
  go_wp2_with fail
  refine (alive_true w HA.out.2).mono ?_
  rintro e w1 ⟨rfl, hb1⟩
  have B1 := Lib.hid hb1
  clear hb1
  go_wp2_with fail
  refine (great_any _ l w1 (HA.out.1.below B1.out)).mono ?_
  rintro e w2 ⟨rfl, hb2⟩
  have B2 : Hid (Below w.heap.size w w2) := B1.out.trans (hb2.mono B1.out.size)
  clear hb2 B1
  rw [HG.out]
  go_wp2_with fail
  refine (WNew room hr0 w2 rm HRM.out).mono ?_
  intro e w3 hnew
  obtain ⟨b1, u1, c1, r1, rfl, h3⟩ := WAt.of_new B2.out hnew
  have H3 := Lib.hid h3
  clear hnew h3 B2
  go_wp2_with fail
  refine (WNew room hr0 w3 rm HRM.out).mono ?_
  intro e w4 hnew
  obtain ⟨b2, u2, c2, r2, rfl, h4, hb4⟩ := hnew
  have H4 : Hid (Has (Star (WorldT b1 u1 c1 r1 (Wld.start rm)) (WorldT b2 u2 c2 r2 (Wld.start rm))) (fun _ => False) w w4) := Has.both H3.out (WorldT.framed ..) h4 (fun i hi => hi.1) hb4
  clear h4 hb4 H3
  go_wp2_with fail
  go_loopw [31] (fun i wr => ∃ (k : Nat) (y : Wld), k ≤ l.length ∧ i = .int .i64 k ∧ Hid (Has (Star (WorldT b1 u1 c1 r1 y) (WorldT b2 u2 c2 r2 y)) (fun _ => False) w wr ∧ y.Good rm k)) (fun i _ => l.length - (intOf i).toNat)
  case atStart => exact ⟨0, _, Nat.zero_le _, rfl, H4.out, Wld.Good.start hrm30⟩
  case round =>
    obtain ⟨k, y, hk, rfl, HS⟩ := hrel
    by_cases hlt : k < l.length
    · obtain ⟨a, ha⟩ : ∃ a, l[k]? = some a := ⟨_, List.getElem?_eq_getElem hlt⟩
      have hza := pick_small HG.out a (List.mem_of_getElem? ha)
      obtain ⟨_, A', c'', e', hpk⟩ := HA.out.1
      injection e' with e1 _ e3
      subst e1 e3
      obtain ⟨bb, o, rfl, hx⟩ := hpk (by omega)
      clear hpk
      have HAT := Lib.hid (hx k a ha)
      have hat := HAT.out.below HS.out.1.below
      have k0 := hat.kind
      have k1 := hat.num
      have k2 := hat.time
      have k3 := hat.list
      clear hat hx ha
      obtain ⟨kd, nm, tm, AA, cc, zs⟩ := a
      simp only at k0 k1 k2 k3 hza
      go_upto_region 9 with (fail)
      obtain ⟨cb, hcb⟩ : ∃ cb, wr.heap.size = cb := ⟨_, rfl⟩
      have hblk := Blk.new wr 37 #[.int .i64 kd, .int .i64 nm, .int .i64 tm, .slice AA zs.length cc]
      have hat5 : Has (Star (WorldT b1 u1 c1 r1 y) (WorldT b2 u2 c2 r2 y)) (fun i => i = cb) w (wr.alloc (.cells #[.int .i64 kd, .int .i64 nm, .int .i64 tm, .slice AA zs.length cc] 37)) := (HS.out.1.more (Star.framed (WorldT.framed ..) (WorldT.framed ..)) _).less (fun i hi => .inr (by rw [hi, hcb]))
      have hsz5 : (wr.alloc (.cells #[.int .i64 kd, .int .i64 nm, .int .i64 tm, .slice AA zs.length cc] 37)).heap.size = cb + 1 := by rw [World.size_alloc, hcb]
      generalize hW5 : wr.alloc (.cells #[.int .i64 kd, .int .i64 nm, .int .i64 tm, .slice AA zs.length cc] 37) = w5 at *
      rw [hcb] at hblk ⊢
      have j0 : w5.cell? ⟨cb, 0, none⟩ = some (.int .i64 kd) := hblk.cell 0
      have j1 : w5.cell? ⟨cb, 1, none⟩ = some (.int .i64 nm) := hblk.cell 1
      have j2 : w5.cell? ⟨cb, 2, none⟩ = some (.int .i64 tm) := hblk.cell 2
      have j3 : w5.cell? ⟨cb, 3, none⟩ = some (.slice AA zs.length cc) := hblk.cell 3
      have HDo := Lib.hid (two_do (w := w5.drew) (hat5.drew (Star.framed (WorldT.framed ..) (WorldT.framed ..))) (show w5.drew.heap.size - 1 = cb from by show w5.heap.size - 1 = cb; omega) (show 0 < w5.drew.heap.size from by show 0 < w5.heap.size; omega) HA.out.2 HS.out.2.ok (HS.out.2.short (by omega)) kd nm tm HAT.out.rd hza)
      have HB5 := Lib.hid hblk
      have hg1 := HS.out.2.act hrm30 kd nm tm hza HAT.out.byte
      have HG1 := Lib.hid hg1
      clear hcb hblk hat5 hW5 k0 k1 k2 k3 hsz5 hg1
      go_cut [41] (fun v wc => v = .bool false ∧ Hid (Has (Star (WorldT b1 u1 c1 r1 (y.act kd nm tm zs).2) (WorldT b2 u2 c2 r2 (y.act kd nm tm zs).2)) (fun _ => False) w wc))
      case first =>
        go_region_with ((first
          | (go_at_call 15; ((with_reducible refine HDo.out.mono ?_); rintro e w6 ⟨rfl, s6, h6⟩; have hb6 := s6.blk rfl HB5.out; have i0 : w6.cell? ⟨cb, 0, none⟩ = some (.int .i64 kd) := hb6.cell 0; have i1 : w6.cell? ⟨cb, 1, none⟩ = some (.int .i64 nm) := hb6.cell 1; have i2 : w6.cell? ⟨cb, 2, none⟩ = some (.int .i64 tm) := hb6.cell 2; have i3 : w6.cell? ⟨cb, 3, none⟩ = some (.slice AA zs.length cc) := hb6.cell 3; have H6 := Lib.hid h6; clear s6 h6 hb6))
          | (go_at_call 15; ((with_reducible refine H6.out.mono ?_); rintro e w7 ⟨rfl, h7, -⟩; have H7 := Lib.hid h7; clear h7))))
        all_goals
          go_wp2_with fail
          go_meet
          case rel => exact ⟨by simp, H7.out.none_⟩
      case rest =>
        obtain ⟨rfl, HC⟩ := hcut
        generalize (y.act kd nm tm zs).2 = y1 at *
        have i2 : wc.cell? ⟨b1, 2, none⟩ = some (.pointer (some ⟨r1, 0, none⟩)) := (WAt.blk HC.out.fst).cell 2
        clear j0 j1 j2 j3 HDo HS
        go_wp2_with fail
        refine (WTell HC.out.fst HG1.out.ok).mono ?_
        rintro e w7 ⟨A7, c7, g7, ls, rfl, hel, -, hb7⟩
        have H7 := Lib.hid (And.intro (HC.out.keep (Star.framed (WorldT.framed ..) (WorldT.framed ..)) hb7) (And.intro hel hb7))
        clear hel hb7 i2
        go_upto_region 12 with (fail)
        obtain ⟨tb, htb⟩ : ∃ tb, w7.heap.size = tb := ⟨_, rfl⟩
        generalize hW8 : w7.alloc (.cells #[.slice A7 ls.length c7, .bool (y1.x.ov 0)] 56) = w8
        have hbx : Blk w8 tb 56 #[.slice A7 ls.length c7, .bool (y1.x.ov 0)] := by rw [← hW8, ← htb]; exact Blk.new w7 _ _
        have hh8 : Has (Star (WorldT b1 u1 c1 r1 y1) (WorldT b2 u2 c2 r2 y1)) (Since wc w8) w w8 := by
          rw [← hW8]; exact HC.out.since (Star.framed (WorldT.framed ..) (WorldT.framed ..)) (H7.out.2.2.alloc H7.out.2.2.size _)
        have hel8 := H7.out.2.1.alloc (.cells #[.slice A7 ls.length c7, .bool (y1.x.ov 0)] 56)
        rw [hW8] at hel8
        have hcw : w.heap.size ≤ wc.heap.size := HC.out.below.size
        have hls := hel8.row.form
        rw [htb]
        have t0 : w8.cell? ⟨tb, 0, none⟩ = some (.slice A7 ls.length c7) := hbx.cell 0
        by_cases hl0 : ls.length = 0
        · have H8 := Lib.hid hh8.none_
          clear hbx hh8 hel8 hW8 htb hls HC H7
          rw [hl0] at t0 ⊢
          clear hl0
          go_wp2_with fail
          go_loopw [50] (fun i wi => i = .int .i64 0 ∧ w8 = wi) (fun _ _ => 0)
          case atStart => exact ⟨rfl, rfl⟩
          case round =>
            obtain ⟨rfl, rfl⟩ := hrel
            go_wp2_with fail
            go_roundw
            case rel => exact ⟨k + 1, y1, by omega, by go_num, H8.out, HG1.out⟩
            case measure => simp [intOf]; omega
        · obtain ⟨b0, o0, rfl, hpk⟩ := PK.of_el hel8 (by omega)
          obtain ⟨n, hn⟩ : ∃ n, ls.length = n := ⟨_, rfl⟩
          obtain ⟨z8, hz8⟩ : ∃ z8, w8.heap.size = z8 := ⟨_, rfl⟩
          have H8 : Hid (Has (Star (WorldT b1 u1 c1 r1 y1) (WorldT b2 u2 c2 r2 y1)) (Since wc w8) w w8 ∧ Blk w8 tb 56 #[.slice (some ⟨b0, o0, none⟩) n c7, .bool (y1.x.ov 0)] ∧ PK wc w8 b0 o0 ls ∧ w8.heap.size = z8) := ⟨hh8, hn ▸ hbx, hpk, hz8⟩
          have hls4 : n ≤ 9223372036854775807 := by
            obtain ⟨_, _, _, _, _, hm2, _⟩ := hel8.row
            obtain ⟨_, _, e, hle⟩ := hls
            injection e with _ e2 e3
            simp only [maxLen] at hm2; omega
          have HN := Lib.hid (And.intro hn (And.intro (fun a ha => (hel8.ok a ha).max : ∀ a ∈ ls, a.data.length ≤ 9223372036854775807) (And.intro hcw hz8)))
          rw [hn] at t0 ⊢
          clear hbx hh8 hel8 hW8 htb hls HC H7 hpk hl0 hn hz8
          go_wp2_with fail
          go_loopw [50] (fun i wi => ∃ j : Nat, j ≤ n ∧ i = .int .i64 j ∧ Hid (Has (Star (WorldT b1 u1 c1 r1 y1) (WorldT b2 u2 c2 r2 y1)) (Since wc w8) w wi ∧ Blk wi tb 56 #[.slice (some ⟨b0, o0, none⟩) n c7, .bool (y1.x.ov 0)] ∧ PK wc wi b0 o0 ls ∧ wi.heap.size = z8)) (fun i _ => n - (intOf i).toNat)
          case atStart => exact ⟨0, Nat.zero_le _, rfl, H8.out⟩
          case round =>
            obtain ⟨j, hj, rfl, HJ⟩ := hrel
            by_cases hjl : j < n
            · obtain ⟨a, ha⟩ : ∃ a, ls[j]? = some a := ⟨_, List.getElem?_eq_getElem (by have := HN.out.1; omega)⟩
              obtain ⟨p2, -⟩ := HJ.out.2.2.1.at ha
              have q0 : wr.cell? ⟨tb, 0, none⟩ = some (.slice (some ⟨b0, o0, none⟩) n c7) := HJ.out.2.1.cell 0
              obtain ⟨d, tt, Aa, ca, bs⟩ := a
              simp only at p2
              have hbm : bs.length ≤ 9223372036854775807 := HN.out.2.1 _ (List.mem_of_getElem? ha)
              have HAJ := Lib.hid ha
              have HJ0 := Lib.hid HJ.out
              clear ha HJ t0
              go_wp2_with fail
              go_loopw [60] (fun i wi => ∃ m : Nat, m ≤ bs.length ∧ i = .int .i64 m ∧ Hid (Has (Star (WorldT b1 u1 c1 r1 y1) (WorldT b2 u2 c2 r2 y1)) (Since wc w8) w wi ∧ Blk wi tb 56 #[.slice (some ⟨b0, o0, none⟩) n c7, .bool (y1.x.ov 0)] ∧ PK wc wi b0 o0 ls ∧ wi.heap.size = z8)) (fun i _ => bs.length - (intOf i).toNat)
              case atStart => exact ⟨0, Nat.zero_le _, rfl, HJ0.out⟩
              case round =>
                obtain ⟨m, hm3, rfl, HM⟩ := hrel
                obtain ⟨p2', v1, p1⟩ := HM.out.2.2.1.at HAJ.out
                simp only at p2'
                have q0' : wr.cell? ⟨tb, 0, none⟩ = some (.slice (some ⟨b0, o0, none⟩) n c7) := HM.out.2.1.cell 0
                by_cases hml : m < bs.length
                · obtain ⟨b, o, z, e1, hz, hcz⟩ := HM.out.2.2.1.byte HAJ.out (i := m) hml
                  simp only at e1
                  obtain ⟨hP, hge, hlt2, hf, cs1, hcs⟩ := HM.out.2.2.1.poke HAJ.out (b := b) (o := o) (i := m) e1 hml (z := (z + 1) % 256) (Nat.mod_lt _ (by omega))
                  subst e1
                  rw [show (((z + 1) % 256 : Nat) : Int) = ((z : Int) + 1) % 256 by omega] at hP
                  have hne : tb ≠ b := HM.out.2.1.ne_ hcs (by decide)
                  have HZ : Hid (Has (Star (WorldT b1 u1 c1 r1 y1) (WorldT b2 u2 c2 r2 y1)) (Since wc w8) w (wr.setCell ⟨b, o + m, none⟩ (.int .u8 (((z : Int) + 1) % 256))) ∧ Blk (wr.setCell ⟨b, o + m, none⟩ (.int .u8 (((z : Int) + 1) % 256))) tb 56 #[.slice (some ⟨b0, o0, none⟩) n c7, .bool (y1.x.ov 0)] ∧ PK wc (wr.setCell ⟨b, o + m, none⟩ (.int .u8 (((z : Int) + 1) % 256))) b0 o0 ls ∧ (wr.setCell ⟨b, o + m, none⟩ (.int .u8 (((z : Int) + 1) % 256))).heap.size = z8) :=
                    ⟨HM.out.1.store (Star.framed (WorldT.framed ..) (WorldT.framed ..)) (show Since wc w8 b from ⟨hge, by have := HM.out.2.2.2; have := HN.out.2.2.2; omega⟩) (by have := HN.out.2.2.1; omega) _ _, HM.out.2.1.far (p := ⟨b, o + m, none⟩) hne _, hP, by have := HM.out.2.2.2; simpa [World.setCell] using this⟩
                  clear hP hcs hge hlt2 hne
                  go_wp2_with fail
                  go_roundw
                  case rel => exact ⟨m + 1, by omega, by go_num, HZ⟩
                  case measure => simp [intOf]; omega
                · obtain rfl : m = bs.length := by omega
                  obtain ⟨hP, hge, hlt2, hf, cs1, hcs⟩ := HM.out.2.2.1.time j (.int .i64 7)
                  have hne : tb ≠ b0 := HM.out.2.1.ne_ hcs (by decide)
                  have HZ : Hid (Has (Star (WorldT b1 u1 c1 r1 y1) (WorldT b2 u2 c2 r2 y1)) (Since wc w8) w (wr.setCell ⟨b0, o0 + j * 3 + 1, none⟩ (.int .i64 7)) ∧ Blk (wr.setCell ⟨b0, o0 + j * 3 + 1, none⟩ (.int .i64 7)) tb 56 #[.slice (some ⟨b0, o0, none⟩) n c7, .bool (y1.x.ov 0)] ∧ PK wc (wr.setCell ⟨b0, o0 + j * 3 + 1, none⟩ (.int .i64 7)) b0 o0 ls ∧ (wr.setCell ⟨b0, o0 + j * 3 + 1, none⟩ (.int .i64 7)).heap.size = z8) :=
                    ⟨HM.out.1.store (Star.framed (WorldT.framed ..) (WorldT.framed ..)) (show Since wc w8 b0 from ⟨hge, by have := HM.out.2.2.2; have := HN.out.2.2.2; omega⟩) (by have := HN.out.2.2.1; omega) _ _, HM.out.2.1.far (p := ⟨b0, o0 + j * 3 + 1, none⟩) hne _, hP, by have := HM.out.2.2.2; simpa [World.setCell] using this⟩
                  clear hP hcs hge hlt2 hne
                  go_wp2_with fail
                  go_roundw
                  case rel => exact ⟨j + 1, by omega, by go_num, HZ⟩
                  case measure => simp [intOf]; omega
            · obtain rfl : j = n := by omega
              have HE := Lib.hid HJ.out.1.none_
              clear HJ t0
              go_wp2_with fail
              go_roundw
              case rel => exact ⟨k + 1, y1, by omega, by go_num, HE.out, HG1.out⟩
              case measure => simp [intOf]; omega
    · obtain rfl : k = l.length := by omega
      have g1 := HS.out.1.fst
      have g2 := HS.out.1.snd
      have i1 : wr.cell? ⟨b1, 2, none⟩ = some (.pointer (some ⟨r1, 0, none⟩)) := (WAt.blk g1).cell 2
      have i2 : wr.cell? ⟨b2, 2, none⟩ = some (.pointer (some ⟨r2, 0, none⟩)) := (WAt.blk g2).cell 2
      have i3 : wr.cell? ⟨b1, 5, none⟩ = some (.string (str (y.rd 0))) := (WAt.blk g1).cell 5
      have i4 : wr.cell? ⟨b1, 6, none⟩ = some (.string (str (y.rd 1))) := (WAt.blk g1).cell 6
      have i5 : wr.cell? ⟨b2, 5, none⟩ = some (.string (str (y.rd 0))) := (WAt.blk g2).cell 5
      have i6 : wr.cell? ⟨b2, 6, none⟩ = some (.string (str (y.rd 1))) := (WAt.blk g2).cell 6
      have heq := run_two_eq (str (y.rd 0)) (str (y.rd 1))
      have HW := Lib.hid (Has.drew HS.out.1 (Star.framed (WorldT.framed ..) (WorldT.framed ..)))
      clear g1 g2
      go_wp2_with fail
      refine wp_region_noPanic ?_
      refine wp_region_upto (fun V => V.cell? ⟨b1, 2, none⟩ = some (.pointer (some ⟨r1, 0, none⟩)) ∧ V.cell? ⟨b2, 2, none⟩ = some (.pointer (some ⟨r2, 0, none⟩)) ∧ V.cell? ⟨b1, 5, none⟩ = some (.string (str (y.rd 0))) ∧ V.cell? ⟨b1, 6, none⟩ = some (.string (str (y.rd 1))) ∧ V.cell? ⟨b2, 5, none⟩ = some (.string (str (y.rd 0))) ∧ V.cell? ⟨b2, 6, none⟩ = some (.string (str (y.rd 1)))) 24 (by kernel_rfl) ?_ (fun hHeld => ?_)
      · exact ⟨i1, i2, i3, i4, i5, i6⟩
      refine wpUpto.take 0 (by kernel_rfl) (by kernel_rfl) (by kernel_rfl) (by kernel_rfl) (by assumption) ?_
      intro o ho
      simp only [List.getElem?_toArray, List.getElem?_cons_zero, Option.some.injEq] at ho
      subst ho
      refine ⟨?_, fun _ _ _ h => h, Or.inl ⟨by rfl, ?_⟩, ?_⟩
      rotate_left
      · intro w hSw
        go_simp
        try with_reducible rfl
      simp only [Act.put, List.setIfInBounds_toArray, List.set_cons_zero, List.set_cons_succ]
      refine wpUpto.take 1 (by kernel_rfl) (by kernel_rfl) (by kernel_rfl) (by kernel_rfl) (by assumption) ?_
      intro o ho
      simp only [List.getElem?_toArray, List.getElem?_cons_succ, List.getElem?_cons_zero, Option.some.injEq] at ho
      subst ho
      refine ⟨?_, fun _ _ _ h => h, Or.inl ⟨by rfl, ?_⟩, ?_⟩
      rotate_left
      · intro w hSw
        go_simp
        try with_reducible rfl
      simp only [Act.put, List.setIfInBounds_toArray, List.set_cons_zero, List.set_cons_succ]
      refine wpUpto.take 2 (by kernel_rfl) (by kernel_rfl) (by kernel_rfl) (by kernel_rfl) (by assumption) ?_
      intro o ho
      simp only [List.getElem?_toArray, List.getElem?_cons_succ, List.getElem?_cons_zero, Option.some.injEq] at ho
      subst ho
      refine ⟨?_, fun _ _ _ h => h, Or.inl ⟨by rfl, ?_⟩, ?_⟩
      rotate_left
      · intro w hSw
        go_simp
        try with_reducible rfl
      simp only [Act.put, List.setIfInBounds_toArray, List.set_cons_zero, List.set_cons_succ]
      refine wpUpto.take 3 (by kernel_rfl) (by kernel_rfl) (by kernel_rfl) (by kernel_rfl) (by assumption) ?_
      intro o ho
      simp only [List.getElem?_toArray, List.getElem?_cons_succ, List.getElem?_cons_zero, Option.some.injEq] at ho
      subst ho
      refine ⟨?_, fun _ _ _ h => h, Or.inl ⟨by rfl, ?_⟩, ?_⟩
      rotate_left
      · intro w hSw
        go_simp
        try with_reducible rfl
      simp only [Act.put, List.setIfInBounds_toArray, List.set_cons_zero, List.set_cons_succ]
      refine wpUpto.take 6 (by kernel_rfl) (by kernel_rfl) (by kernel_rfl) (by kernel_rfl) (by assumption) ?_
      intro o ho
      simp only [List.getElem?_toArray, List.getElem?_cons_succ, List.getElem?_cons_zero, Option.some.injEq] at ho
      subst ho
      refine ⟨?_, fun _ _ _ h => h, Or.inl ⟨by rfl, ?_⟩, ?_⟩
      rotate_left
      · intro w hSw
        go_simp
        try with_reducible rfl
      simp only [Act.put, List.setIfInBounds_toArray, List.set_cons_zero, List.set_cons_succ]
      refine wpUpto.take 7 (by kernel_rfl) (by kernel_rfl) (by kernel_rfl) (by kernel_rfl) (by assumption) ?_
      intro o ho
      simp only [List.getElem?_toArray, List.getElem?_cons_succ, List.getElem?_cons_zero, Option.some.injEq] at ho
      subst ho
      refine ⟨?_, fun _ _ _ h => h, Or.inl ⟨by rfl, ?_⟩, ?_⟩
      rotate_left
      · intro w hSw
        go_simp
        try with_reducible rfl
      simp only [Act.put, List.setIfInBounds_toArray, List.set_cons_zero, List.set_cons_succ]
      refine wpUpto.take 8 (by kernel_rfl) (by kernel_rfl) (by kernel_rfl) (by kernel_rfl) (by assumption) ?_
      intro o ho
      simp only [List.getElem?_toArray, List.getElem?_cons_succ, List.getElem?_cons_zero, Option.some.injEq] at ho
      subst ho
      refine ⟨?_, fun _ _ _ h => h, Or.inl ⟨by rfl, ?_⟩, ?_⟩
      rotate_left
      · intro w hSw
        go_simp
        try with_reducible rfl
      simp only [Act.put, List.setIfInBounds_toArray, List.set_cons_zero, List.set_cons_succ]
      refine wpUpto.take 9 (by kernel_rfl) (by kernel_rfl) (by kernel_rfl) (by kernel_rfl) (by assumption) ?_
      intro o ho
      simp only [List.getElem?_toArray, List.getElem?_cons_succ, List.getElem?_cons_zero, Option.some.injEq] at ho
      subst ho
      refine ⟨?_, fun _ _ _ h => h, Or.inl ⟨by rfl, ?_⟩, ?_⟩
      rotate_left
      · intro w hSw
        go_simp
        try with_reducible rfl
      simp only [Act.put, List.setIfInBounds_toArray, List.set_cons_zero, List.set_cons_succ]
      refine wpUpto.one 4 (by kernel_rfl) ?_
      intro o ho K hK
      simp only [List.getElem?_toArray, List.getElem?_cons_succ, List.getElem?_cons_zero, Option.some.injEq] at ho
      subst ho
      go_simp
      go_at_call 19
      refine (WTell HW.out.fst HS.out.2.ok).mono ?_
      intro e w7 h7
      obtain ⟨A7, c7, l7, rfl, hev7, hpe7, hb7⟩ := h7.evs HS.out.2.ok
      have h8 := HW.out.keep (Star.framed (WorldT.framed ..) (WorldT.framed ..)) hb7
      have m1 : w7.cell? ⟨b1, 2, none⟩ = some (.pointer (some ⟨r1, 0, none⟩)) := (WAt.blk h8.fst).cell 2
      have m2 : w7.cell? ⟨b2, 2, none⟩ = some (.pointer (some ⟨r2, 0, none⟩)) := (WAt.blk h8.snd).cell 2
      have m3 : w7.cell? ⟨b1, 5, none⟩ = some (.string (str (y.rd 0))) := (WAt.blk h8.fst).cell 5
      have m4 : w7.cell? ⟨b1, 6, none⟩ = some (.string (str (y.rd 1))) := (WAt.blk h8.fst).cell 6
      have m5 : w7.cell? ⟨b2, 5, none⟩ = some (.string (str (y.rd 0))) := (WAt.blk h8.snd).cell 5
      have m6 : w7.cell? ⟨b2, 6, none⟩ = some (.string (str (y.rd 1))) := (WAt.blk h8.snd).cell 6
      have hfd7 := run_events A7 l7.length c7 (y.x.ov 0)
      have H7 := Lib.hid (And.intro h8 (And.intro hev7 hpe7))
      clear h7 hev7 hpe7 hb7 h8
      refine hK.out _ _ ?_ (fun hHeld => ?_)
      · exact ⟨m1, m2, m3, m4, m5, m6⟩
      clear hK K
      try simp only [Act.put, List.setIfInBounds_toArray, List.set_cons_zero, List.set_cons_succ]
      refine wpUpto.take 5 (by kernel_rfl) (by kernel_rfl) (by kernel_rfl) (by kernel_rfl) (by assumption) ?_
      intro o ho
      simp only [List.getElem?_toArray, List.getElem?_cons_succ, List.getElem?_cons_zero, Option.some.injEq] at ho
      subst ho
      refine ⟨?_, fun _ _ _ h => h, Or.inl ⟨by rfl, ?_⟩, ?_⟩
      rotate_left
      · intro w hSw
        go_simp
        try with_reducible rfl
      simp only [Act.put, List.setIfInBounds_toArray, List.set_cons_zero, List.set_cons_succ]
      refine wpUpto.one 10 (by kernel_rfl) ?_
      intro o ho K hK
      simp only [List.getElem?_toArray, List.getElem?_cons_succ, List.getElem?_cons_zero, Option.some.injEq] at ho
      subst ho
      go_simp
      go_at_call 19
      refine (WTell H7.out.1.snd HS.out.2.ok).mono ?_
      intro e w8 h9
      obtain ⟨A8, c8, l8, rfl, hev8, hpe8, hb8⟩ := h9.evs HS.out.2.ok
      have h8 := H7.out.1.keep (Star.framed (WorldT.framed ..) (WorldT.framed ..)) hb8
      have n1 : w8.cell? ⟨b1, 2, none⟩ = some (.pointer (some ⟨r1, 0, none⟩)) := (WAt.blk h8.fst).cell 2
      have n2 : w8.cell? ⟨b2, 2, none⟩ = some (.pointer (some ⟨r2, 0, none⟩)) := (WAt.blk h8.snd).cell 2
      have n3 : w8.cell? ⟨b1, 5, none⟩ = some (.string (str (y.rd 0))) := (WAt.blk h8.fst).cell 5
      have n4 : w8.cell? ⟨b1, 6, none⟩ = some (.string (str (y.rd 1))) := (WAt.blk h8.fst).cell 6
      have n5 : w8.cell? ⟨b2, 5, none⟩ = some (.string (str (y.rd 0))) := (WAt.blk h8.snd).cell 5
      have n6 : w8.cell? ⟨b2, 6, none⟩ = some (.string (str (y.rd 1))) := (WAt.blk h8.snd).cell 6
      have hfd8 := run_events A8 l8.length c8 (y.x.ov 0)
      have H8 := Lib.hid (And.intro h8 (And.intro (H7.out.2.1.below hb8) (And.intro hev8 hpe8)))
      clear h9 hev8 hpe8 hb8 h8
      refine hK.out _ _ ?_ (fun hHeld => ?_)
      · exact ⟨n1, n2, n3, n4, n5, n6⟩
      clear hK K
      try simp only [Act.put, List.setIfInBounds_toArray, List.set_cons_zero, List.set_cons_succ]
      refine wpUpto.take 11 (by kernel_rfl) (by kernel_rfl) (by kernel_rfl) (by kernel_rfl) (by assumption) ?_
      intro o ho
      simp only [List.getElem?_toArray, List.getElem?_cons_succ, List.getElem?_cons_zero, Option.some.injEq] at ho
      subst ho
      refine ⟨?_, fun _ _ _ h => h, Or.inl ⟨by rfl, ?_⟩, ?_⟩
      rotate_left
      · intro w hSw
        go_simp
        try with_reducible rfl
      simp only [Act.put, List.setIfInBounds_toArray, List.set_cons_zero, List.set_cons_succ]
      refine wpUpto.one 12 (by kernel_rfl) ?_
      intro o ho K hK
      simp only [List.getElem?_toArray, List.getElem?_cons_succ, List.getElem?_cons_zero, Option.some.injEq] at ho
      subst ho
      go_simp
      go_at_call 20
      refine (RSame_any _ _ l7 l8 w8 H8.out.2.1 H8.out.2.2.1).mono ?_
      rintro e w9 ⟨rfl, hb9⟩
      have hdd : decide (pes l7 = pes l8) = true := by simp [H7.out.2.2, H8.out.2.2.2]
      rw [hdd]
      have h8 := H8.out.1.keep (Star.framed (WorldT.framed ..) (WorldT.framed ..)) hb9
      have o1 : w9.cell? ⟨b1, 2, none⟩ = some (.pointer (some ⟨r1, 0, none⟩)) := (WAt.blk h8.fst).cell 2
      have o2 : w9.cell? ⟨b2, 2, none⟩ = some (.pointer (some ⟨r2, 0, none⟩)) := (WAt.blk h8.snd).cell 2
      have o3 : w9.cell? ⟨b1, 5, none⟩ = some (.string (str (y.rd 0))) := (WAt.blk h8.fst).cell 5
      have o4 : w9.cell? ⟨b1, 6, none⟩ = some (.string (str (y.rd 1))) := (WAt.blk h8.fst).cell 6
      have o5 : w9.cell? ⟨b2, 5, none⟩ = some (.string (str (y.rd 0))) := (WAt.blk h8.snd).cell 5
      have o6 : w9.cell? ⟨b2, 6, none⟩ = some (.string (str (y.rd 1))) := (WAt.blk h8.snd).cell 6
      have HB9 := Lib.hid h8.below
      clear hb9 h8 hdd
      refine hK.out _ _ ?_ (fun hHeld => ?_)
      · exact ⟨o1, o2, o3, o4, o5, o6⟩
      clear hK K
      try simp only [Act.put, List.setIfInBounds_toArray, List.set_cons_zero, List.set_cons_succ]
      refine wpUpto.take 13 (by kernel_rfl) (by kernel_rfl) (by kernel_rfl) (by kernel_rfl) (by assumption) ?_
      intro o ho
      simp only [List.getElem?_toArray, List.getElem?_cons_succ, List.getElem?_cons_zero, Option.some.injEq] at ho
      subst ho
      refine ⟨?_, fun _ _ _ h => h, Or.inl ⟨by rfl, ?_⟩, ?_⟩
      rotate_left
      · intro w hSw
        go_simp
        try with_reducible rfl
      simp only [Act.put, List.setIfInBounds_toArray, List.set_cons_zero, List.set_cons_succ]
      refine wpUpto.take 14 (by kernel_rfl) (by kernel_rfl) (by kernel_rfl) (by kernel_rfl) (by assumption) ?_
      intro o ho
      simp only [List.getElem?_toArray, List.getElem?_cons_succ, List.getElem?_cons_zero, Option.some.injEq] at ho
      subst ho
      refine ⟨?_, fun _ _ _ h => h, Or.inl ⟨by rfl, ?_⟩, ?_⟩
      rotate_left
      · intro w hSw
        go_simp
        try with_reducible rfl
      simp only [Act.put, List.setIfInBounds_toArray, List.set_cons_zero, List.set_cons_succ]
      refine wpUpto.take 15 (by kernel_rfl) (by kernel_rfl) (by kernel_rfl) (by kernel_rfl) (by assumption) ?_
      intro o ho
      simp only [List.getElem?_toArray, List.getElem?_cons_succ, List.getElem?_cons_zero, Option.some.injEq] at ho
      subst ho
      refine ⟨?_, fun _ _ _ h => h, Or.inl ⟨by rfl, ?_⟩, ?_⟩
      rotate_left
      · intro w hSw
        go_simp
        try with_reducible rfl
      simp only [Act.put, List.setIfInBounds_toArray, List.set_cons_zero, List.set_cons_succ]
      refine wpUpto.take 16 (by kernel_rfl) (by kernel_rfl) (by kernel_rfl) (by kernel_rfl) (by assumption) ?_
      intro o ho
      simp only [List.getElem?_toArray, List.getElem?_cons_succ, List.getElem?_cons_zero, Option.some.injEq] at ho
      subst ho
      refine ⟨?_, fun _ _ _ h => h, Or.inl ⟨by rfl, ?_⟩, ?_⟩
      rotate_left
      · intro w hSw
        go_simp
        try with_reducible rfl
      simp only [Act.put, List.setIfInBounds_toArray, List.set_cons_zero, List.set_cons_succ]
      refine wpUpto.take 17 (by kernel_rfl) (by kernel_rfl) (by kernel_rfl) (by kernel_rfl) (by assumption) ?_
      intro o ho
      simp only [List.getElem?_toArray, List.getElem?_cons_succ, List.getElem?_cons_zero, Option.some.injEq] at ho
      subst ho
      refine ⟨?_, fun _ _ _ h => h, Or.inl ⟨by rfl, ?_⟩, ?_⟩
      rotate_left
      · intro w hSw
        go_simp
        try with_reducible rfl
      simp only [Act.put, List.setIfInBounds_toArray, List.set_cons_zero, List.set_cons_succ]
      refine wpUpto.take 18 (by kernel_rfl) (by kernel_rfl) (by kernel_rfl) (by kernel_rfl) (by assumption) ?_
      intro o ho
      simp only [List.getElem?_toArray, List.getElem?_cons_succ, List.getElem?_cons_zero, Option.some.injEq] at ho
      subst ho
      refine ⟨?_, fun _ _ _ h => h, Or.inl ⟨by rfl, ?_⟩, ?_⟩
      rotate_left
      · intro w hSw
        go_simp
        try with_reducible rfl
      simp only [Act.put, List.setIfInBounds_toArray, List.set_cons_zero, List.set_cons_succ]
      refine wpUpto.take 19 (by kernel_rfl) (by kernel_rfl) (by kernel_rfl) (by kernel_rfl) (by assumption) ?_
      intro o ho
      simp only [List.getElem?_toArray, List.getElem?_cons_succ, List.getElem?_cons_zero, Option.some.injEq] at ho
      subst ho
      refine ⟨?_, fun _ _ _ h => h, Or.inl ⟨by rfl, ?_⟩, ?_⟩
      rotate_left
      · intro w hSw
        go_simp
        try with_reducible rfl
      simp only [Act.put, List.setIfInBounds_toArray, List.set_cons_zero, List.set_cons_succ]
      refine wpUpto.take 20 (by kernel_rfl) (by kernel_rfl) (by kernel_rfl) (by kernel_rfl) (by assumption) ?_
      intro o ho
      simp only [List.getElem?_toArray, List.getElem?_cons_succ, List.getElem?_cons_zero, Option.some.injEq] at ho
      subst ho
      refine ⟨?_, fun _ _ _ h => h, Or.inl ⟨by rfl, ?_⟩, ?_⟩
      rotate_left
      · intro w hSw
        go_simp
        try with_reducible rfl
      simp only [Act.put, List.setIfInBounds_toArray, List.set_cons_zero, List.set_cons_succ]
      refine wpUpto.take 21 (by kernel_rfl) (by kernel_rfl) (by kernel_rfl) (by kernel_rfl) (by assumption) ?_
      intro o ho
      simp only [List.getElem?_toArray, List.getElem?_cons_succ, List.getElem?_cons_zero, Option.some.injEq] at ho
      subst ho
      refine ⟨?_, fun _ _ _ h => h, Or.inl ⟨by rfl, ?_⟩, ?_⟩
      rotate_left
      · intro w hSw
        go_simp
        try with_reducible rfl
      simp only [Act.put, List.setIfInBounds_toArray, List.set_cons_zero, List.set_cons_succ]
      refine wpUpto.take 22 (by kernel_rfl) (by kernel_rfl) (by kernel_rfl) (by kernel_rfl) (by assumption) ?_
      intro o ho
      simp only [List.getElem?_toArray, List.getElem?_cons_succ, List.getElem?_cons_zero, Option.some.injEq] at ho
      subst ho
      refine ⟨?_, fun _ _ _ h => h, Or.inl ⟨by rfl, ?_⟩, ?_⟩
      rotate_left
      · intro w hSw
        go_simp
        try with_reducible rfl
      simp only [Act.put, List.setIfInBounds_toArray, List.set_cons_zero, List.set_cons_succ]
      refine wpUpto.take 23 (by kernel_rfl) (by kernel_rfl) (by kernel_rfl) (by kernel_rfl) (by assumption) ?_
      intro o ho
      simp only [List.getElem?_toArray, List.getElem?_cons_succ, List.getElem?_cons_zero, Option.some.injEq] at ho
      subst ho
      refine ⟨?_, fun _ _ _ h => h, Or.inl ⟨by rfl, ?_⟩, ?_⟩
      rotate_left
      · intro w hSw
        go_simp
        try with_reducible rfl
      simp only [Act.put, List.setIfInBounds_toArray, List.set_cons_zero, List.set_cons_succ]
      refine wpUpto.last (by kernel_rfl) ?_
      intro o ho K hK
      simp only [List.getElem?_toArray, List.getElem?_cons_succ, List.getElem?_cons_zero, Option.some.injEq] at ho
      subst ho
      go_simp
      refine hK.out _ _ ?_
      clear hK K
      refine wpUpto.done (by kernel_rfl) ?_ _
      refine NoPanic.normal ?_
      try simp only [Act.put, List.setIfInBounds_toArray, List.set_cons_zero, List.set_cons_succ]
      go_wp2_with fail
      go_ret
      exact ⟨rfl, HB9.out⟩


theorem own_true (room : Int) (hr0 : room ≤ 9223372036854775807) (v : Value) (l : List PickV) (w : World) (h : Picks w v l) (ho : Oth w) :
    Calls Tryd.prog 8 #[.int .i64 room, v] w fun e w' => e = .returned (.bool true) ∧ Below w.heap.size w w' := by
  cases hg : isGreat l with
  | true => exact own_great room v l w h ho hg
  | false => exact own_small room hr0 v l w h ho hg
end Go.Proofs.YtfmmomdfmmoklaaDoor
