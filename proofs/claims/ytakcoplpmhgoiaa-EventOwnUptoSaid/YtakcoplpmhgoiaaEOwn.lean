/-
  cuecardlaw04.EventOwn answers true for all events.
  Conditions: events and bytes together at most 1048576.
-/
import Derived.Test.YtakcoplpmhgoiaaEvPoke
namespace Go.Proofs.Ytakcoplpmhgoiaa
open Go.RowKit

set_option maxRecDepth 100000 in
set_option maxHeartbeats 4000000 in
theorem own_true (v : Value) (L0 : List Ev) (w : World) (h : Evs w v L0) (hw0 : L0.length + whole (pes L0) ≤ 1048576) :
    Calls Try.prog 7 #[v] w fun e w' => e = .returned (.bool true) ∧ Below w.heap.size w w' := by
  obtain ⟨A0, c, rfl, hle⟩ := h.form
  obtain ⟨m, hm1, hm2, hm3⟩ : ∃ m : Nat, m ≤ L0.length ∧ m ≤ 100 ∧ min (L0.length : Int) 100 = (m : Int) := ⟨min L0.length 100, Nat.min_le_left _ _, Nat.min_le_right _ _, by omega⟩
  obtain ⟨A, hsl, hE⟩ := run_firstE h hm1
  have hLl : (L0.take m).length = m := by simp; omega
  have hww : whole (pes (L0.take m)) ≤ whole (pes L0) := by rw [pes_takeL]; exact whole_take (pes L0) m
  generalize L0.take m = L at *
  obtain rfl : L.length = m := hLl
  have hw : L.length + whole (pes L) ≤ 1048576 := by omega
  have HE : Hid (Evs w (.slice A L.length c) L) := Lib.hid hE
  have HD := Lib.hid (data_le hw)
  have HSL := Lib.hid (And.intro hsl hm3)
  clear h hle hE
  go_enter Try.func7, Try.ntmps7
  go_wp2_with fail
  clear hsl hm3
  go_loopw [3, 18] (fun s i wr => ∃ (k : Nat) (B : Option Addr) (dm : Nat) (g : Option Nat) (l : List Ev), k ≤ L.length ∧ i = .int .i64 k ∧ s = .slice B l.length dm ∧ l.length ≤ 100 ∧ Hid (EL (fun _ => False) (fun b => w.heap.size ≤ b) wr g (.slice B l.length dm) l ∧ pes l = (pes L).take k ∧ Below w.heap.size w wr)) (fun _ i _ => L.length - (intOf i).toNat)
  case atStart => exact ⟨0, none, 0, none, [], by omega, rfl, rfl, by simp, EL.nil _ _ _, rfl, Below.refl _ _⟩
  case round =>
    obtain ⟨k, B, dm, g, l, hk, rfl, rfl, hl6, HW⟩ := hrel
    by_cases hlt : k < L.length
    · obtain ⟨b, o, d, t, Aa, ca, bs, rfl, ha, c0, c1, c2, hbm, hok⟩ := HE.out.seeAt HW.out.2.2 hlt
      have HN := Lib.hid (pes_take ha)
      have hbs6 : bs.length ≤ 1048576 := HD.out _ (List.mem_of_getElem? ha)
      have HO := Lib.hid hok
      clear ha hok
      go_upto_region 5 with (fail)
      obtain ⟨W, hW⟩ : ∃ W, wr.alloc (.cells #[.int .i64 d, .int .i64 t, .slice Aa bs.length ca] 25) = W := ⟨_, rfl⟩
      obtain ⟨Be, hBe⟩ : ∃ Be, wr.heap.size = Be := ⟨_, rfl⟩
      have hbx : Blk W Be 25 #[.int .i64 d, .int .i64 t, .slice Aa bs.length ca] := by rw [← hW, ← hBe]; exact Blk.new wr _ _
      have hwW : Below wr.heap.size wr W := by rw [← hW]; exact (Below.refl _ wr).alloc (Nat.le_refl _) _
      have hgB : g ≠ some Be := fun e => by have := HW.out.1.row.lt e; omega
      have hEL := HW.out.1.below hwW
      have hBW : Below w.heap.size w W := HW.out.2.2.trans (hwW.mono HW.out.2.2.size)
      obtain ⟨A5, c5, w5, A7, c7, w7, g7, hrun5, hrun7, hb5, hk7, hb7, hl7⟩ := own_new (n0 := w.heap.size) d t Aa ca bs hEL (HO.out.below hwW).rd HO.out.byte hbs6 (by omega) (fun b hb => Nat.le_trans hBW.size hb) (fun _ h => h) hBW.size
      have b5 := hbx.below hb5 hbx.lt
      have b7 : Blk w7 Be 25 #[.int .i64 d, .int .i64 t, .slice Aa bs.length ca] := hbx.keep (hk7 Be hbx.lt hgB)
      rw [hW, hBe]
      have x0 : W.cell? ⟨Be, 0, none⟩ = some (.int .i64 d) := hbx.cell 0
      have x1 : W.cell? ⟨Be, 1, none⟩ = some (.int .i64 t) := hbx.cell 1
      have x2 : W.cell? ⟨Be, 2, none⟩ = some (.slice Aa bs.length ca) := hbx.cell 2
      have y0 : w5.cell? ⟨Be, 0, none⟩ = some (.int .i64 d) := b5.cell 0
      have y1 : w5.cell? ⟨Be, 1, none⟩ = some (.int .i64 t) := b5.cell 1
      have y2 : w5.cell? ⟨Be, 2, none⟩ = some (.slice Aa bs.length ca) := b5.cell 2
      have z0 : w7.cell? ⟨Be, 0, none⟩ = some (.int .i64 d) := b7.cell 0
      have z1 : w7.cell? ⟨Be, 1, none⟩ = some (.int .i64 t) := b7.cell 1
      have z2 : w7.cell? ⟨Be, 2, none⟩ = some (.slice Aa bs.length ca) := b7.cell 2
      have lW := hbx.lt
      have l5 := b5.lt
      have Y := Lib.hid (And.intro hl7 (hBW.trans hb7))
      clear hW hBe hbx hwW hgB hEL hBW hb5 hk7 hb7 hl7 b5 b7 c0 c1 c2
      go_region_held3 (fun w' => w'.cell? ⟨Be, 0, none⟩ = some (.int .i64 d) ∧ w'.cell? ⟨Be, 1, none⟩ = some (.int .i64 t) ∧ w'.cell? ⟨Be, 2, none⟩ = some (.slice Aa bs.length ca)) (go_keep) (first
        | (refine step_append_run rfl (.tmp 27) (.tmp 29) _ rfl _ _ _ _ rfl rfl hrun5 ?_)
        | (refine step_append_run rfl (.tmp 22) (.tmp 32) _ rfl _ _ _ _ rfl rfl hrun7 ?_))
      all_goals
        go_wp2
        have HP2 : Hid (pes (l ++ [(⟨d, t, A5, c5, bs⟩ : Ev)]) = (pes L).take (k + 1)) := by show _ = _; rw [HN.out, pes_snoc, HW.out.2.1]; rfl
        have hlen2 : (l ++ [(⟨d, t, A5, c5, bs⟩ : Ev)]).length ≤ 100 := by
          have h1 := congrArg List.length HP2.out
          have h2 := List.length_take_le (k + 1) (pes L)
          rw [pes_len] at h1
          omega
        go_roundw
        case rel => exact ⟨k + 1, A7, c7, g7, l ++ [⟨d, t, A5, c5, bs⟩], by omega, by go_num, by simp, hlen2, by have h1 := Y.out.1; rw [show (l ++ [(⟨d, t, A5, c5, bs⟩ : Ev)]).length = l.length + 1 by simp]; exact h1, HP2.out, Y.out.2⟩
        case measure => simp [intOf]; omega
    · obtain rfl : k = L.length := by omega
      rw [pes_all] at HW
      obtain ⟨w2, rfl⟩ : ∃ w2, w2 = wr := ⟨_, rfl⟩
      have HB1 := Lib.hid HW.out.2.2
      have HP1 := Lib.hid HW.out.2.1
      have HO : Hid (Evs w2 (.slice B l.length dm) l) := Lib.hid (HW.out.1.evsIn (S := fun _ => True) (by omega) (fun _ h => h.elim) (fun _ _ => trivial))
      have hlw : l.length + whole (pes l) ≤ 1048576 := by
        have h1 := congrArg List.length HW.out.2.1
        rw [pes_len, pes_len] at h1
        rw [HW.out.2.1]
        omega
      have HEr := Lib.hid (HE.out.below HW.out.2.2)
      clear HW HE
      go_wp2_with fail
      refine (Merge_any _ l _ HO.out hlw).mono ?_
      rintro e w3 ⟨AM, cM, gM, lM, rfl, hrM, hPM, hb3⟩
      have HO3 := Lib.hid (HO.out.below hb3)
      have HM3 := Lib.hid (And.intro hrM hb3)
      have hlM : lM.length ≤ 100 := by
        have h1 := congrArg List.length hPM
        have h2 := mrg_len (pes l)
        rw [pes_len] at h1 h2
        omega
      clear hrM hPM hb3
      go_wp2_with fail
      refine (Bytes_any 0 _ l _ HO3.out (by omega) (data_le hlw)).mono ?_
      rintro e w4 ⟨AY, cY, gY, rfl, hrY, hfY, hb4⟩
      have hyl : (byts 0 (pes l)).length ≤ 1048576 := by
        have := byts_le 0 (pes l)
        omega
      have hyb : ∀ x ∈ byts 0 (pes l), x < 256 := byts_byte fun a ha => by
        obtain ⟨y, hy, rfl⟩ := List.mem_map.1 ha
        exact (EvsIn.ok HO3.out hy).byte
      have HPS : Hid (PS w2 gM (.slice AM lM.length cM) gY (.slice AY (byts 0 (pes l)).length cY) w4 lM (byts 0 (pes l))) :=
        ⟨HM3.out.1.below hb4, hrY, hyb, fun b e => Nat.le_trans HM3.out.2.size (hfY b e), fun x hx b e e2 => by have h1 := hfY b e; have h2 := (HM3.out.1.own x hx).row.lt e2; omega, below2 HM3.out.2 hb4⟩
      generalize byts 0 (pes l) = ds at *
      clear hrY hfY hb4 HO3 HM3 hyb
      go_wp2_with fail
      go_loopw [41] (fun i wq => ∃ (k : Nat) (lk : List Ev), k ≤ lM.length ∧ i = .int .i64 k ∧ Hid (lk.length = lM.length ∧ PS w2 gM (.slice AM lM.length cM) gY (.slice AY ds.length cY) wq lk ds)) (fun i _ => lM.length - (intOf i).toNat)
      case atStart => exact ⟨0, lM, by omega, rfl, rfl, HPS.out⟩
      case round =>
        obtain ⟨k, lk, hk, rfl, HK⟩ := hrel
        by_cases hlt : k < lM.length
        · obtain ⟨w5, rfl⟩ : ∃ w5, w5 = wr := ⟨_, rfl⟩
          have hEk : Evs w5 (.slice AM lM.length cM) lk := HK.out.2.mr.evs (by rw [HK.out.1]; omega)
          obtain ⟨bm, om, d, t, Aa, ca, bs, rfl, ha, c0, c1, c2, hbm, -⟩ := hEk.seeAt (Below.refl _ w5) hlt
          obtain ⟨b, o, hAa⟩ : ∃ b o, Aa = some ⟨b, o, none⟩ := by
            obtain ⟨A', c', e1, hle', _, hr'⟩ := (HK.out.2.mr.own _ (List.mem_of_getElem? ha)).row.rd
            injection e1 with e2 e3 e4
            obtain ⟨b, o, e5, _⟩ := hr' (by rw [bv_len]; exact (HK.out.2.mr.own _ (List.mem_of_getElem? ha)).pos)
            exact ⟨b, o, e2.trans e5⟩
          subst hAa
          have HA := Lib.hid ha
          clear ha hEk
          go_wp2_with fail
          obtain ⟨W, hW⟩ : ∃ W, w5.alloc (.cells #[.int .i64 d, .int .i64 t, .slice (some ⟨b, o, none⟩) bs.length ca] 25) = W := ⟨_, rfl⟩
          obtain ⟨Be, hBe⟩ : ∃ Be, w5.heap.size = Be := ⟨_, rfl⟩
          have hbx : Blk W Be 25 #[.int .i64 d, .int .i64 t, .slice (some ⟨b, o, none⟩) bs.length ca] := by rw [← hW, ← hBe]; exact Blk.new w5 _ _
          have hPW : PS w2 gM (.slice (some ⟨bm, om, none⟩) lM.length cM) gY (.slice AY ds.length cY) W lk ds := by rw [← hW]; exact HK.out.2.alloc _
          rw [hW, hBe]
          have HI : Hid (lk.length = lM.length ∧ lk[k]? = some ⟨d, t, some ⟨b, o, none⟩, ca, bs⟩ ∧ PS w2 gM (.slice (some ⟨bm, om, none⟩) lM.length cM) gY (.slice AY ds.length cY) W lk ds ∧ Blk W Be 25 #[.int .i64 d, .int .i64 t, .slice (some ⟨b, o, none⟩) bs.length ca]) := ⟨HK.out.1, HA.out, hPW, hbx⟩
          clear hW hBe hbx hPW HK HA c0 c1 c2
          go_loopw [48] (fun i wq => ∃ (j : Nat) (lj : List Ev) (bj : List Nat), j ≤ bs.length ∧ i = .int .i64 j ∧ Hid (lj.length = lM.length ∧ bj.length = bs.length ∧ lj[k]? = some ⟨d, t, some ⟨b, o, none⟩, ca, bj⟩ ∧ PS w2 gM (.slice (some ⟨bm, om, none⟩) lM.length cM) gY (.slice AY ds.length cY) wq lj ds ∧ Blk wq Be 25 #[.int .i64 d, .int .i64 t, .slice (some ⟨b, o, none⟩) bs.length ca])) (fun i _ => bs.length - (intOf i).toNat)
          case atStart => exact ⟨0, lk, bs, by omega, rfl, HI.out.1, rfl, HI.out.2.1, HI.out.2.2.1, HI.out.2.2.2⟩
          case round =>
            obtain ⟨j, lj, bj, hj, rfl, HJ⟩ := hrel
            by_cases hjl : j < bs.length
            · have hown := HJ.out.2.2.2.1.mr.own _ (List.mem_of_getElem? HJ.out.2.2.1)
              obtain ⟨b', o', x, e, hcx, hx⟩ := hown.row.rd.byteAt (k := j) (by show j < bj.length; rw [HJ.out.2.1]; exact hjl)
              injection e with e
              injection e with e1 e2
              subst e1 e2
              have hx6 : x < 256 := hown.byte x (List.mem_of_getElem? hx)
              have e2 : wr.cell? ⟨Be, 2, none⟩ = some (.slice (some ⟨b, o, none⟩) bs.length ca) := HJ.out.2.2.2.2.cell 2
              obtain ⟨hP, hf⟩ := HJ.out.2.2.2.1.poke (i := j) (x := (x + 1) % 256) HJ.out.2.2.1 (by rw [HJ.out.2.1]; exact hjl) (Nat.mod_lt _ (by omega))
              rw [show (((x + 1) % 256 : Nat) : Int) = ((x : Int) + 1) % 256 by omega] at hP
              have hbe : Blk (wr.setCell ⟨b, o + j, none⟩ (.int .u8 (((x : Int) + 1) % 256))) Be 25 #[.int .i64 d, .int .i64 t, .slice (some ⟨b, o, none⟩) bs.length ca] := HJ.out.2.2.2.2.far (p := ⟨b, o + j, none⟩) (fun e => hown.ne_ HJ.out.2.2.2.2 (by decide) (by rw [e]; rfl)) _
              have hkl := (List.getElem?_eq_some_iff.1 HJ.out.2.2.1).1
              have HZ : Hid ((lj.set k ⟨d, t, some ⟨b, o, none⟩, ca, bj.set j ((x + 1) % 256)⟩).length = lM.length ∧ (bj.set j ((x + 1) % 256)).length = bs.length ∧ (lj.set k ⟨d, t, some ⟨b, o, none⟩, ca, bj.set j ((x + 1) % 256)⟩)[k]? = some ⟨d, t, some ⟨b, o, none⟩, ca, bj.set j ((x + 1) % 256)⟩ ∧
                  PS w2 gM (.slice (some ⟨bm, om, none⟩) lM.length cM) gY (.slice AY ds.length cY) (wr.setCell ⟨b, o + j, none⟩ (.int .u8 (((x : Int) + 1) % 256))) (lj.set k ⟨d, t, some ⟨b, o, none⟩, ca, bj.set j ((x + 1) % 256)⟩) ds ∧ Blk (wr.setCell ⟨b, o + j, none⟩ (.int .u8 (((x : Int) + 1) % 256))) Be 25 #[.int .i64 d, .int .i64 t, .slice (some ⟨b, o, none⟩) bs.length ca]) :=
                ⟨by rw [List.length_set]; exact HJ.out.1, by rw [List.length_set]; exact HJ.out.2.1, List.getElem?_set_self hkl, hP, hbe⟩
              clear hown hx hP hbe hkl
              go_wp2_with fail
              go_roundw
              case rel => exact ⟨j + 1, _, _, by omega, by go_num, HZ⟩
              case measure => simp [intOf]; omega
            · go_wp2_with fail
              go_roundw
              case rel => exact ⟨k + 1, lj, by omega, by go_num, HJ.out.1, HJ.out.2.2.2.1⟩
              case measure => simp [intOf]; omega
        · obtain ⟨w5, rfl⟩ : ∃ w5, w5 = wr := ⟨_, rfl⟩
          have HP5 := Lib.hid HK.out.2
          clear HK
          go_wp2_with fail
          go_loopw [62] (fun i wq => ∃ (j : Nat) (dj : List Nat), j ≤ ds.length ∧ i = .int .i64 j ∧ Hid (dj.length = ds.length ∧ PS w2 gM (.slice AM lM.length cM) gY (.slice AY ds.length cY) wq lk dj)) (fun i _ => ds.length - (intOf i).toNat)
          case atStart => exact ⟨0, ds, by omega, rfl, rfl, HP5.out⟩
          case round =>
            obtain ⟨j, dj, hj, rfl, HJ⟩ := hrel
            by_cases hjl : j < ds.length
            · obtain ⟨b, o, x, rfl, hcx, hx⟩ := HJ.out.2.row.rd.byteAt (k := j) hjl
              have hx6 : x < 256 := HJ.out.2.byte x (List.mem_of_getElem? hx)
              obtain ⟨x', hx'⟩ : ∃ x' : Nat, (x' : Int) = ((x : Int) - 1) % 256 := ⟨(((x : Int) - 1) % 256).toNat, by omega⟩
              obtain ⟨hP, hf⟩ := HJ.out.2.pokeB (i := j) (x := x') (by rw [HJ.out.1]; exact hjl) (by omega)
              rw [hx'] at hP
              have HZ : Hid ((dj.set j x').length = ds.length ∧ PS w2 gM (.slice AM lM.length cM) gY (.slice (some ⟨b, o, none⟩) ds.length cY) (wr.setCell ⟨b, o + j, none⟩ (.int .u8 (((x : Int) - 1) % 256))) lk (dj.set j x')) := ⟨by rw [List.length_set]; exact HJ.out.1, hP⟩
              clear hx hP hx'
              go_wp2_with fail
              go_roundw
              case rel => exact ⟨j + 1, _, by omega, by go_num, HZ⟩
              case measure => simp [intOf]; omega
            · have HB2 := Lib.hid HJ.out.2.below
              clear HJ
              obtain ⟨hsl, hm3⟩ := HSL.out
              go_wp2_with fail
              refine (alive_true _).mono ?_
              rintro e w6 ⟨rfl, hb⟩
              have HB3 := Lib.hid (below2 HB2.out hb)
              clear hb HB2
              go_wp2_with fail
              clear hsl hm3
              refine (RSame_yes _ _ l L _ (Evs.below HO.out HB3.out) (Evs.below HEr.out HB3.out) HP1.out).mono ?_
              rintro e w7 ⟨rfl, hb⟩
              have HB4 := Lib.hid (below2 HB1.out (below2 HB3.out hb))
              clear hb HB3
              go_wp2_with fail
              go_ret
              exact ⟨rfl, HB4.out⟩
end Go.Proofs.Ytakcoplpmhgoiaa
