/-
  The law MatchSpan.
  Conditions: each pattern has at most 1048576 bytes.
-/
import Derived.Test.YtcipljpalohjiaaDoorMtFi
namespace Go.Proofs.YtcipljpalohjiaaDoor
open Go.RowKit

/-- b[lo:hi], under one name. -/
theorem run_bspan {w : World} {A : Option Addr} {n c a e : Nat} {l : List Nat} (h : Rd w (.slice A n c) (bv l)) (h1 : a ≤ e) (h2 : e ≤ n) :
    ∃ A' c', (∀ W, (Instr.slice 22 (.slice A n c) (some (.int .i64 (a : Int))) (some (.int .i64 (e : Int))) none).run Tryd.prog W = .ok (.slice A' (e - a) c') W) ∧ Rd w (.slice A' (e - a) c') (bv ((l.take e).drop a)) := by
  refine ⟨_, _, fun W => ?_, by have := (h.drop (a := a) (by omega)).take (n := e - a) (by omega); rw [show ((bv l).drop a).take (e - a) = bv ((l.take e).drop a) by simp [bv, List.drop_take]] at this; exact this⟩
  have hle := h.le
  obtain ⟨i0, hi0, hz0, hz1, hz2⟩ := info_parts byte_info
  have hs : (sizeOf (Tryd.prog.elem 22)).run Tryd.prog W = .ok 1 W := by
    rw [show Tryd.prog.elem 22 = 5 by kernel_rfl]
    simp [sizeOf, typeInfo, hi0, hz1]
  rw [run_slice_lh W 22 A n c (by kernel_rfl) .i64 .i64 (a : Int) (e : Int) (by omega) (by omega) (by omega), hs]
  simp only [Result.andThen, Int.toNat_natCast, sliced, Nat.mul_one]

/-- What an exact branch hits is its pattern. -/
theorem from_pat {most : Int} {b p : List Nat} {f : Nat} (h : fromS most b ⟨0, p⟩ = some f) : b.drop f = p := by
  rw [fromS, if_pos rfl] at h
  split at h
  · rename_i hc
    have h2 := hc.2
    unfold endsB at h2
    rw [Bool.and_eq_true, decide_eq_true_eq, decide_eq_true_eq] at h2
    injection h with h
    rw [← h]; exact h2.2
  · cases h
theorem from_kind {most : Int} {b : List Nat} {x : Brc} {f : Nat} (h : fromS most b x = some f) : x.kind = 0 ∨ x.kind = 1 := by
  unfold fromS at h
  split at h
  · exact .inl ‹_›
  · split at h
    · exact .inr ‹_›
    · cases h

set_option maxRecDepth 100000 in
set_option maxHeartbeats 3000000 in
theorem span_true (z : Int) (A : Option Addr) (n c : Nat) (b : List Nat) (v : Value) (l : List Brc) (w : World) [tz : TzW w] (hr : Rd w (.slice A n c) (bv b)) (hbb : ∀ d ∈ b, d < 256) (hnn : n ≤ 9223372036854775807) (h : Brs all w v l) (hx : ∀ x ∈ l, BrIn x) (hl : l.length ≤ 9223372036854775807) :
    Calls Tryd.prog 7 #[.int .i64 z, .slice A n c, v] w fun e w' => e = .returned (.bool true) ∧ Below w.heap.size w w' := by
  obtain rfl := hr.bytes
  obtain ⟨D, d, rfl, -⟩ := h.form
  have HR := Lib.hid hr
  have HL := Lib.hid h
  have HX := Lib.hid hx
  have HBB := Lib.hid hbb
  have HG := Lib.hid (fun W (hW : Below w.heap.size w W) => great_is A c b (.slice D l.length d) l W hnn (SlI.below brc_ok h hW) hx hl)
  have HCK := Lib.hid (fun W (hW : Below w.heap.size w W) => RCheck_is z (.slice D l.length d) l W (SlI.below brc_ok h hW) hx)
  have HF : Hid (∀ W, Below w.heap.size w W → b.length ≤ 1048576 → checkS z l = 0 → Calls Tryd.prog 18 #[.int .i64 z, .slice A b.length c, .slice D l.length d] W fun e w' => e = .returned (firstE (firstHit z b l) 0) ∧ Below W.heap.size W w') := Lib.hid (fun W hW hbl hc => by
    have h2 := First_is z A c b (.slice D l.length d) l W (tz.out.below hW) (hr.kept hW) hbb hbl (SlI.below brc_ok h hW) hx
    rw [if_pos hc, hc] at h2
    exact h2)
  clear hr h hx hbb
  go_enter Tryd.func7, Tryd.ntmps7
  go_wp2_with fail
  refine (alive_true (Below.refl _ _)).mono ?_
  rintro e w1 ⟨rfl, hb⟩
  have X1 := Lib.hid hb
  have HG1 := Lib.hid (HG.out w1 X1.out)
  clear hb HG
  go_wp2_with fail
  refine HG1.out.mono ?_
  rintro e w2 ⟨rfl, hb⟩
  have X2 := Lib.hid (X1.out.trans (hb.mono X1.out.size))
  clear hb HG1 X1
  cases hbig : bigB b l with
  | true =>
    go_wp2_with fail
    refine (alive_true (X2.out)).mono ?_
    rintro e w3 ⟨rfl, hb⟩
    have X3 := Lib.hid (X2.out.trans (hb.mono X2.out.size))
    clear hb
    go_wp2_with fail
    go_ret
    exact ⟨rfl, X3.out⟩
  | false =>
    obtain ⟨hb60, hl70⟩ := big_small hbig
    have HC2 := Lib.hid (HCK.out w2 X2.out)
    clear hbig HCK
    go_wp2_with fail
    refine HC2.out.mono ?_
    rintro e w3 ⟨rfl, hb⟩
    have X3 := Lib.hid (X2.out.trans (hb.mono X2.out.size))
    clear hb HC2 X2
    by_cases hc : checkS z l = 0
    · have HA := Lib.hid (HF.out w3 X3.out (by omega) hc)
      obtain ⟨hz1, hz2, -, hw⟩ := check_zero hc
      have HH : Hid (∀ (k : Nat), k ≤ b.length → ∀ W, Below w.heap.size w W → Calls Tryd.prog 13 #[.int .i64 z, .string (str (b.take k)), .slice D l.length d] W fun e w' => e = .returned (hitV (hitS z (b.take k) l)) ∧ Below W.heap.size W w') := Lib.hid fun k hk W hW =>
        RHit_is z ⟨hz1, hz2⟩ (b.take k) (fun d hd => HBB.out d (List.mem_of_mem_take hd)) (by rw [List.length_take]; omega) (.slice D l.length d) l W (SlI.below brc_ok HL.out hW) HX.out hw (by omega)
      rw [hc]
      clear HF hc hw
      rcases firstHit_cases z b l with ⟨i, f, e, e1, he, hh, hno⟩ | ⟨e1, hno⟩
      · rw [e1] at HA
        rw [show firstE (some (i, f, e)) 0 = .tuple #[.agg #[.int .i64 (i : Nat), .int .i64 (f : Nat), .int .i64 (e : Nat)], .bool true, .int .i64 0] from rfl] at HA
        have HN := Lib.hid hno
        clear e1 hno
        go_wp2_with fail
        refine HA.out.mono ?_
        rintro e2 w4 ⟨rfl, hb⟩
        have X4 := Lib.hid (X3.out.trans (hb.mono X3.out.size))
        have B4 := Lib.hid (Blk.new w4 34 #[.int .i64 (i : Nat), .int .i64 (f : Nat), .int .i64 (e : Nat)])
        have X5 := Lib.hid (X4.out.alloc X4.out.size (.cells #[.int .i64 (i : Nat), .int .i64 (f : Nat), .int .i64 (e : Nat)] 34))
        clear hb X3 HA
        go_upto_region 4 with (fail)
        generalize hP : w4.heap.size = P at *
        generalize World.alloc w4 _ = w5 at *
        clear hP X4
        obtain ⟨hil, ⟨x, hxi, hxf⟩, hfb, hfm⟩ := hit_bound hh
        rw [List.length_take, Nat.min_eq_left he] at hfb hfm
        obtain ⟨bb, o, rfl, -, c0, c1⟩ := (SlI.below brc_ok HL.out X5.out).at_ hxi
        have hp := (HX.out x (List.mem_of_getElem? hxi)).1
        have hkd := from_kind hxf
        have g0 : decide ((f : Int) < 0) = false := decide_eq_false (by omega)
        have g5 : decide ((i : Int) < 0) = false := decide_eq_false (by omega)
        have g1 : decide (e < f) = false := decide_eq_false (by omega)
        have g2 : decide (b.length < e) = false := decide_eq_false (by omega)
        have g3 : decide (z < (e : Int) - (f : Int)) = false := decide_eq_false (by omega)
        have g4 : decide (l.length ≤ i) = false := decide_eq_false (by omega)
        have d0 := B4.out.cell 0
        have d1 := B4.out.cell 1
        have d2 := B4.out.cell 2
        simp only [List.getElem?_toArray, List.getElem?_cons_zero, List.getElem?_cons_succ] at d0 d1 d2
        clear hh hxi
        obtain ⟨kd, p⟩ := x
        dsimp only at hkd hp c0 c1
        rcases hkd with rfl | rfl
        · have hpat := from_pat hxf
          obtain ⟨A7, c7, hrun7, hr7⟩ := run_bspan HR.out (a := f) (e := e) (by omega) (by omega)
          rw [hpat] at hr7
          have H7 := Lib.hid hr7
          have hpp := str_beq (l := p) (m := p) hp hp
          rw [decide_eq_true rfl] at hpp
          clear hxf hpat hr7 hp
          go_upto_region 11 with (fail)
          have B6 := Lib.hid ((B4.out.alloc (.cells #[.int .i64 0, .string (str p)] 45)))
          have C6 := Lib.hid (Blk.new w5 45 #[.int .i64 0, .string (str p)])
          have X6 := Lib.hid (X5.out.alloc X5.out.size (.cells #[.int .i64 0, .string (str p)] 45))
          generalize hQ : w5.heap.size = Q at *
          generalize World.alloc w5 _ = w6 at *
          clear hQ X5 c0 c1 d0 d1 d2
          have d0 := B6.out.cell 0
          have d1 := B6.out.cell 1
          have d2 := B6.out.cell 2
          have c0 := C6.out.cell 0
          have c1 := C6.out.cell 1
          simp only [List.getElem?_toArray, List.getElem?_cons_zero, List.getElem?_cons_succ] at c0 c1 d0 d1 d2
          have s7 := fun q : Nat => run_str (H7.out.kept (X6.out.trans ((drewG_below w6 q).mono X6.out.size)))
          go_wp2_with fail
          go_quiet (fail)
          have X7 := Lib.hid (X6.out.trans ((drewG_below _ nq).mono X6.out.size))
          have B7 := Lib.hid (B6.out.below (drewG_below _ nq) B6.out.lt)
          generalize World.drewN _ nq = w7 at *
          clear c0 c1 d0 d1 d2 B6 C6 X6
          have d2 := B7.out.cell 2
          simp only [List.getElem?_toArray, List.getElem?_cons_zero, List.getElem?_cons_succ] at d2
          obtain ⟨E, qE⟩ : ∃ E : Int, (e : Int) - 1 = E := ⟨_, rfl⟩
          go_wp2_with fail
          go_loopw [12] (fun iv wr => ∃ k : Nat, k ≤ e ∧ iv = .int .i64 (k : Nat) ∧ Hid (Below w.heap.size w wr)) (fun iv _ => e - (intOf iv).toNat)
          case atStart => exact ⟨0, by omega, rfl, X7⟩
          case round =>
            obtain ⟨k, hk, rfl, HW⟩ := hrel
            by_cases hlt2 : k < e
            · have r1 : decide ((k : Int) ≤ E) = true := decide_eq_true (by omega)
              obtain ⟨A6, hrun6, hr6⟩ := run_upto HR.out (k := k) (by omega)
              have s6 := run_str (hr6.kept HW.out)
              have H6 := Lib.hid (HH.out k (by omega) wr HW.out)
              rw [HN.out k (by omega), show hitV none = .tuple #[.int .i64 (-1), .int .i64 0] from rfl] at H6
              generalize str (b.take k) = sk at *
              clear hr6
              go_wp2_with fail
              refine H6.out.mono ?_
              rintro e6 w6b ⟨rfl, hb⟩
              have X6 := Lib.hid (HW.out.trans (hb.mono HW.out.size))
              clear hb H6 HW s6 hrun6
              go_wp2_with fail
              go_roundw
              case rel => exact ⟨k + 1, by omega, by go_num, X6⟩
              case measure => simp [intOf]; omega
            · have r1 : decide ((k : Int) ≤ E) = false := decide_eq_false (by omega)
              go_wp2_with fail
              go_ret
              exact ⟨rfl, HW.out⟩
        · clear hxf hp
          go_upto_region 11 with (fail)
          have B6 := Lib.hid ((B4.out.alloc (.cells #[.int .i64 1, .string (str p)] 45)))
          have C6 := Lib.hid (Blk.new w5 45 #[.int .i64 1, .string (str p)])
          have X6 := Lib.hid (X5.out.alloc X5.out.size (.cells #[.int .i64 1, .string (str p)] 45))
          generalize hQ : w5.heap.size = Q at *
          generalize World.alloc w5 _ = w6 at *
          clear hQ X5 c0 c1 d0 d1 d2
          have d0 := B6.out.cell 0
          have d1 := B6.out.cell 1
          have d2 := B6.out.cell 2
          have c0 := C6.out.cell 0
          have c1 := C6.out.cell 1
          simp only [List.getElem?_toArray, List.getElem?_cons_zero, List.getElem?_cons_succ] at c0 c1 d0 d1 d2
          go_wp2_with fail
          go_quiet (fail)
          have X7 := Lib.hid (X6.out.trans ((drewG_below _ nq).mono X6.out.size))
          have B7 := Lib.hid (B6.out.below (drewG_below _ nq) B6.out.lt)
          generalize World.drewN _ nq = w7 at *
          clear c0 c1 d0 d1 d2 B6 C6 X6
          have d2 := B7.out.cell 2
          simp only [List.getElem?_toArray, List.getElem?_cons_zero, List.getElem?_cons_succ] at d2
          obtain ⟨E, qE⟩ : ∃ E : Int, (e : Int) - 1 = E := ⟨_, rfl⟩
          go_wp2_with fail
          go_loopw [12] (fun iv wr => ∃ k : Nat, k ≤ e ∧ iv = .int .i64 (k : Nat) ∧ Hid (Below w.heap.size w wr)) (fun iv _ => e - (intOf iv).toNat)
          case atStart => exact ⟨0, by omega, rfl, X7⟩
          case round =>
            obtain ⟨k, hk, rfl, HW⟩ := hrel
            by_cases hlt2 : k < e
            · have r1 : decide ((k : Int) ≤ E) = true := decide_eq_true (by omega)
              obtain ⟨A6, hrun6, hr6⟩ := run_upto HR.out (k := k) (by omega)
              have s6 := run_str (hr6.kept HW.out)
              have H6 := Lib.hid (HH.out k (by omega) wr HW.out)
              rw [HN.out k (by omega), show hitV none = .tuple #[.int .i64 (-1), .int .i64 0] from rfl] at H6
              generalize str (b.take k) = sk at *
              clear hr6
              go_wp2_with fail
              refine H6.out.mono ?_
              rintro e6 w6b ⟨rfl, hb⟩
              have X6 := Lib.hid (HW.out.trans (hb.mono HW.out.size))
              clear hb H6 HW s6 hrun6
              go_wp2_with fail
              go_roundw
              case rel => exact ⟨k + 1, by omega, by go_num, X6⟩
              case measure => simp [intOf]; omega
            · have r1 : decide ((k : Int) ≤ E) = false := decide_eq_false (by omega)
              go_wp2_with fail
              go_ret
              exact ⟨rfl, HW.out⟩
      · rw [e1] at HA
        rw [show firstE none 0 = .tuple #[.agg #[.int .i64 0, .int .i64 0, .int .i64 0], .bool false, .int .i64 0] from rfl] at HA
        have HN := Lib.hid hno
        clear e1 hno
        go_wp2_with fail
        refine HA.out.mono ?_
        rintro e2 w4 ⟨rfl, hb⟩
        have X4 := Lib.hid (X3.out.trans (hb.mono X3.out.size))
        have B4 := Lib.hid (Blk.new w4 34 #[.int .i64 0, .int .i64 0, .int .i64 0])
        have X5 := Lib.hid (X4.out.alloc X4.out.size (.cells #[.int .i64 0, .int .i64 0, .int .i64 0] 34))
        clear hb X3 HA
        go_upto_region 4 with (fail)
        generalize hP : w4.heap.size = P at *
        generalize World.alloc w4 _ = w5 at *
        clear hP X4
        go_wp2_with fail
        go_loopw [12] (fun iv wr => ∃ k : Nat, k ≤ (b.length + 1) ∧ iv = .int .i64 (k : Nat) ∧ Hid (Below w.heap.size w wr)) (fun iv _ => (b.length + 1) - (intOf iv).toNat)
        case atStart => exact ⟨0, by omega, rfl, X5⟩
        case round =>
          obtain ⟨k, hk, rfl, HW⟩ := hrel
          by_cases hlt2 : k < (b.length + 1)
          · have r1 : decide ((k : Int) ≤ (b.length : Int)) = true := decide_eq_true (by omega)
            obtain ⟨A6, hrun6, hr6⟩ := run_upto HR.out (k := k) (by omega)
            have s6 := run_str (hr6.kept HW.out)
            have H6 := Lib.hid (HH.out k (by omega) wr HW.out)
            rw [HN.out k (by omega), show hitV none = .tuple #[.int .i64 (-1), .int .i64 0] from rfl] at H6
            generalize str (b.take k) = sk at *
            clear hr6
            go_wp2_with fail
            refine H6.out.mono ?_
            rintro e6 w6b ⟨rfl, hb⟩
            have X6 := Lib.hid (HW.out.trans (hb.mono HW.out.size))
            clear hb H6 HW s6 hrun6
            go_wp2_with fail
            go_roundw
            case rel => exact ⟨k + 1, by omega, by go_num, X6⟩
            case measure => simp [intOf]; omega
          · have r1 : decide ((k : Int) ≤ (b.length : Int)) = false := decide_eq_false (by omega)
            go_wp2_with fail
            go_ret
            exact ⟨rfl, HW.out⟩
    · have q1 : (((checkS z l : Nat) : Int) != 0) = true := by simp; omega
      clear HF
      go_wp2_with fail
      refine (alive_true (X3.out)).mono ?_
      rintro e w4 ⟨rfl, hb⟩
      have X4 := Lib.hid (X3.out.trans (hb.mono X3.out.size))
      clear hb
      go_wp2_with fail
      go_ret
      exact ⟨rfl, X4.out⟩
end Go.Proofs.YtcipljpalohjiaaDoor
