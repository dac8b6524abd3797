/-
  The law EnvActs.
  Conditions: texts of words of at most 140737488351232 bytes each.
-/
import Derived.Test.YteapcahpkapbbaaEnTwo
import Derived.Test.YteapcahpkapbbaaEnWd
import Derived.Test.YteapcahpkapbbaaUptoAll
namespace Go.Proofs.Yteapcahpkapbbaa
open Go.RowKit

set_option maxRecDepth 100000 in
set_option maxHeartbeats 8000000 in
theorem acts_true (v : Value) (l : List EAct) (w : World) (h : EActs all w v l) (hin : ∀ x ∈ l, EActIn x) (hl : l.length ≤ maxLen) (hps : ∀ x ∈ l, ∀ p ∈ x.w.parts, p.s.length ≤ 140737488351232) :
    Calls Try.prog 3 #[v] w fun e w' => e = .returned (.bool true) ∧ Below w.heap.size w w' := by
  obtain ⟨A0, cc, rfl, -⟩ := h.form
  simp only [maxLen] at hl
  have HL := Lib.hid h
  have HI := Lib.hid hin
  have HPS := Lib.hid hps
  have HG := Lib.hid (fun W (hW : Below w.heap.size w W) => great_is (.slice A0 l.length cc) l W (SlI.below eact_ok h hW) (by omega) hin)
  clear h hin hps
  go_enter Try.func3, Try.ntmps3
  go_wp2_with fail
  refine (new_1 (Below.refl _ w)).mono ?_
  rintro e w1 ⟨q, rfl, hm⟩
  have X1 := Lib.hid hm
  clear hm
  go_wp2_with fail
  refine (alive_true _).mono ?_
  rintro e w2 ⟨rfl, hbw⟩
  have X2 := Lib.hid (X1.out.keep (env_framed _ _) hbw)
  have HG2 := Lib.hid (HG.out w2 X2.out.below)
  clear hbw X1 HG
  cases hbig : bigE l with
  | true =>
    rw [hbig] at HG2
    go_wp2_with fail
    refine HG2.out.mono ?_
    rintro e w3 ⟨rfl, hbw⟩
    have X3 := Lib.hid (X2.out.below.trans (hbw.mono X2.out.below.size))
    clear hbw
    go_wp2_with fail
    refine (alive_true _).mono ?_
    rintro e w4 ⟨rfl, hbw⟩
    have X4 := Lib.hid (X3.out.trans (hbw.mono X3.out.size))
    clear hbw
    go_wp2_with fail
    go_ret
    exact ⟨rfl, X4.out⟩
  | false =>
    obtain ⟨hl3, hsm⟩ := bigE_small hbig
    have HSM := Lib.hid hsm
    rw [hbig] at HG2
    clear hbig hsm
    go_wp2_with fail
    refine HG2.out.mono ?_
    rintro e w3 ⟨rfl, hbw⟩
    have X3 := Lib.hid (both_new (X2.out.keep (env_framed _ _) hbw))
    clear hbw HG2 X2
    go_upto_region 5 with (fail)
    generalize hR : w3.heap.size = r at *
    generalize World.alloc w3 _ = w4 at *
    clear hR
    go_wp2_with fail
    go_loopw [38] (fun iv wr => ∃ (i : Nat) (L : Vrs), i ≤ l.length ∧ iv = .int .i64 (i : Nat) ∧ Hid (Has (BothE q r L) (fun _ => False) w wr)) (fun iv _ => l.length - (intOf iv).toNat)
    case atStart => exact ⟨0, [], by omega, rfl, X3⟩
    case round =>
      obtain ⟨i, L, hi, rfl, HW⟩ := hrel
      clear X3
      by_cases hlt : i < l.length
      · obtain ⟨x, hx⟩ : ∃ x, l[i]? = some x := ⟨_, List.getElem?_eq_getElem hlt⟩
        obtain ⟨bb, o, rfl, -, k0, k1, k2, k3, k4, v5, k5, hpr⟩ := (SlI.below eact_ok HL.out HW.out.below).at_ hx
        obtain ⟨D, dd, rfl, -⟩ := hpr.form
        have hxi := HI.out x (List.mem_of_getElem? hx)
        have hxs := HSM.out x (List.mem_of_getElem? hx)
        have HPO := Lib.hid (ps_ok hxi.2.2 (by omega) (HPS.out x (List.mem_of_getElem? hx)))
        have HNV : Hid ((∀ c ∈ x.name, c < 256) ∧ (∀ c ∈ x.value, c < 256) ∧ x.name.length ≤ 9223372036854775807 ∧ x.value.length ≤ 9223372036854775807) := Lib.hid ⟨hxi.1.1, hxi.2.1.1, by omega, by omega⟩
        have X5 := Lib.hid (HW.out.more (bothE_framed _ _ _ _) (.cells #[.int .i64 x.kind, .string (str x.name), .string (str x.value), .int .i64 x.w.at_, .int .i64 x.w.kind, .slice D x.w.parts.length dd] 35))
        have B5 := Lib.hid (Blk.new wr 35 #[.int .i64 x.kind, .string (str x.name), .string (str x.value), .int .i64 x.w.at_, .int .i64 x.w.kind, .slice D x.w.parts.length dd])
        have HPR := Lib.hid (SlI.below prt_ok hpr ((Below.refl wr.heap.size wr).alloc (Nat.le_refl _) (.cells #[.int .i64 x.kind, .string (str x.name), .string (str x.value), .int .i64 x.w.at_, .int .i64 x.w.kind, .slice D x.w.parts.length dd] 35)))
        clear hx hpr hxi hxs HW
        obtain ⟨kd, nm, vl, ⟨wat, wkd, ps⟩⟩ := x
        dsimp only at *
        go_upto_region 8 with (fail)
        generalize hP : wr.heap.size = P at *
        generalize World.alloc wr _ = w5 at *
        clear hP k0 k1 k2 k3 k4 k5
        have c0 : w5.cell? ⟨P, 0, none⟩ = some (.int .i64 kd) := B5.out.cell 0
        have c1 : w5.cell? ⟨P, 1, none⟩ = some (.string (str nm)) := B5.out.cell 1
        have c2 : w5.cell? ⟨P, 2, none⟩ = some (.string (str vl)) := B5.out.cell 2
        by_cases hk0 : kd = 0
        · subst hk0
          have X5d := Lib.hid (X5.out.drew (bothE_framed _ _ _ _))
          have B5d : Hid (Blk w5.drew P 35 _) := Lib.hid B5.out
          go_wp2_with fail
          refine wp_region_noPanic ?_
          refine wp_region_upto (fun V => V.cell? ⟨P, 1, none⟩ = some (.string (str nm)) ∧ V.cell? ⟨P, 2, none⟩ = some (.string (str vl))) 99 (by kernel_rfl) ?_ (fun hHeld => ?_)
          · exact ⟨c1, c2⟩
          refine wpUpto.takeAll 0 (by kernel_rfl) (by kernel_rfl) (by kernel_rfl) (by kernel_rfl) (by assumption) ?_
          intro o ho
          simp only [List.getElem?_toArray, List.getElem?_cons_zero, Option.some.injEq] at ho
          subst ho
          refine ⟨?_, fun _ _ _ h => h, Or.inl ⟨by rfl, ?_⟩, ?_⟩
          rotate_left
          · intro w hSw
            go_simp
            try with_reducible rfl
          simp only [Act.put, List.setIfInBounds_toArray, List.set_cons_zero, List.set_cons_succ]
          refine wpUpto.takeAll 1 (by kernel_rfl) (by kernel_rfl) (by kernel_rfl) (by kernel_rfl) (by assumption) ?_
          intro o ho
          simp only [List.getElem?_toArray, List.getElem?_cons_succ, List.getElem?_cons_zero, Option.some.injEq] at ho
          subst ho
          refine ⟨?_, fun _ _ _ h => h, Or.inl ⟨by rfl, ?_⟩, ?_⟩
          rotate_left
          · intro w hSw
            go_simp
            try with_reducible rfl
          simp only [Act.put, List.setIfInBounds_toArray, List.set_cons_zero, List.set_cons_succ]
          refine wpUpto.takeAll 2 (by kernel_rfl) (by kernel_rfl) (by kernel_rfl) (by kernel_rfl) (by assumption) ?_
          intro o ho
          simp only [List.getElem?_toArray, List.getElem?_cons_succ, List.getElem?_cons_zero, Option.some.injEq] at ho
          subst ho
          refine ⟨?_, fun _ _ _ h => h, Or.inl ⟨by rfl, ?_⟩, ?_⟩
          rotate_left
          · intro w hSw
            go_simp
            try with_reducible rfl
          simp only [Act.put, List.setIfInBounds_toArray, List.set_cons_zero, List.set_cons_succ]
          refine wpUpto.takeAll 3 (by kernel_rfl) (by kernel_rfl) (by kernel_rfl) (by kernel_rfl) (by assumption) ?_
          intro o ho
          simp only [List.getElem?_toArray, List.getElem?_cons_succ, List.getElem?_cons_zero, Option.some.injEq] at ho
          subst ho
          refine ⟨?_, fun _ _ _ h => h, Or.inl ⟨by rfl, ?_⟩, ?_⟩
          rotate_left
          · intro w hSw
            go_simp
            try with_reducible rfl
          simp only [Act.put, List.setIfInBounds_toArray, List.set_cons_zero, List.set_cons_succ]
          refine wpUpto.takeAll 4 (by kernel_rfl) (by kernel_rfl) (by kernel_rfl) (by kernel_rfl) (by assumption) ?_
          intro o ho
          simp only [List.getElem?_toArray, List.getElem?_cons_succ, List.getElem?_cons_zero, Option.some.injEq] at ho
          subst ho
          refine ⟨?_, fun _ _ _ h => h, Or.inl ⟨by rfl, ?_⟩, ?_⟩
          rotate_left
          · intro w hSw
            go_simp
            try with_reducible rfl
          simp only [Act.put, List.setIfInBounds_toArray, List.set_cons_zero, List.set_cons_succ]
          refine wpUpto.takeAll 6 (by kernel_rfl) (by kernel_rfl) (by kernel_rfl) (by kernel_rfl) (by assumption) ?_
          intro o ho
          simp only [List.getElem?_toArray, List.getElem?_cons_succ, List.getElem?_cons_zero, Option.some.injEq] at ho
          subst ho
          refine ⟨?_, fun _ _ _ h => h, Or.inl ⟨by rfl, ?_⟩, ?_⟩
          rotate_left
          · intro w hSw
            go_simp
            try with_reducible rfl
          simp only [Act.put, List.setIfInBounds_toArray, List.set_cons_zero, List.set_cons_succ]
          refine wpUpto.takeAll 7 (by kernel_rfl) (by kernel_rfl) (by kernel_rfl) (by kernel_rfl) (by assumption) ?_
          intro o ho
          simp only [List.getElem?_toArray, List.getElem?_cons_succ, List.getElem?_cons_zero, Option.some.injEq] at ho
          subst ho
          refine ⟨?_, fun _ _ _ h => h, Or.inl ⟨by rfl, ?_⟩, ?_⟩
          rotate_left
          · intro w hSw
            go_simp
            try with_reducible rfl
          simp only [Act.put, List.setIfInBounds_toArray, List.set_cons_zero, List.set_cons_succ]
          refine wpUpto.takeAll 8 (by kernel_rfl) (by kernel_rfl) (by kernel_rfl) (by kernel_rfl) (by assumption) ?_
          intro o ho
          simp only [List.getElem?_toArray, List.getElem?_cons_succ, List.getElem?_cons_zero, Option.some.injEq] at ho
          subst ho
          refine ⟨?_, fun _ _ _ h => h, Or.inl ⟨by rfl, ?_⟩, ?_⟩
          rotate_left
          · intro w hSw
            go_simp
            try with_reducible rfl
          simp only [Act.put, List.setIfInBounds_toArray, List.set_cons_zero, List.set_cons_succ]
          refine wpUpto.takeAll 9 (by kernel_rfl) (by kernel_rfl) (by kernel_rfl) (by kernel_rfl) (by assumption) ?_
          intro o ho
          simp only [List.getElem?_toArray, List.getElem?_cons_succ, List.getElem?_cons_zero, Option.some.injEq] at ho
          subst ho
          refine ⟨?_, fun _ _ _ h => h, Or.inl ⟨by rfl, ?_⟩, ?_⟩
          rotate_left
          · intro w hSw
            go_simp
            try with_reducible rfl
          simp only [Act.put, List.setIfInBounds_toArray, List.set_cons_zero, List.set_cons_succ]
          refine wpUpto.takeAll 10 (by kernel_rfl) (by kernel_rfl) (by kernel_rfl) (by kernel_rfl) (by assumption) ?_
          intro o ho
          simp only [List.getElem?_toArray, List.getElem?_cons_succ, List.getElem?_cons_zero, Option.some.injEq] at ho
          subst ho
          refine ⟨?_, fun _ _ _ h => h, Or.inl ⟨by rfl, ?_⟩, ?_⟩
          rotate_left
          · intro w hSw
            go_simp
            try with_reducible rfl
          simp only [Act.put, List.setIfInBounds_toArray, List.set_cons_zero, List.set_cons_succ]
          refine wpUpto.one 5 (by kernel_rfl) ?_
          intro o ho K hK
          simp only [List.getElem?_toArray, List.getElem?_cons_succ, List.getElem?_cons_zero, Option.some.injEq] at ho
          subst ho
          go_simp
          go_at_call 13
          refine (set_el X5d.out nm vl HNV.out.1 HNV.out.2.1 HNV.out.2.2.1 HNV.out.2.2.2).mono ?_
          rintro e wa ⟨rfl, hma, hsa⟩
          have Xa := Lib.hid hma
          have Ba := hsa.blk (.inr rfl) B5d.out
          have ka1 : wa.cell? ⟨P, 1, none⟩ = some (.string (str nm)) := Ba.cell 1
          have ka2 : wa.cell? ⟨P, 2, none⟩ = some (.string (str vl)) := Ba.cell 2
          have BA := Lib.hid Ba
          clear hma hsa Ba
          refine hK.out _ _ ?_ (fun hHeld => ?_)
          · exact ⟨ka1, ka2⟩
          clear hK K
          try simp only [Act.put, List.setIfInBounds_toArray, List.set_cons_zero, List.set_cons_succ]
          refine wpUpto.one 11 (by kernel_rfl) ?_
          intro o ho K hK
          simp only [List.getElem?_toArray, List.getElem?_cons_succ, List.getElem?_cons_zero, Option.some.injEq] at ho
          subst ho
          go_simp
          go_at_call 14
          refine (set_er Xa.out nm vl HNV.out.1 HNV.out.2.1 HNV.out.2.2.1 HNV.out.2.2.2).mono ?_
          rintro e wb ⟨rfl, hmb, hsb⟩
          have Xb := Lib.hid hmb
          have Bb := hsb.blk (.inr rfl) BA.out
          have kb1 : wb.cell? ⟨P, 1, none⟩ = some (.string (str nm)) := Bb.cell 1
          have kb2 : wb.cell? ⟨P, 2, none⟩ = some (.string (str vl)) := Bb.cell 2
          clear hmb hsb Bb
          refine hK.out _ _ ?_ (fun hHeld => ?_)
          · exact ⟨kb1, kb2⟩
          clear hK K
          try simp only [Act.put, List.setIfInBounds_toArray, List.set_cons_zero, List.set_cons_succ]
          refine wpUpto.takeAll 12 (by kernel_rfl) (by kernel_rfl) (by kernel_rfl) (by kernel_rfl) (by assumption) ?_
          intro o ho
          simp only [List.getElem?_toArray, List.getElem?_cons_succ, List.getElem?_cons_zero, Option.some.injEq] at ho
          subst ho
          refine ⟨?_, fun _ _ _ h => h, Or.inl ⟨by rfl, ?_⟩, ?_⟩
          rotate_left
          · intro w hSw
            go_simp
            try with_reducible rfl
          simp only [Act.put, List.setIfInBounds_toArray, List.set_cons_zero, List.set_cons_succ]
          refine wpUpto.done (by kernel_rfl) ?_ _
          refine NoPanic.normal ?_
          go_wp2_with fail
          go_roundw
          case rel => exact ⟨i + 1, _, by omega, by go_num, Lib.hid (Xb.out.less fun _ e => e.elim)⟩
          case measure => simp [intOf]; omega
        have q0 : (kd == 0) = false := beq_eq_false_iff_ne.2 hk0
        by_cases hk1 : kd = 1
        · subst hk1
          have HGe := Lib.hid (get_el X5.out nm HNV.out.1 HNV.out.2.2.1)
          have HX : ∃ g b, getE (getV L nm) = .tuple #[.string g, .bool b] := by cases getV L nm; exact ⟨_, _, rfl⟩; exact ⟨_, _, rfl⟩
          obtain ⟨g, b, hg⟩ := HX
          rw [hg] at HGe
          have HGG := Lib.hid hg
          clear hg
          go_wp2_with fail
          refine HGe.out.mono ?_
          rintro e w6 ⟨rfl, hb6⟩
          have X6 := Lib.hid (X5.out.keep (bothE_framed _ _ _ _) hb6)
          have B6 := B5.out.below hb6 B5.out.lt
          have c1' : w6.cell? ⟨P, 1, none⟩ = some (.string (str nm)) := B6.cell 1
          have HGr := get_er X6.out nm HNV.out.1
          rw [HGG.out] at HGr
          have HGR := Lib.hid HGr
          clear hb6 B6 HGr HGe X5 B5 c0 c1 c2
          go_wp2_with fail
          refine HGR.out.mono ?_
          rintro e w7 ⟨rfl, rfl⟩
          go_wp2_with fail
          go_roundw
          case rel => exact ⟨i + 1, L, by omega, by go_num, Lib.hid (X6.out.less fun _ e => e.elim)⟩
          case measure => simp [intOf]; omega
        have q1 : (kd == 1) = false := beq_eq_false_iff_ne.2 hk1
        by_cases hk2 : kd = 2
        · subst hk2
          have c3 : w5.cell? ⟨P, 3, none⟩ = some (.int .i64 wat) := B5.out.cell 3
          have c4 : w5.cell? ⟨P, 4, none⟩ = some (.int .i64 wkd) := B5.out.cell 4
          have c5 : w5.cell? ⟨P, 5, none⟩ = some (.slice D ps.length dd) := B5.out.cell 5
          have HWe := word_el X5.out wat wkd _ ps HPR.out HPO.out
          obtain ⟨rv, hrv⟩ : ∃ rv, rv = wordV L ps := ⟨_, rfl⟩
          rw [← hrv] at HWe
          obtain ⟨ke, se⟩ := rv
          rw [show wordE (ke, se) = .tuple #[.string (str se), .int .i64 (ke : Nat)] from rfl] at HWe
          have HW1 := Lib.hid HWe
          have HRV := Lib.hid hrv
          clear HWe hrv
          go_wp2_with fail
          refine HW1.out.mono ?_
          rintro e w6 ⟨rfl, hb6⟩
          have X6 := Lib.hid (X5.out.keep (bothE_framed _ _ _ _) hb6)
          have B6 := B5.out.below hb6 B5.out.lt
          have d3 : w6.cell? ⟨P, 3, none⟩ = some (.int .i64 wat) := B6.cell 3
          have d4 : w6.cell? ⟨P, 4, none⟩ = some (.int .i64 wkd) := B6.cell 4
          have d5 : w6.cell? ⟨P, 5, none⟩ = some (.slice D ps.length dd) := B6.cell 5
          have HWr := word_er X6.out wat wkd _ ps (SlI.below prt_ok HPR.out hb6) HPO.out
          rw [← HRV.out, show wordE (ke, se) = .tuple #[.string (str se), .int .i64 (ke : Nat)] from rfl] at HWr
          have HW2 := Lib.hid HWr
          clear hb6 B6 HWr HW1 X5 B5 c0 c1 c2 c3 c4 c5
          go_wp2_with fail
          refine HW2.out.mono ?_
          rintro e w7 ⟨rfl, hb7⟩
          have X7 := Lib.hid (X6.out.keep (bothE_framed _ _ _ _) hb7)
          clear hb7 HW2 X6 d3 d4 d5
          go_wp2_with fail
          go_roundw
          case rel => exact ⟨i + 1, L, by omega, by go_num, Lib.hid (X7.out.less fun _ e => e.elim)⟩
          case measure => simp [intOf]; omega
        have q2 : (kd == 2) = false := beq_eq_false_iff_ne.2 hk2
        go_wp2_with fail
        go_roundw
        case rel => exact ⟨i + 1, L, by omega, by go_num, Lib.hid (X5.out.less fun _ e => e.elim)⟩
        case measure => simp [intOf]; omega
      · obtain rfl : i = l.length := by omega
        have HN := Lib.hid (names_el HW.out)
        have HOK := Lib.hid HW.out.fstE
        go_wp2_with fail
        refine HN.out.mono ?_
        rintro e w6 ⟨A6, c6, rfl, g6, hr6, hg6, hb6⟩
        have X6 := Lib.hid (HW.out.rowE (bothE_framed _ _ _ _) hb6 hr6 hg6)
        have HN2 := Lib.hid (names_er X6.out)
        have R6 := Lib.hid (And.intro hr6 hr6.rd)
        clear hb6 hr6 hg6 HN HW
        go_wp2_with fail
        refine HN2.out.mono ?_
        rintro e w7 ⟨A7, c7, rfl, g7, hr7, hg7, hb7⟩
        have X7 := Lib.hid (X6.out.below.trans (hb7.mono X6.out.below.size))
        have R7 := Lib.hid (And.intro (R6.out.2.kept hb7) hr7.rd)
        clear hb7 hr7 hg7 HN2 X6 R6
        have hnl : (namesV L).length ≤ 256 := by rw [namesV, sort_len, List.length_map]; obtain ⟨F, hF⟩ := HOK.out; exact (env_ok hF).1.1
        generalize namesV L = NM at *
        obtain ⟨M, hM⟩ : ∃ M, M = NM.length := ⟨_, rfl⟩
        have hM2 : M ≤ 256 := by omega
        have HM := Lib.hid hM
        rw [← hM]
        clear hM hnl
        go_wp2_with fail
        go_loopw [119] (fun jv wr => ∃ j : Nat, j ≤ M ∧ jv = .int .i64 (j : Nat) ∧ Hid (Below w7.heap.size w7 wr)) (fun jv _ => M - (intOf jv).toNat)
        case atStart => exact ⟨0, by omega, rfl, Lib.hid (Below.refl _ _)⟩
        case round =>
          obtain ⟨j, hj, rfl, HB⟩ := hrel
          by_cases hjl : j < M
          · obtain ⟨n, hn⟩ : ∃ n, NM[j]? = some n := ⟨_, List.getElem?_eq_getElem (by rw [← HM.out]; exact hjl)⟩
            have rd1 := R7.out.1.kept HB.out
            have rd2 := R7.out.2.kept HB.out
            obtain ⟨A', c', e3, _, _, hx⟩ := rd1
            injection e3 with e4 e5 e6
            obtain ⟨b5, o5, e7, hcell⟩ := hx (by rw [sv_len, ← HM.out]; omega)
            have y0 : wr.cell? ⟨b5, o5 + j, none⟩ = some (.string (str n)) := hcell j _ (sv_at hn)
            obtain ⟨A'', c'', e3', _, _, hx'⟩ := rd2
            injection e3' with e4' e5' e6'
            obtain ⟨b6, o6, e7', hcell'⟩ := hx' (by rw [sv_len, ← HM.out]; omega)
            have y1 : wr.cell? ⟨b6, o6 + j, none⟩ = some (.string (str n)) := hcell' j _ (sv_at hn)
            subst e4 e7 e4' e7' e6 e6'
            have r1 : decide ((j : Int) < (M : Int)) = true := decide_eq_true (by omega)
            clear hn hx hcell hx' hcell' e5 e5'
            go_wp2_with fail
            go_quiet (fail)
            have HB2 : Hid (Below w7.heap.size w7 (wr.drewN nq)) := Lib.hid ⟨HB.out.os, HB.out.tape, HB.out.output, HB.out.size, HB.out.block⟩
            generalize World.drewN wr nq = w9 at *
            clear HB
            go_wp2_with fail
            go_roundw
            case rel => exact ⟨j + 1, by omega, by go_num, HB2⟩
            case measure => simp [intOf]; omega
          · obtain rfl : j = M := by omega
            go_wp2_with fail
            go_ret
            exact ⟨rfl, X7.out.trans (HB.out.mono X7.out.size)⟩
end Go.Proofs.Yteapcahpkapbbaa
