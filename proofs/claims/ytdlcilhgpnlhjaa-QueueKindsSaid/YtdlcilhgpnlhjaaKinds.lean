/-
  cuecardlaw01.QueueKinds answers true for every number and every list of acts.
  Conditions: none.
-/
import Derived.Test.YtdlcilhgpnlhjaaKin
import Derived.Deep.DeepCutAuto
import Derived.Deep.CutBlock
namespace Go.Proofs.Ytdlcilhgpnlhjaa
open Go.RowKit

set_option maxHeartbeats 4000000 in
set_option maxRecDepth 100000 in
theorem kinds_true (room : Int) (hr0 : room ≤ 9223372036854775807) (v : Value) (l : List ActV) (w : World) (h : Acts w v l) :
    Calls Try.prog 6 #[.int .i64 room, v] w fun e w' => e = .returned (.bool true) ∧ Below w.heap.size w w' := by
  have HA := Lib.hid h
  obtain ⟨i0, hi0, hz0, hz1, hz2⟩ := info_parts str_info
  obtain ⟨hm, A, c, rfl, -⟩ := h
  by_cases hgt : isGreat l = true
  · have HG := Lib.hid hgt
    clear hgt
    go_enter Try.func6, Try.ntmps6
    go_wp2_with fail
    refine (alive_true w).mono ?_
    rintro e w1 ⟨rfl, hb1⟩
    have B1 := Lib.hid hb1
    clear hb1
    go_wp2_with fail
    refine (great_any _ l w1 (HA.out.below B1.out)).mono ?_
    rintro e w2 ⟨rfl, hb2⟩
    have B2 : Hid (Below w.heap.size w w2) := B1.out.trans (hb2.mono B1.out.size)
    clear hb2 B1
    rw [HG.out]
    go_wp2_with fail
    refine (alive_true w2).mono ?_
    rintro e w3 ⟨rfl, hb3⟩
    have B3 : Hid (Below w.heap.size w w3) := B2.out.trans (hb3.mono B2.out.size)
    clear hb3 B2
    go_wp2
    go_ret
    exact ⟨rfl, B3.out⟩
  · have hgf : isGreat l = false := by simpa using hgt
    have HG := Lib.hid hgf
    clear hgt hgf
    have hl80 : l.length ≤ 80 := by
      have := HG.out
      simp only [isGreat, Bool.or_eq_false_iff, decide_eq_false_iff_not] at this
      omega
    have hz80 : Hid (∀ a ∈ l, a.zs.length ≤ 80) := fun a ha => by
      have := HG.out
      simp only [isGreat, Bool.or_eq_false_iff, List.any_eq_false] at this
      have := this.2 a ha
      simp at this
      omega
    go_enter Try.func6, Try.ntmps6
    go_wp2_with fail
    refine (alive_true w).mono ?_
    rintro e w1 ⟨rfl, hb1⟩
    have B1 := Lib.hid hb1
    clear hb1
    go_wp2_with fail
    refine (great_any _ l w1 (HA.out.below B1.out)).mono ?_
    rintro e w2 ⟨rfl, hb2⟩
    have B2 : Hid (Below w.heap.size w w2) := B1.out.trans (hb2.mono B1.out.size)
    clear hb2 B1
    rw [HG.out]
    go_upto_region 3 with (fail)
    go_cut [5] (fun v wc => ∃ rm : Nat, 1 ≤ rm ∧ rm ≤ 40 ∧ v = .int .i64 rm ∧ w2 = wc)
    case first =>
      by_cases hrp : 0 < room
      all_goals
        go_wp2
        go_meet
        case rel =>
          first
          | exact ⟨1, by omega, by omega, rfl, rfl⟩
          | exact ⟨(1 + room % 40).toNat, by omega, by omega, by rw [Int.toNat_of_nonneg (by omega)], rfl⟩
    case rest =>
      obtain ⟨rm, hrm1, hrm2, rfl, rfl⟩ := hcut
      go_wp2_with fail
      refine (New_own (B := w.heap.size) rm w2 B2.out.size (by omega) (by omega)).mono ?_
      rintro e w3 ⟨rfl, hq3, hb3⟩
      have B3 : Hid (QOwn w.heap.size w3 w2.heap.size rm false [] ∧ Below w.heap.size w w3) := ⟨hq3, B2.out.trans (hb3.mono B2.out.size)⟩
      clear hq3 hb3 B2
      generalize w2.heap.size = qa at *
      go_wp2_with fail
      refine (Str.New_yes rm w3 (by omega) (by omega)).mono ?_
      rintro e w4 ⟨rfl, hq4, hb4, -⟩
      have B4 : Hid (∃ ga, Kins w w4 qa w3.heap.size rm false ga none []) := by
        obtain ⟨⟨ga, h1, h2, h3⟩, h4⟩ := B3.out
        exact ⟨ga, h1.below hb4 h1.blk_lt (fun b e => h1.row_lt e), hq4, h2, h4.size, h3, by simp, h4.trans (hb4.mono h4.size), by simp⟩
      clear hq4 hb4 B3
      generalize w3.heap.size = qb at *
      go_wp2_with fail
      go_loopw [56] (fun i wr => ∃ (k : Nat) (en : Bool) (ga gb : Option Nat) (xs : List Int), k ≤ l.length ∧ i = .int .i64 k ∧ Hid (Kins w wr qa qb rm en ga gb xs)) (fun i _ => l.length - (intOf i).toNat)
      case atStart =>
        obtain ⟨g, hg⟩ := B4.out
        exact ⟨0, false, g, none, [], Nat.zero_le _, rfl, hg⟩
      case round =>
        obtain ⟨k, en, ga, gb, xs, hk, rfl, HS⟩ := hrel
        have hxr := HS.out.le
        by_cases hlt : k < l.length
        · obtain ⟨a, ha⟩ : ∃ a, l[k]? = some a := ⟨_, List.getElem?_eq_getElem hlt⟩
          have hza := hz80.out a (List.mem_of_getElem? ha)
          obtain ⟨_, A', c', e', hacts⟩ := HA.out
          injection e' with e1 _ e3
          subst e1 e3
          obtain ⟨b, o, rfl, hx⟩ := hacts (by omega)
          clear hacts
          have HAT := Lib.hid (hx k a ha)
          have hat := HAT.out.below HS.out.below
          have k0 := hat.kind
          have k1 := hat.num
          have k2 := hat.list
          clear hat hx ha
          obtain ⟨kd, nm, AA, cc, zs⟩ := a
          simp only at k0 k1 k2 hza
          go_upto_block 2 with (fail)
          obtain ⟨cb, hcb⟩ : ∃ cb, wr.heap.size = cb := ⟨_, rfl⟩
          have hact := HS.out.kin #[.int .i64 kd, .int .i64 nm, .slice AA zs.length cc]
          rw [hcb] at hact ⊢
          obtain ⟨w5, hw5⟩ : ∃ w5, wr.alloc (.cells #[.int .i64 kd, .int .i64 nm, .slice AA zs.length cc] 34) = w5 := ⟨_, rfl⟩
          rw [hw5] at hact ⊢
          clear hcb hw5
          have j0 : w5.cell? ⟨cb, 0, none⟩ = some (.int .i64 kd) := hact.act.cell 0
          have j1 : w5.cell? ⟨cb, 1, none⟩ = some (.int .i64 nm) := hact.act.cell 1
          have j2 : w5.cell? ⟨cb, 2, none⟩ = some (.slice AA zs.length cc) := hact.act.cell 2
          have HC := Lib.hid hact
          clear hact k0 k1 k2
          by_cases hk0 : kd = 0
          · have hb0 : (kd == 0) = true := by simpa using hk0
            clear hk0
            go_wp2_with fail
            go_loopw [13, 67] (fun v13 i wi => ∃ (j : Nat) (gs : Option Nat), j ≤ zs.length ∧ i = .int .i64 j ∧ Hid (Row wi 9 gs v13 (sv (zs.take j)) ∧ Below w5.heap.size w5 wi ∧ ∀ b, gs = some b → w5.heap.size ≤ b)) (fun _ i _ => zs.length - (intOf i).toNat)
            case atStart => exact ⟨0, none, Nat.zero_le _, rfl, by simpa using Row.nil w5 _, Below.refl _ _, fun b e => by cases e⟩
            case round =>
              obtain ⟨j, gs, hj, rfl, HI⟩ := hrel
              have HK := Lib.hid (HC.out.keep HI.out.2.1)
              obtain ⟨ts, hts⟩ : ∃ ts, zs.take j = ts := ⟨_, rfl⟩
              have htl : ts.length ≤ 80 := by rw [← hts, List.length_take]; omega
              rw [hts] at HI
              obtain ⟨A13, c13, rfl⟩ := HI.out.1.form
              rw [List.length_map] at HI ⊢
              have HTS := Lib.hid hts
              clear hts
              by_cases hjl : j < zs.length
              · obtain ⟨x, hx⟩ : ∃ x, zs[j]?.getD 0 = x := ⟨_, rfl⟩
                obtain ⟨bz, oz, e0, hcell⟩ := (HAT.out.below HK.out.below).rd.ints.2.2 (by simp only; omega)
                simp only at e0 hcell
                subst e0
                have hcx : wr.cell? ⟨bz, oz + j, none⟩ = some (.int .i64 x) := by rw [← hx]; exact hcell j hjl
                have HX := Lib.hid (take_next zs j hjl)
                rw [hx] at HX
                clear hx hcell
                go_wp2_with fail
                refine (text_any x wr).mono ?_
                rintro e w6 ⟨rfl, hb6⟩
                have H6 : Hid (Row w6 9 gs (.slice A13 ts.length c13) (sv ts) ∧ Below w5.heap.size w5 w6) := ⟨HI.out.1.below hb6 (fun b e => HI.out.1.lt e), HI.out.2.1.trans (hb6.mono HI.out.2.1.size)⟩
                clear hb6
                go_wp2_with (at_builtin; refine wpList_append_row _ rfl (.tmp 71) (.tmp 75) _ rfl 9 i0 _ 16 Try.underlying49 hi0 hz0 hz1 hz2 rfl gs _ (sv ts) rfl (H6.out.1.alloc _) _ [.string (txt x)] rfl (Rd.lit w6 9 #[.string (txt x)] 1 rfl (by omega) (by omega) (by simp [Value.oneCell'])) (by simp only [maxLen]; simp; omega) (by simp; omega) ?_; intro A' c' w7 gn hrow' hgr hgn; simp only [List.length_map, List.length_cons, List.length_nil, Nat.zero_add] at hrow'; have Y := Lib.hid (And.intro hrow' (And.intro hgr hgn)); clear hrow' hgr hgn)
                go_roundw
                case rel =>
                  obtain ⟨hrow', hgr, hgn⟩ := Y.out
                  obtain ⟨hr, hb⟩ := H6.out
                  have hg := HI.out.2.2
                  refine ⟨j + 1, gn, by omega, by go_num, ?_, (hb.alloc hb.size _).grown hgr (by have := hb.size; simp; omega) hg, ?_⟩
                  · rw [HX.out, HTS.out, sv, List.map_append]
                    exact hrow'
                  · intro b' e
                    rcases hgn with rfl | rfl
                    · exact hg b' e
                    · have := hb.size; simp at e; omega
                case measure => simp [intOf]; omega
              · obtain rfl : j = zs.length := by omega
                have hts2 : ts = zs := by rw [← HTS.out, List.take_length]
                subst hts2
                have j2' : wr.cell? ⟨cb, 2, none⟩ = some (.slice AA ts.length cc) := HK.out.act.cell 2
                have hput := K_put HK.out (by omega) (by omega) ((HAT.out.below HK.out.below).rd) (by simp only; omega) HI.out.1
                simp only at hput
                have hkz : putN rm en xs.length ts.length ≤ rm - xs.length := putN_le _ _ _ _
                have hsput : ∀ (W : World) (g1 : Option Nat) (xq : List Int), Kin w W qa qb cb rm en en g1 gb xq xs #[.int .i64 kd, .int .i64 nm, .slice AA ts.length cc] → Row W 9 gs (.slice A13 ts.length c13) (sv ts) → Calls Try.prog 30 #[.pointer (some ⟨qb, 0, none⟩), .slice A13 ts.length c13] W fun e w' => e = .returned (.int .i64 (putN rm en xs.length ts.length)) ∧ ∃ gb', Hid (Kin w w' qa qb cb rm en en g1 gb' xq (xs ++ ts.take (putN rm en xs.length ts.length)) #[.int .i64 kd, .int .i64 nm, .slice AA ts.length cc]) :=
                  fun W g1 xq hA hr => K_sput hA (by omega) (by omega) hr.rd (by omega)
                generalize putN rm en xs.length ts.length = kp at *
                have hyl : (ts.take kp).length ≤ kp := List.length_take_le _ _
                generalize ts.take kp = ys at *
                have HPut := Lib.hid hput
                have HSPut := Lib.hid hsput
                clear hput hsput
                go_wp2_with fail
                refine HPut.out.mono ?_
                rintro e w6 ⟨rfl, ga1, H6⟩
                go_wp2_with fail
                refine (HSPut.out _ _ _ H6.out.1 H6.out.2).mono ?_
                rintro e w7 ⟨rfl, gb1, H7⟩
                go_wp2
                go_roundw
                case rel => exact ⟨k + 1, en, ga1, gb1, xs ++ ys, by omega, by go_num, H7.out.kins (by rw [List.length_append]; omega)⟩
                case measure => simp [intOf]; omega
          · have hb0 : (kd == 0) = false := by simpa using hk0
            clear hk0
            by_cases hk1 : kd = 1
            · have hb1 : (kd == 1) = true := by simpa using hk1
              clear hk1
              go_wp2_with fail
              have hop := K_take HC.out.drew (by omega) nm
              have hrop : ∀ (W : World) (g1 : Option Nat) (xq : List Int) (gt : Option Nat) (v : Value), Kin w W qa qb cb rm en en g1 gb xq xs #[.int .i64 kd, .int .i64 nm, .slice AA zs.length cc] → Row W 3 gt v (iv (xs.take nm.toNat)) → Calls Try.prog 31 #[.pointer (some ⟨qb, 0, none⟩), .int .i64 nm] W fun e w' => ∃ As ct gs gb', e = .returned (.slice As (xs.take nm.toNat).length ct) ∧ Hid (Kin w w' qa qb cb rm en en g1 gb' xq (xs.drop nm.toNat) #[.int .i64 kd, .int .i64 nm, .slice AA zs.length cc] ∧ Row w' 9 gs (.slice As (xs.take nm.toNat).length ct) (sv (xs.take nm.toNat)) ∧ Row w' 3 gt v (iv (xs.take nm.toNat))) :=
                fun W g1 xq gt v hA hr => K_stake hA (by omega) nm hr
              have hyl : (xs.take nm.toNat).length ≤ xs.length := by simp; omega
              have hrl : (xs.drop nm.toNat).length ≤ xs.length := by simp
              generalize xs.take nm.toNat = ys at *
              generalize xs.drop nm.toNat = rs at *
              have HOp := Lib.hid hop
              have HROp := Lib.hid hrop
              clear hop hrop
              go_upto_region 23 with (fail)
              go_cut [16, 17] (fun vp vq wc => ∃ (At As : Option Addr) (ct cs : Nat) (gt gs ga1 gb1 : Option Nat), vp = .slice At ys.length ct ∧ vq = .slice As ys.length cs ∧ Hid (Kin w wc qa qb cb rm en en ga1 gb1 rs rs #[.int .i64 kd, .int .i64 nm, .slice AA zs.length cc] ∧ Row wc 9 gs (.slice As ys.length cs) (sv ys) ∧ Row wc 3 gt (.slice At ys.length ct) (iv ys)))
              case first =>
                go_region_held3 (fun w' => w'.cell? ⟨cb, 1, none⟩ = some (.int .i64 nm)) (go_keep) (first
                  | (go_at_call 15; refine HOp.out.mono ?_; rintro e w6 ⟨At, ct, gt, ga1, rfl, H6, c6⟩; have c6' : w6.cell? ⟨cb, 1, none⟩ = some (.int .i64 nm) := c6; clear c6)
                  | (go_at_call 31; refine (HROp.out _ _ _ _ _ (by exact H6.out.1) (by exact H6.out.2)).mono ?_; rintro e w7 ⟨As, cs, gs, gb1, rfl, H7⟩; have c7' : w7.cell? ⟨cb, 1, none⟩ = some (.int .i64 nm) := H7.out.1.act.cell 1))
                all_goals
                  go_wp2
                  go_meet
                  case rel => exact ⟨At, As, ct, cs, gt, gs, ga1, gb1, rfl, rfl, H7.out⟩
              case rest =>
                obtain ⟨At, As, ct, cs, gt, gs, ga1, gb1, rfl, rfl, HT⟩ := hcut
                clear HC HS HAT j0 j1 j2
                go_wp2_with fail
                go_loopw [103] (fun i wi => ∃ (j : Nat), j ≤ ys.length ∧ i = .int .i64 j ∧ Hid (Below wc.heap.size wc wi)) (fun i _ => ys.length - (intOf i).toNat)
                case atStart => exact ⟨0, Nat.zero_le _, rfl, Below.refl _ _⟩
                case round =>
                  obtain ⟨j, hj, rfl, HI⟩ := hrel
                  by_cases hjl : j < ys.length
                  · obtain ⟨x, hx⟩ : ∃ x, ys[j]?.getD 0 = x := ⟨_, rfl⟩
                    have hr1 := HT.out.2.2.below HI.out (fun b e => HT.out.2.2.lt e)
                    have hr2 := HT.out.2.1.below HI.out (fun b e => HT.out.2.1.lt e)
                    obtain ⟨bp, op, rfl, hc1⟩ := hr1.ints.2 (by omega)
                    obtain ⟨bs, os, rfl, hc2⟩ := hr2.texts (by omega)
                    have d1 := hc1 j hjl
                    have d2 := hc2 j hjl
                    rw [hx] at d1 d2
                    have hlt1 := World.block_lt_of_cell? wr _ d1
                    have hlt2 := World.block_lt_of_cell? wr _ d2
                    have hj0 : (0 : Int) ≤ j := by omega
                    have hj1 : (j : Int) < ys.length := by omega
                    clear hr1 hr2 hc1 hc2 hx
                    go_wp2_with fail
                    go_region_held3 (fun w' => w'.cell? ⟨bp, op + j, none⟩ = some (.int .i64 x) ∧ w'.cell? ⟨bs, os + j, none⟩ = some (.string (txt x))) (go_keep) (first
                      | (go_at_call 29; refine (text_any x _).mono ?_; rintro e w8 ⟨rfl, hb8⟩; have d3 := (hb8.cell (p := ⟨bp, op + j, none⟩) hlt1).trans d1; have d4 := (hb8.cell (p := ⟨bs, os + j, none⟩) hlt2).trans d2; have H8 : Hid (Below wc.heap.size wc w8) := HI.out.drew.trans (hb8.mono HI.out.size); clear hb8))
                    all_goals
                      go_wp2
                      go_roundw
                      case rel => exact ⟨j + 1, by omega, by go_num, H8.out⟩
                      case measure => simp [intOf]; omega
                  · obtain rfl : j = ys.length := by omega
                    go_wp2
                    go_roundw
                    case rel => exact ⟨k + 1, en, ga1, gb1, rs, by omega, by go_num, (HT.out.1.keep HI.out).kins (by omega)⟩
                    case measure => simp [intOf]; omega
            · have hb1 : (kd == 1) = false := by simpa using hk1
              clear hk1
              by_cases hk3 : kd = 3
              · have hb3 : (kd == 3) = true := by simpa using hk3
                clear hk3
                go_wp2_with fail
                refine (K_end HC.out).mono ?_
                rintro e w6 ⟨rfl, H6⟩
                go_wp2_with fail
                refine (K_send H6.out).mono ?_
                rintro e w7 ⟨rfl, H7⟩
                go_wp2
                go_roundw
                case rel => exact ⟨k + 1, true, ga, gb, xs, by omega, by go_num, H7.out.kins (by omega)⟩
                case measure => simp [intOf]; omega
              · have hb3 : (kd == 3) = false := by simpa using hk3
                clear hk3
                go_wp2
                go_roundw
                case rel => exact ⟨k + 1, en, ga, gb, xs, by omega, by go_num, HC.out.kins (by omega)⟩
                case measure => simp [intOf]; omega
        · obtain rfl : k = l.length := by omega
          have PL := Len_at HS.out.a
          have PS := Str.Len_at HS.out.b
          rw [List.length_map] at PL PS
          have HPL := Lib.hid PL
          have HPS := Lib.hid PS
          clear PL PS
          go_wp2_with fail
          refine HPL.out.mono ?_
          rintro e w6 ⟨rfl, rfl⟩
          go_wp2_with fail
          refine HPS.out.mono ?_
          rintro e w6 ⟨rfl, rfl⟩
          go_wp2_with fail
          have hov : (en && (iv xs).isEmpty) = (en && (sv xs).isEmpty) := by cases xs <;> rfl
          have P1 := Over_at HS.out.a
          have P2 := Str.Over_at HS.out.b
          rw [hov] at P1
          clear hov
          generalize (en && (sv xs).isEmpty) = ov at *
          have HP2 := Lib.hid P2
          clear P2
          refine P1.mono ?_
          clear P1
          rintro e w6 ⟨rfl, rfl⟩
          go_wp2_with fail
          refine HP2.out.mono ?_
          rintro e w6 ⟨rfl, rfl⟩
          go_wp2
          go_ret
          exact ⟨by simp, HS.out.below⟩
end Go.Proofs.Ytdlcilhgpnlhjaa
