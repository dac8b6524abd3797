/-
  The law EnvWords.
  Conditions: none but what is known of arguments.
-/
import Derived.Test.YteapcahpkapbbaaEnOps
namespace Go.Proofs.Yteapcahpkapbbaa
open Go.RowKit

/-- What is set. -/
def setsV (l : List EAct) : Vrs := l.foldl (fun L x => if x.kind = 0 then (setV L x.name x.value).2 else L) []
theorem sets_snoc (l : List EAct) (x : EAct) : setsV (l ++ [x]) = if x.kind = 0 then (setV (setsV l) x.name x.value).2 else setsV l := by simp [setsV]
theorem word_none {L : Vrs} {ps : List Prt} (h : (wordV L ps).1 ≠ 0) : (wordV L ps).2 = [] := by
  unfold wordV at h ⊢
  split
  · rfl
  · split
    · rfl
    · rename_i s hs hl; rw [hs] at h; dsimp only at h; rw [if_neg hl] at h; exact absurd rfl h
theorem word_zero {L : Vrs} {ps : List Prt} (h : (wordV L ps).1 = 0) : catV L ps = some (wordV L ps).2 ∧ (wordV L ps).2.length ≤ 16777216 := by
  unfold wordV at h ⊢
  split
  · rename_i hs; rw [hs] at h; cases h
  · rename_i s hs
    rw [hs] at h
    dsimp only at h
    split
    · rename_i hl; rw [if_pos hl] at h; cases h
    · rename_i hl; exact ⟨hs, Nat.le_of_not_lt hl⟩
theorem word_both (L : Vrs) (a b : List Prt) : ((wordV L a).1 = 0 ∧ (wordV L b).1 = 0 ∧ (wordV L (a ++ b) = (0, (wordV L a).2 ++ (wordV L b).2) ∨ wordV L (a ++ b) = (6, []))) ∨ (((wordV L a).1 ≠ 0 ∨ (wordV L b).1 ≠ 0) ∧ (wordV L (a ++ b)).1 ≠ 0 ∧ (wordV L (a ++ b)).2 = []) := by
  by_cases hab : (wordV L a).1 = 0 ∧ (wordV L b).1 = 0
  · obtain ⟨h1, h2⟩ := hab
    obtain ⟨c1, l1⟩ := word_zero h1
    obtain ⟨c2, l2⟩ := word_zero h2
    refine .inl ⟨h1, h2, ?_⟩
    rw [show wordV L (a ++ b) = (match catV L (a ++ b) with | none => (8, []) | some s => if 16777216 < s.length then (6, []) else (0, s)) from rfl, cat_append, c1, c2]
    simp only [Option.bind_some, Option.map_some]
    split
    · exact .inr rfl
    · exact .inl rfl
  · have hor : (wordV L a).1 ≠ 0 ∨ (wordV L b).1 ≠ 0 := by
      rcases Classical.em ((wordV L a).1 = 0) with h1 | h1
      · exact .inr fun h2 => hab ⟨h1, h2⟩
      · exact .inl h1
    have hne : (wordV L (a ++ b)).1 ≠ 0 := by
      intro h0
      obtain ⟨c0, l0⟩ := word_zero h0
      rw [cat_append] at c0
      cases ca : catV L a with
      | none => rw [ca] at c0; cases c0
      | some s =>
        cases cb : catV L b with
        | none => rw [ca, cb] at c0; cases c0
        | some t =>
          rw [ca, cb] at c0
          simp only [Option.bind_some, Option.map_some, Option.some.injEq] at c0
          rw [← c0, List.length_append] at l0
          rcases hor with h | h
          · exact h (by rw [wordV, ca]; dsimp only; rw [if_neg (by omega)])
          · exact h (by rw [wordV, cb]; dsimp only; rw [if_neg (by omega)])
    exact .inr ⟨hor, hne, word_none hne⟩
theorem word_one {L : Vrs} (hL : VarsOk L) {n x : List Nat} (h : getV L n = some x) : wordV L [⟨true, n⟩] = (0, x) := by
  have hx := (ok_get hL h).2
  rw [wordV, catV, partV, if_pos rfl, h]
  simp only [catV, Option.bind_some, Option.map_some, List.append_nil]
  rw [if_neg (by omega)]
theorem ps_ok {ps : List Prt} (h : PartsIn ps) (hl : ps.length ≤ 1000) (hs : ∀ p ∈ ps, p.s.length ≤ 140737488351232) : PsOk ps := ⟨hl, fun p hp => ⟨(h.1 p hp).1, by have := hs p hp; omega⟩⟩

set_option maxRecDepth 100000 in
set_option maxHeartbeats 8000000 in
theorem words_true (v : Value) (l : List EAct) (va vb : Value) (a b : List Prt) (w : World) (h : EActs all w v l) (hin : ∀ x ∈ l, EActIn x) (hl : l.length ≤ maxLen) (ha : Prts all w va a) (hai : PartsIn a) (hb : Prts all w vb b) (hbi : PartsIn b) (hsa : ∀ p ∈ a, p.s.length ≤ 140737488351232) (hsb : ∀ p ∈ b, p.s.length ≤ 140737488351232) :
    Calls Try.prog 7 #[v, va, vb] w fun e w' => e = .returned (.bool true) ∧ Below w.heap.size w w' := by
  obtain ⟨A0, c0, rfl, -⟩ := h.form
  obtain ⟨Aa, ca, rfl, -⟩ := ha.form
  obtain ⟨Ab, cb, rfl, -⟩ := hb.form
  simp only [maxLen] at hl
  have hal := hai.2
  have hbl := hbi.2
  simp only [maxLen] at hal hbl
  have HL := Lib.hid h
  have HI := Lib.hid hin
  have HAB := Lib.hid (And.intro ha hb)
  have HII : Hid (a.length ≤ 50 → b.length ≤ 50 → PsOk a ∧ PsOk b ∧ PsOk (a ++ b)) := Lib.hid fun h1 h2 => ⟨ps_ok hai (by omega) hsa, ps_ok hbi (by omega) hsb, by rw [List.length_append]; omega, fun p hp => by
    rcases List.mem_append.1 hp with hp | hp
    · exact (ps_ok hai (by omega) hsa).2 p hp
    · exact (ps_ok hbi (by omega) hsb).2 p hp⟩
  have HG := Lib.hid (fun W (hW : Below w.heap.size w W) => great_is (.slice A0 l.length c0) l W (SlI.below eact_ok h hW) (by omega) hin)
  clear h hin ha hb hai hbi hsa hsb
  go_enter Try.func7, Try.ntmps7
  go_wp2_with fail
  refine (new_1 (Below.refl _ w)).mono ?_
  rintro e w1 ⟨q, rfl, hm⟩
  have X1 := Lib.hid hm
  clear hm
  go_wp2_with fail
  refine (alive_true _).mono ?_
  rintro e w2 ⟨rfl, hbw⟩
  have X2 := Lib.hid (X1.out.keep (env_framed _ _) hbw)
  have HG2 := Lib.hid (HG.out w2 X2.out.below)
  clear hbw X1 HG
  cases hbig : bigE l with
  | true =>
    rw [hbig] at HG2
    go_wp2_with fail
    refine HG2.out.mono ?_
    rintro e w3 ⟨rfl, hbw⟩
    have X3 := Lib.hid (X2.out.below.trans (hbw.mono X2.out.below.size))
    clear hbw
    go_wp2_with fail
    refine (alive_true _).mono ?_
    rintro e w4 ⟨rfl, hbw⟩
    have X4 := Lib.hid (X3.out.trans (hbw.mono X3.out.size))
    clear hbw
    go_wp2_with fail
    go_ret
    exact ⟨rfl, X4.out⟩
  | false =>
    obtain ⟨hl3, hsm⟩ := bigE_small hbig
    have HSM := Lib.hid hsm
    rw [hbig] at HG2
    clear hbig hsm
    by_cases hlen : 50 < a.length ∨ 50 < b.length
    · have d1 : decide ((50 : Int) < (a.length : Int)) = true ∨ (decide ((50 : Int) < (a.length : Int)) = false ∧ decide ((50 : Int) < (b.length : Int)) = true) := by
        rcases Nat.lt_or_ge 50 a.length with h1 | h1
        · exact .inl (decide_eq_true (by omega))
        · exact .inr ⟨decide_eq_false (by omega), decide_eq_true (by omega)⟩
      clear hlen
      rcases d1 with d1 | ⟨d1, d2⟩
      all_goals
        go_wp2_with fail
        refine HG2.out.mono ?_
        rintro e w3 ⟨rfl, hbw⟩
        have X3 := Lib.hid (X2.out.below.trans (hbw.mono X2.out.below.size))
        clear hbw
        go_wp2_with fail
        refine (alive_true _).mono ?_
        rintro e w4 ⟨rfl, hbw⟩
        have X4 := Lib.hid (X3.out.trans (hbw.mono X3.out.size))
        clear hbw
        go_wp2_with fail
        go_ret
        exact ⟨rfl, X4.out⟩
    · have d1 : decide ((50 : Int) < (a.length : Int)) = false := decide_eq_false (by omega)
      have d2 : decide ((50 : Int) < (b.length : Int)) = false := decide_eq_false (by omega)
      have hab50 : a.length ≤ 50 ∧ b.length ≤ 50 := by omega
      clear hlen
      go_wp2_with fail
      refine HG2.out.mono ?_
      rintro e w3 ⟨rfl, hbw⟩
      have X3 := Lib.hid (X2.out.keep (env_framed _ _) hbw)
      clear hbw HG2 X2
      go_wp2_with fail
      go_loopw [50] (fun iv wr => ∃ i : Nat, i ≤ l.length ∧ iv = .int .i64 (i : Nat) ∧ Hid (Has (EnvT q (setsV (l.take i))) (fun _ => False) w wr)) (fun iv _ => l.length - (intOf iv).toNat)
      case atStart => exact ⟨0, by omega, rfl, X3⟩
      case round =>
        obtain ⟨i, hi, rfl, HW⟩ := hrel
        clear X3
        by_cases hlt : i < l.length
        · obtain ⟨x, hx⟩ : ∃ x, l[i]? = some x := ⟨_, List.getElem?_eq_getElem hlt⟩
          obtain ⟨bb, o, rfl, -, k0, k1, k2, k3, k4, v5, k5, hps⟩ := (SlI.below eact_ok HL.out HW.out.below).at_ hx
          obtain ⟨D, dd, rfl, -⟩ := hps.form
          have hxi := HI.out x (List.mem_of_getElem? hx)
          have HT : Hid (l.take (i + 1) = l.take i ++ [x]) := Lib.hid (by rw [List.take_add_one, hx]; rfl)
          have hxs := HSM.out x (List.mem_of_getElem? hx)
          have X4 := Lib.hid (HW.out.keep (env_framed _ _) ((Below.refl wr.heap.size wr).alloc (Nat.le_refl _) (.cells #[.int .i64 x.kind, .string (str x.name), .string (str x.value), .int .i64 x.w.at_, .int .i64 x.w.kind, .slice D x.w.parts.length dd] 35)))
          have HS := Lib.hid (set_1 X4.out x.name x.value hxi.1.1 hxi.2.1.1 (by omega) (by omega))
          clear hx hps hxi hxs
          by_cases hk : x.kind = 0
          · have HN : Hid (setsV (l.take (i + 1)) = (setV (setsV (l.take i)) x.name x.value).2) := Lib.hid (by rw [HT.out, sets_snoc, if_pos hk])
            rw [hk] at HS X4
            go_wp2_with fail
            refine HS.out.mono ?_
            rintro e w5 ⟨rfl, hm, -⟩
            have X5 := Lib.hid hm
            clear hm HS HW X4
            go_wp2_with fail
            go_roundw
            case rel => exact ⟨i + 1, by omega, by go_num, Lib.hid (by rw [HN.out]; exact X5.out)⟩
            case measure => simp [intOf]; omega
          · have HN : Hid (setsV (l.take (i + 1)) = setsV (l.take i)) := Lib.hid (by rw [HT.out, sets_snoc, if_neg hk])
            have q0 : (x.kind == 0) = false := beq_eq_false_iff_ne.2 hk
            clear HS HW
            go_wp2_with fail
            go_roundw
            case rel => exact ⟨i + 1, by omega, by go_num, Lib.hid (by rw [HN.out]; exact X4.out)⟩
            case measure => simp [intOf]; omega
        · obtain rfl : i = l.length := by omega
          rw [List.take_length] at HW
          generalize setsV l = L at *
          have HN := Lib.hid (names_2 HW.out)
          have HOK := Lib.hid (has_ok HW.out)
          obtain ⟨M, hM⟩ : ∃ M, M = (namesV L).length := ⟨_, rfl⟩
          rw [← hM] at HN
          have HM := Lib.hid hM
          have hM2 : M ≤ 256 := by rw [hM, namesV, sort_len, List.length_map]; exact HOK.out.1.1
          clear hM
          go_wp2_with fail
          refine HN.out.mono ?_
          rintro e w4 ⟨A, c, go, rfl, hrow, hgo, hm, -⟩
          have X4 := Lib.hid (And.intro hrow hm)
          clear hrow hm HN HW
          go_wp2_with fail
          go_loopw [67] (fun jv wr => ∃ j : Nat, j ≤ M ∧ jv = .int .i64 (j : Nat) ∧ Hid (Row wr 9 go (.slice A M c) (sv (namesV L))) ∧ Hid (Has (EnvT q L) (fun x => False ∨ go = some x) w wr)) (fun jv _ => M - (intOf jv).toNat)
          case atStart => exact ⟨0, by omega, rfl, Lib.hid X4.out.1, Lib.hid X4.out.2⟩
          case round =>
            obtain ⟨j, hj, rfl, HR, HE⟩ := hrel
            clear X4
            by_cases hjl : j < M
            · obtain ⟨n, hn⟩ : ∃ n, (namesV L)[j]? = some n := ⟨_, List.getElem?_eq_getElem (by rw [← HM.out]; exact hjl)⟩
              obtain ⟨A', c', e3, hle, h1, hx⟩ := HR.out.rd
              injection e3 with e4 e5 e6
              obtain ⟨b5, o5, e7, hcell⟩ := hx (by rw [sv_len, ← HM.out]; omega)
              have q0 : wr.cell? ⟨b5, o5 + j, none⟩ = some (.string (str n)) := hcell j _ (sv_at hn)
              subst e4 e7
              have hmem : n ∈ L.map (·.1) := sort_mem.1 (List.mem_of_getElem? hn)
              obtain ⟨p, hp, hpn⟩ := List.mem_map.1 hmem
              have hnb : (∀ c ∈ n, c < 256) ∧ n.length ≤ 64 := by rw [← hpn]; exact ⟨(HOK.out.1.2 p hp).1, (HOK.out.1.2 p hp).2.2.2⟩
              obtain ⟨x, hg⟩ : ∃ x, getV L n = some x := by
                cases hg : getV L n with
                | none => exact absurd hmem (get_none.1 hg)
                | some x => exact ⟨x, rfl⟩
              have hal := (Below.refl wr.heap.size wr).alloc (Nat.le_refl _) (.cells #[.bool true, .string (str n)] 57)
              have HW1 := word_1 (HE.out.keep (env_framed _ _) hal) 0 0 _ _ (prts_new wr [⟨true, n⟩] #[.bool true, .string (str n)] 1 rfl rfl) ⟨by simp, by simp; exact ⟨hnb.1, by omega⟩⟩
              rw [word_one HOK.out.1 hg, show wordE (0, x) = .tuple #[.string (str x), .int .i64 0] from rfl] at HW1
              have HW2 := Lib.hid HW1
              have HR2 := Lib.hid (HR.out.below hal fun x hx => HR.out.lt hx)
              have HNB := Lib.hid hnb
              have HGV := Lib.hid hg
              have r1 : decide ((j : Int) < (M : Int)) = true := decide_eq_true (by omega)
              clear hn hx hle h1 hcell e5 hmem hp hpn hal HW1 hg hnb
              subst e6
              go_wp2_with fail
              refine HW2.out.mono ?_
              rintro e w5 ⟨rfl, hm, hb5⟩
              have X5 := Lib.hid hm
              have R5 := Lib.hid (HR2.out.below hb5 fun x hx => HR2.out.lt hx)
              have HG5 := get_1 X5.out n HNB.out.1 (by have := HNB.out.2; omega)
              rw [HGV.out, show getE (some x) = .tuple #[.string (str x), .bool true] from rfl] at HG5
              have HG6 := Lib.hid HG5
              clear hm hb5 HW2 HG5 HE HR HR2
              go_wp2_with fail
              refine HG6.out.mono ?_
              rintro e w6 ⟨rfl, hm, hb6⟩
              have X6 := Lib.hid hm
              have R6 := Lib.hid (R5.out.below hb6 fun x hx => R5.out.lt hx)
              clear hm hb6 HG6 X5 R5
              go_wp2_with fail
              go_roundw
              case rel => exact ⟨j + 1, by omega, by go_num, R6, X6⟩
              case measure => simp [intOf]; omega
            · obtain rfl : j = M := by omega
              have HWa := Lib.hid (word_1 HE.out 0 2 (.slice Aa a.length ca) a (SlI.below prt_ok HAB.out.1 HE.out.below) (HII.out hab50.1 hab50.2).1)
              have EB := Lib.hid (word_both L a b)
              obtain ⟨ra, hra⟩ : ∃ r, r = wordV L a := ⟨_, rfl⟩
              obtain ⟨rb, hrb⟩ : ∃ r, r = wordV L b := ⟨_, rfl⟩
              obtain ⟨rc, hrc⟩ : ∃ r, r = wordV L (a ++ b) := ⟨_, rfl⟩
              rw [← hra, ← hrb, ← hrc] at EB
              rw [← hra] at HWa
              obtain ⟨ka, sa⟩ := ra
              obtain ⟨kb, sb⟩ := rb
              obtain ⟨kc, sc⟩ := rc
              dsimp only at EB
              rw [show wordE (ka, sa) = .tuple #[.string (str sa), .int .i64 (ka : Nat)] from rfl] at HWa
              have HZ : Hid (ka = 0 → kb = 0 → sa.length ≤ 16777216 ∧ sb.length ≤ 16777216) := Lib.hid fun h1 h2 => ⟨by have := (word_zero (L := L) (ps := a) (by rw [← hra]; exact h1)).2; rw [← hra] at this; exact this, by have := (word_zero (L := L) (ps := b) (by rw [← hrb]; exact h2)).2; rw [← hrb] at this; exact this⟩
              have HRR := Lib.hid (And.intro hrb hrc)
              clear hra hrb hrc
              go_wp2_with fail
              refine HWa.out.mono ?_
              rintro e w5 ⟨rfl, hm, -⟩
              have X5 := Lib.hid hm
              have HWb := Lib.hid (word_1 X5.out 0 0 (.slice Ab b.length cb) b (SlI.below prt_ok HAB.out.2 X5.out.below) (HII.out hab50.1 hab50.2).2.1)
              rw [← HRR.out.1, show wordE (kb, sb) = .tuple #[.string (str sb), .int .i64 (kb : Nat)] from rfl] at HWb
              clear hm HWa HE
              go_wp2_with fail
              refine HWb.out.mono ?_
              rintro e w6 ⟨rfl, hm, -⟩
              have X6 := Lib.hid hm
              clear hm HWb X5
              obtain ⟨A5, c5, w7, A7, c7, w8, hrun5, hrun7, hb8, hp8⟩ := joined_p (SlI.below prt_ok HAB.out.1 X6.out.below) (SlI.below prt_ok HAB.out.2 X6.out.below) (by omega)
              have HWc := Lib.hid (word_1 (X6.out.keep (env_framed _ _) hb8) 0 9 (.slice A7 (a.length + b.length) c7) (a ++ b) hp8 (HII.out hab50.1 hab50.2).2.2)
              clear hb8 hp8
              rw [← HRR.out.2, show wordE (kc, sc) = .tuple #[.string (str sc), .int .i64 (kc : Nat)] from rfl] at HWc
              go_wp2_with (first
                | (at_builtin; refine wpList_append_runG rfl (.tmp 110) (.tmp 111) 31 rfl (.slice (some ⟨w6.heap.size, 0, none⟩) 0 0) (.slice Aa a.length ca) (.slice A5 a.length c5) w7 rfl rfl ?hh ?_; (case hh => with_reducible exact hrun5))
                | (at_builtin; refine wpList_append_runG rfl (.tmp 112) (.tmp 113) 31 rfl (.slice A5 a.length c5) (.slice Ab b.length cb) (.slice A7 (a.length + b.length) c7) w8 rfl rfl ?hh ?_; (case hh => with_reducible exact hrun7)))
              refine HWc.out.mono ?_
              rintro e w9 ⟨rfl, hm, -⟩
              have X9 := Lib.hid hm.below
              clear hm HWc X6 hrun5 hrun7
              rcases EB.out with ⟨h1, h2, h3⟩ | ⟨h1, h2, h3⟩
              · subst h1 h2
                obtain ⟨z1, z2⟩ := HZ.out rfl rfl
                have y1 := str_len sa
                have y2 := str_len sb
                have l2 : (9223372036854775807 < sa.length + sb.length) = False := eq_false (by omega)
                clear EB HZ HRR z1 z2
                rcases h3 with h3 | h3
                · injection h3 with e1 e2
                  subst e1 e2
                  rw [← str_app]
                  go_wp2_with fail
                  go_ret
                  exact ⟨rfl, X9.out⟩
                · injection h3 with e1 e2
                  subst e1 e2
                  go_wp2_with fail
                  go_ret
                  exact ⟨rfl, X9.out⟩
              · have g0 : ((kc : Int) == 0) = false := beq_eq_false_iff_ne.2 (by omega)
                have g0' : ((kc : Int) != 0) = true := by rw [bne, g0]; rfl
                have gE : (str []).toList.isEmpty = true := by rw [str_nil, ByteArray.toList_eq]; rfl
                subst h3
                rcases (show ka ≠ 0 ∨ (ka = 0 ∧ kb ≠ 0) by omega) with k1 | ⟨k1, k2⟩
                · have g1 : ((ka : Int) == 0) = false := beq_eq_false_iff_ne.2 (by omega)
                  clear EB HZ HRR h1
                  go_wp2_with fail
                  go_ret
                  exact ⟨rfl, X9.out⟩
                · subst k1
                  have g1 : ((kb : Int) == 0) = false := beq_eq_false_iff_ne.2 (by omega)
                  clear EB HZ HRR h1
                  go_wp2_with fail
                  go_ret
                  exact ⟨rfl, X9.out⟩
end Go.Proofs.Yteapcahpkapbbaa
