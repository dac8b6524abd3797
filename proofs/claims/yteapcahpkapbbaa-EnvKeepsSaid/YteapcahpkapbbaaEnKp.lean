/-
  The law EnvKeeps.
  Conditions: none but what is known of arguments.
-/
import Derived.Test.YteapcahpkapbbaaEnWd
import Derived.Test.YteapcahpkapbbaaMpS
import Derived.Carry
namespace Go.Proofs.Yteapcahpkapbbaa
open Go.RowKit

/-- What was set, name by name. -/
def wasV (L : Vrs) (NM : List (List Nat)) : Vrs := NM.map fun n => (n, (getV L n).getD [])
theorem was_names (L : Vrs) (NM : List (List Nat)) : (wasV L NM).map (·.1) = NM := by simp [wasV, Function.comp_def]
theorem was_get (L : Vrs) (NM : List (List Nat)) (s : List Nat) : getV (wasV L NM) s = if s ∈ NM then some ((getV L s).getD []) else none := by
  induction NM with
  | nil => rfl
  | cons n t ih =>
    rw [show wasV L (n :: t) = (n, (getV L n).getD []) :: wasV L t from rfl, getV, ih]
    by_cases h : n = s
    · subst h; rw [if_pos rfl, if_pos (by simp)]
    · rw [if_neg h]
      by_cases h2 : s ∈ t
      · rw [if_pos h2, if_pos (by simp [h2])]
      · rw [if_neg h2, if_neg (by simp [h2]; exact fun e => h e.symm)]
theorem was_put {L : Vrs} {NM : List (List Nat)} {n : List Nat} (h : n ∉ NM) : putV (wasV L NM) n ((getV L n).getD []) = wasV L (NM ++ [n]) := by
  have hno : ∀ j, j < (wasV L NM).length → ∀ p, (wasV L NM)[j]? = some p → p.1 ≠ n := fun j _ p hp e => h (by rw [← e, ← was_names L NM]; exact List.mem_map.2 ⟨p, List.mem_of_getElem? hp, rfl⟩)
  rw [(get_no hno).2]; simp [wasV]
theorem was_all {L : Vrs} (s : List Nat) : getV (wasV L (namesV L)) s = getV L s := by
  rw [was_get]
  cases hg : getV L s with
  | none => rw [if_neg fun h : s ∈ namesV L => (get_none.1 hg) (sort_mem.1 h)]
  | some x =>
    have hm : s ∈ namesV L := sort_mem.2 (by
      rcases Classical.em (s ∈ L.map (·.1)) with h | h
      · exact h
      · rw [get_none.2 h] at hg; cases hg)
    rw [if_pos hm]; rfl
theorem names_nodup {L : Vrs} (h : (L.map (·.1)).Nodup) : (namesV L).Nodup := (sort_strict h).imp fun {a b} hl e => by rw [e, less_self] at hl; cases hl
theorem set_same {l : Vrs} {n v : List Nat} (h : (setV l n v).1 ≠ 0) : (setV l n v).2 = l := by
  unfold setV at h ⊢
  split
  · rfl
  · split
    · rfl
    · split
      · rfl
      · rename_i h1 h2 h3
        rw [if_neg h1, if_neg h2, if_neg h3] at h
        exact absurd rfl h

set_option maxRecDepth 100000 in
set_option maxHeartbeats 8000000 in
theorem keeps_true (v : Value) (l : List EAct) (nm vl : List Nat) (w : World) (h : EActs all w v l) (hin : ∀ x ∈ l, EActIn x) (hl : l.length ≤ maxLen) (hnm : ∀ c ∈ nm, c < 256) (hnl : nm.length ≤ 9223372036854775807) (hvb : ∀ c ∈ vl, c < 256) (hvl : vl.length ≤ 9223372036854775807) :
    Calls Try.prog 6 #[v, .string (str nm), .string (str vl)] w fun e w' => e = .returned (.bool true) ∧ Below w.heap.size w w' := by
  obtain ⟨A0, c0, rfl, -⟩ := h.form
  simp only [maxLen] at hl
  have hvs := str_len vl
  have HL := Lib.hid h
  have HI := Lib.hid hin
  have HNV := Lib.hid (And.intro hnm (And.intro hvb (And.intro hnl hvl)))
  have HG := Lib.hid (fun W (hW : Below w.heap.size w W) => great_is (.slice A0 l.length c0) l W (SlI.below eact_ok h hW) (by omega) hin)
  clear h hin hnm hvb
  go_enter Try.func6, Try.ntmps6
  go_wp2_with fail
  refine (new_1 (Below.refl _ w)).mono ?_
  rintro e w1 ⟨q, rfl, hm⟩
  have X1 := Lib.hid hm
  clear hm
  go_wp2_with fail
  refine (alive_true _).mono ?_
  rintro e w2 ⟨rfl, hbw⟩
  have X2 := Lib.hid (X1.out.keep (env_framed _ _) hbw)
  have HG2 := Lib.hid (HG.out w2 X2.out.below)
  clear hbw X1 HG
  cases hbig : bigE l with
  | true =>
    rw [hbig] at HG2
    go_wp2_with fail
    refine HG2.out.mono ?_
    rintro e w3 ⟨rfl, hbw⟩
    have X3 := Lib.hid (X2.out.below.trans (hbw.mono X2.out.below.size))
    clear hbw
    go_wp2_with fail
    refine (alive_true _).mono ?_
    rintro e w4 ⟨rfl, hbw⟩
    have X4 := Lib.hid (X3.out.trans (hbw.mono X3.out.size))
    clear hbw
    go_wp2_with fail
    go_ret
    exact ⟨rfl, X4.out⟩
  | false =>
    obtain ⟨hl3, hsm⟩ := bigE_small hbig
    have HSM := Lib.hid hsm
    rw [hbig] at HG2
    clear hbig hsm
    by_cases hlen : 1000 < vl.length
    · have d1 : decide ((1000 : Int) < (vl.length : Int)) = true := decide_eq_true (by omega)
      clear hlen
      go_wp2_with fail
      refine HG2.out.mono ?_
      rintro e w3 ⟨rfl, hbw⟩
      have X3 := Lib.hid (X2.out.below.trans (hbw.mono X2.out.below.size))
      clear hbw
      go_wp2_with fail
      refine (alive_true _).mono ?_
      rintro e w4 ⟨rfl, hbw⟩
      have X4 := Lib.hid (X3.out.trans (hbw.mono X3.out.size))
      clear hbw
      go_wp2_with fail
      go_ret
      exact ⟨rfl, X4.out⟩
    · have d1 : decide ((1000 : Int) < (vl.length : Int)) = false := decide_eq_false (by omega)
      have hv1000 : vl.length ≤ 1000 := by omega
      clear hlen
      go_wp2_with fail
      refine HG2.out.mono ?_
      rintro e w3 ⟨rfl, hbw⟩
      have X3 := Lib.hid (X2.out.keep (env_framed _ _) hbw)
      clear hbw HG2 X2
      go_wp2_with fail
      go_loopw [45] (fun iv wr => ∃ i : Nat, i ≤ l.length ∧ iv = .int .i64 (i : Nat) ∧ Hid (Has (EnvT q (setsV (l.take i))) (fun _ => False) w wr)) (fun iv _ => l.length - (intOf iv).toNat)
      case atStart => exact ⟨0, by omega, rfl, X3⟩
      case round =>
        obtain ⟨i, hi, rfl, HW⟩ := hrel
        clear X3
        by_cases hlt : i < l.length
        · obtain ⟨x, hx⟩ : ∃ x, l[i]? = some x := ⟨_, List.getElem?_eq_getElem hlt⟩
          obtain ⟨bb, o, rfl, -, k0, k1, k2, k3, k4, v5, k5, hps⟩ := (SlI.below eact_ok HL.out HW.out.below).at_ hx
          obtain ⟨D, dd, rfl, -⟩ := hps.form
          have hxi := HI.out x (List.mem_of_getElem? hx)
          have HT : Hid (l.take (i + 1) = l.take i ++ [x]) := Lib.hid (by rw [List.take_add_one, hx]; rfl)
          have hxs := HSM.out x (List.mem_of_getElem? hx)
          have X4 := Lib.hid (HW.out.keep (env_framed _ _) ((Below.refl wr.heap.size wr).alloc (Nat.le_refl _) (.cells #[.int .i64 x.kind, .string (str x.name), .string (str x.value), .int .i64 x.w.at_, .int .i64 x.w.kind, .slice D x.w.parts.length dd] 35)))
          have HS := Lib.hid (set_1 X4.out x.name x.value hxi.1.1 hxi.2.1.1 (by omega) (by omega))
          clear hx hps hxi hxs
          by_cases hk : x.kind = 0
          · have HN : Hid (setsV (l.take (i + 1)) = (setV (setsV (l.take i)) x.name x.value).2) := Lib.hid (by rw [HT.out, sets_snoc, if_pos hk])
            rw [hk] at HS X4
            go_wp2_with fail
            refine HS.out.mono ?_
            rintro e w5 ⟨rfl, hm, -⟩
            have X5 := Lib.hid hm
            clear hm HS HW X4
            go_wp2_with fail
            go_roundw
            case rel => exact ⟨i + 1, by omega, by go_num, Lib.hid (by rw [HN.out]; exact X5.out)⟩
            case measure => simp [intOf]; omega
          · have HN : Hid (setsV (l.take (i + 1)) = setsV (l.take i)) := Lib.hid (by rw [HT.out, sets_snoc, if_neg hk])
            have q0 : (x.kind == 0) = false := beq_eq_false_iff_ne.2 hk
            clear HS HW
            go_wp2_with fail
            go_roundw
            case rel => exact ⟨i + 1, by omega, by go_num, Lib.hid (by rw [HN.out]; exact X4.out)⟩
            case measure => simp [intOf]; omega
        · obtain rfl : i = l.length := by omega
          rw [List.take_length] at HW
          generalize setsV l = L at *
          have XM := Lib.hid (HW.out.more (env_framed _ _) (.map #[] 0))
          have M0 := Lib.hid (MapV.new wr)
          have hmk := fun W => run_makeMap (P := Try.prog) 54 W
          have HN := Lib.hid (names_2 XM.out)
          have HOK := Lib.hid (has_ok HW.out)
          have hb0 : w.heap.size ≤ wr.heap.size := HW.out.below.size
          obtain ⟨M, hM⟩ : ∃ M, M = (namesV L).length := ⟨_, rfl⟩
          rw [← hM] at HN
          have HM := Lib.hid hM
          have hM2 : M ≤ 256 := by rw [hM, namesV, sort_len, List.length_map]; exact HOK.out.1.1
          clear hM HW
          go_wp2_with fail
          generalize hb : wr.heap.size = b at *
          generalize World.alloc wr (.map #[] 0) = wm at *
          clear hb hmk
          refine HN.out.mono ?_
          rintro e w4 ⟨A, c, go, rfl, hrow, hgo, hm, hb4⟩
          have X4 := Lib.hid hm
          have R4 := Lib.hid hrow
          have M4 := Lib.hid (M0.out.below hb4)
          clear hrow hm HN hb4 M0 XM
          go_wp2_with fail
          go_loopw [63] (fun jv wr => ∃ j : Nat, j ≤ M ∧ jv = .int .i64 (j : Nat) ∧ Hid (Row wr 9 go (.slice A M c) (sv (namesV L))) ∧ Hid (Has (EnvT q L) (fun x => (False ∨ x = b) ∨ go = some x) w wr) ∧ Hid (MapV wr b j (wasV L ((namesV L).take j)))) (fun jv _ => M - (intOf jv).toNat)
          case atStart => exact ⟨0, by omega, rfl, R4, X4, M4⟩
          case round =>
            obtain ⟨j, hj, rfl, HR, HE, HMV⟩ := hrel
            clear X4 R4 M4
            by_cases hjl : j < M
            · obtain ⟨n, hn⟩ : ∃ n, (namesV L)[j]? = some n := ⟨_, List.getElem?_eq_getElem (by rw [← HM.out]; exact hjl)⟩
              obtain ⟨A', c', e3, hle, h1, hx⟩ := HR.out.rd
              injection e3 with e4 e5 e6
              obtain ⟨b5, o5, e7, hcell⟩ := hx (by rw [sv_len, ← HM.out]; omega)
              have q0 : wr.cell? ⟨b5, o5 + j, none⟩ = some (.string (str n)) := hcell j _ (sv_at hn)
              subst e4 e7
              have hmem : n ∈ L.map (·.1) := sort_mem.1 (List.mem_of_getElem? hn)
              obtain ⟨p, hp, hpn⟩ := List.mem_map.1 hmem
              have hnb : (∀ c ∈ n, c < 256) ∧ n.length ≤ 64 := by rw [← hpn]; exact ⟨(HOK.out.1.2 p hp).1, (HOK.out.1.2 p hp).2.2.2⟩
              obtain ⟨x, hg⟩ : ∃ x, getV L n = some x := by
                cases hg : getV L n with
                | none => exact absurd hmem (get_none.1 hg)
                | some x => exact ⟨x, rfl⟩
              have hxl := (ok_get HOK.out.1 hg).2
              have hnew : n ∉ (namesV L).take j := by
                intro hm
                obtain ⟨t, ht, e⟩ := List.getElem_of_mem hm
                rw [List.length_take] at ht
                rw [List.getElem_take] at e
                obtain ⟨hjj, hn2⟩ := List.getElem?_eq_some_iff.1 hn
                have hnd := List.pairwise_iff_getElem.1 (names_nodup HOK.out.2) t j (by omega) hjj (by omega)
                exact hnd (e.trans hn2.symm)
              have HPUT : Hid (putV (wasV L ((namesV L).take j)) n x = wasV L ((namesV L).take (j + 1))) := Lib.hid (by
                have h2 := was_put (L := L) hnew
                rw [hg] at h2
                rw [List.take_add_one, hn]
                exact h2)
              have HG5 := get_1 HE.out n hnb.1 (by omega)
              rw [hg, show getE (some x) = .tuple #[.string (str x), .bool true] from rfl] at HG5
              have HG6 := Lib.hid HG5
              have HNB := Lib.hid hnb
              have r1 : decide ((j : Int) < (M : Int)) = true := decide_eq_true (by omega)
              clear hn hx hle h1 hcell e5 hmem hp hpn hg hnb HG5 hnew
              subst e6
              go_wp2_with fail
              refine HG6.out.mono ?_
              rintro e w6 ⟨rfl, hm, hb6⟩
              have X6 := Lib.hid hm
              have R6 := Lib.hid (HR.out.below hb6 fun x hx => HR.out.lt hx)
              have M6 := Lib.hid (HMV.out.below hb6)
              obtain ⟨w7, hrun7, hM7, hgr7, hsz7⟩ := M6.out.put (by omega) HNB.out.1 (by have := HNB.out.2; omega) (show x.length ≤ 9223372036854775807 by omega)
              rw [HPUT.out] at hM7
              have X7 := Lib.hid (X6.out.grownE (env_framed _ _) hgr7 (.inl (.inr rfl)) hb0)
              have R7 := Lib.hid (R6.out.keep fun y hy => hgr7.block y (R6.out.lt hy) fun e => M6.out.ne_row R6.out (by rw [hy]; exact e))
              have M7 := Lib.hid hM7
              clear hm hb6 HG6 HE HR HMV X6 R6 M6 hM7 hgr7 hsz7
              go_wp2_with fail
              go_roundw
              case rel => exact ⟨j + 1, by omega, by go_num, R7, X7, M7⟩
              case measure => simp [intOf]; omega
            · obtain rfl : j = M := by omega
              rw [show (namesV L).take j = namesV L by rw [HM.out, List.take_length]] at HMV
              have hSet := set_1 HE.out nm vl HNV.out.1 HNV.out.2.1 HNV.out.2.2.1 HNV.out.2.2.2
              obtain ⟨rs, hrs⟩ : ∃ rs, rs = setV L nm vl := ⟨_, rfl⟩
              rw [← hrs] at hSet
              obtain ⟨kS, L1⟩ := rs
              dsimp only at hSet
              have HSET := Lib.hid hSet
              have HRS := Lib.hid hrs
              clear hSet hrs HR
              go_wp2_with fail
              refine HSET.out.mono ?_
              rintro e w5 ⟨rfl, hm, hst⟩
              have X5 := Lib.hid hm
              have M5 := Lib.hid (HMV.out.keep (hst b (.inl (.inr rfl))))
              clear hm hst HSET HE HMV
              go_wp2_with (at_range; refine wpList_range_S rfl (.tmp 80) rfl rfl M5.out ?_; intro w6 hR6 hB6 hs6)
              try go_frame
              have X6 := Lib.hid (X5.out.moreE (env_framed _ _) hB6.out hs6)
              have hr0 : w.heap.size ≤ w5.heap.size := X5.out.below.size
              generalize hrr : w5.heap.size = r at *
              clear hrr hB6 hs6 X5 M5
              go_loopw [] (fun wr => ∃ cnt : Nat, Hid (MapR wr b r j (wasV L (namesV L)) cnt) ∧ Hid (Has (EnvT q L1) (fun x => ((False ∨ x = b) ∨ go = some x) ∨ x = r) w wr)) (fun wr => wr.rangeLeft b r)
              case atStart => exact ⟨_, hR6, X6⟩
              case round =>
                obtain ⟨cnt, HRR, HE⟩ := hrel
                clear hR6 X6
                go_wp2_with (at_next; refine wpList_next_S rfl (.tmp 81) rfl rfl HRR.out ?_ ?_)
                · intro hc0
                  have HGF := get_1 HE.out nm HNV.out.1 HNV.out.2.2.1
                  have hg1 := set_get L nm vl nm
                  rw [← HRS.out] at hg1
                  dsimp only at hg1
                  have hwl : (wasV L (namesV L)).length = j := by rw [HM.out]; simp [wasV]
                  by_cases hk : kS = 0
                  · rw [if_pos ⟨hk, rfl⟩] at hg1
                    rw [hg1, show getE (some vl) = .tuple #[.string (str vl), .bool true] from rfl] at HGF
                    have HG8 := Lib.hid HGF
                    have hkk : ((kS : Int) == 0) = true := by rw [hk]; rfl
                    have hk' : ((kS : Int) != 0) = false := by rw [bne, hkk]; rfl
                    clear hk hg1 HGF hwl
                    go_wp2_with fail
                    refine HG8.out.mono ?_
                    rintro e w8 ⟨rfl, hm, -⟩
                    have X8 := Lib.hid hm.below
                    clear hm HG8
                    go_wp2_with fail
                    go_ret
                    exact ⟨rfl, X8.out⟩
                  · rw [if_neg fun h => hk h.1] at hg1
                    have hL1 : L1 = L := by
                      have h2 := set_same (l := L) (n := nm) (v := vl) (by rw [← HRS.out]; exact hk)
                      rw [← HRS.out] at h2
                      exact h2
                    have hkk : ((kS : Int) == 0) = false := beq_eq_false_iff_ne.2 (by omega)
                    have hk' : ((kS : Int) != 0) = true := by rw [bne, hkk]; rfl
                    rw [hg1] at HGF
                    have hMap := HRR.out.map
                    have HLL := Lib.hid hL1
                    have HWL := Lib.hid hwl
                    have HMP := Lib.hid hMap
                    clear hk hg1 hL1 hwl hMap
                    cases hgL : getV L nm with
                    | none =>
                      rw [hgL, show getE none = .tuple #[.string ⟨#[]⟩, .bool false] from rfl] at HGF
                      have HG8 := Lib.hid HGF
                      have HGL := Lib.hid hgL
                      clear HGF hgL
                      go_wp2_with fail
                      refine HG8.out.mono ?_
                      rintro e w8 ⟨rfl, hm, hb8⟩
                      have X8 := Lib.hid hm
                      have M8 := Lib.hid (HMP.out.below hb8)
                      have hlook := M8.out.look HNV.out.1 HNV.out.2.2.1
                      rw [was_all, HGL.out] at hlook
                      have HN9 := Lib.hid (names_2 X8.out)
                      rw [HLL.out, ← HM.out] at HN9
                      clear hm hb8 HG8
                      go_wp2_with fail
                      refine HN9.out.mono ?_
                      rintro e w9 ⟨A9, c9, go9, rfl, -, -, hm, hb9⟩
                      have X9 := Lib.hid hm.below
                      have hlen := fun ty => (M8.out.below hb9).len ty
                      rw [HWL.out] at hlen
                      clear hm hb9 HN9 X8 hlook
                      go_wp2_with fail
                      go_ret
                      exact ⟨rfl, X9.out⟩
                    | some x =>
                      rw [hgL, show getE (some x) = .tuple #[.string (str x), .bool true] from rfl] at HGF
                      have HG8 := Lib.hid HGF
                      have HGL := Lib.hid hgL
                      clear HGF hgL
                      go_wp2_with fail
                      refine HG8.out.mono ?_
                      rintro e w8 ⟨rfl, hm, hb8⟩
                      have X8 := Lib.hid hm
                      have M8 := Lib.hid (HMP.out.below hb8)
                      have hlook := M8.out.look HNV.out.1 HNV.out.2.2.1
                      rw [was_all, HGL.out] at hlook
                      have HN9 := Lib.hid (names_2 X8.out)
                      rw [HLL.out, ← HM.out] at HN9
                      clear hm hb8 HG8
                      go_wp2_with fail
                      refine HN9.out.mono ?_
                      rintro e w9 ⟨A9, c9, go9, rfl, -, -, hm, hb9⟩
                      have X9 := Lib.hid hm.below
                      have hlen := fun ty => (M8.out.below hb9).len ty
                      rw [HWL.out] at hlen
                      clear hm hb9 HN9 X8 hlook
                      go_wp2_with fail
                      go_ret
                      exact ⟨rfl, X9.out⟩
                · intro s x w7 cnt7 hs hR7 hlt7 hgr7 hsz7 hen7
                  have X7 := Lib.hid (HE.out.grownE (env_framed _ _) hgr7.out (.inr rfl) hr0)
                  have HGV := get_1 X7.out s hs.out.2.1 hs.out.2.2.1
                  have hgL := hs.out.1
                  rw [was_all] at hgL
                  have hg1 := set_get L nm vl s
                  rw [← HRS.out] at hg1
                  dsimp only at hg1
                  have R7 := hR7
                  clear hgr7 hsz7 hR7
                  by_cases hA : kS = 0 ∧ nm = s
                  · obtain ⟨e1, e2⟩ := hA
                    rw [if_pos ⟨e1, e2⟩] at hg1
                    rw [hg1, show getE (some vl) = .tuple #[.string (str vl), .bool true] from rfl] at HGV
                    have HG8 := Lib.hid HGV
                    clear hgL hg1 HGV hs
                    have hk : ((kS : Int) == 0) = true := by rw [e1]; rfl
                    have hk' : ((kS : Int) != 0) = false := by rw [bne, hk]; rfl
                    clear e1
                    subst e2
                    go_wp2_with fail
                    refine HG8.out.mono ?_
                    rintro e w8 ⟨rfl, hm, hb8⟩
                    have X8 := Lib.hid hm
                    have R8 := Lib.hid (MapR.below R7.out hb8)
                    clear hm hb8 HG8 X7 R7
                    go_wp2_with fail
                    go_roundw
                    case rel => exact ⟨cnt7, R8, X8⟩
                    case measure => rw [R8.out.left, HRR.out.left]; exact hlt7
                  · rw [if_neg hA, hgL] at hg1
                    rw [hg1, show getE (some x) = .tuple #[.string (str x), .bool true] from rfl] at HGV
                    have HG8 := Lib.hid HGV
                    have HBQ := Lib.hid (str_beq hs.out.2.1 HNV.out.1)
                    by_cases hsn : s = nm
                    · have hk : ((kS : Int) == 0) = false := beq_eq_false_iff_ne.2 fun e => hA ⟨by omega, hsn.symm⟩
                      have hk' : ((kS : Int) != 0) = true := by rw [bne, hk]; rfl
                      clear hgL hg1 HGV hs hA HBQ
                      subst hsn
                      go_wp2_with fail
                      refine HG8.out.mono ?_
                      rintro e w8 ⟨rfl, hm, hb8⟩
                      have X8 := Lib.hid hm
                      have R8 := Lib.hid (MapR.below R7.out hb8)
                      clear hm hb8 HG8 X7 R7
                      go_wp2_with fail
                      go_roundw
                      case rel => exact ⟨cnt7, R8, X8⟩
                      case measure => rw [R8.out.left, HRR.out.left]; exact hlt7
                    · have hq : ((str s).toList == (str nm).toList) = false := by rw [HBQ.out]; simpa using hsn
                      have hq' : ((str s).toList = (str nm).toList) = False := eq_false fun e => by rw [e] at hq; simp at hq
                      clear hgL hg1 HGV hs hA HBQ hsn
                      go_wp2_with fail
                      refine HG8.out.mono ?_
                      rintro e w8 ⟨rfl, hm, hb8⟩
                      have X8 := Lib.hid hm
                      have R8 := Lib.hid (MapR.below R7.out hb8)
                      clear hm hb8 HG8 X7 R7
                      go_wp2_with fail
                      go_roundw
                      case rel => exact ⟨cnt7, R8, X8⟩
                      case measure => rw [R8.out.left, HRR.out.left]; exact hlt7
end Go.Proofs.Yteapcahpkapbbaa
