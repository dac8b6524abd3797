/-
  glob's place: the least place from which on rows, with any bytes between each two, are like a text to its end.
  Conditions: at most 1025 rows of at most 1024 things; a text of at most 140737488351232 bytes.
-/
import Derived.Test.YtcipljpalohjiaaDoorGlPar
import Derived.Test.YtcipljpalohjiaaDoorGlRLk
import Derived.Deep.QuietTactic
import Derived.BigQuiet
namespace Go.Proofs.YtcipljpalohjiaaDoor
open Go.RowKit

theorem LsV.below {w w' : World} {v : Value} {r : List Thg} (h : LsV w v r) (hb : Below w.heap.size w w') : LsV w' v r := by
  obtain ⟨us, h1, h2, h3⟩ := h
  refine ⟨us, ?_, h2, fun j u x a b => (h3 j u x a b).below hb⟩
  obtain ⟨A, c, rfl, hle, h1', hr⟩ := h1
  refine ⟨A, c, rfl, hle, h1', fun hp => ?_⟩
  obtain ⟨b, o, rfl, hx⟩ := hr hp
  exact ⟨b, o, rfl, fun j u hu => (World.cell?_of_block (hb.block b (World.block_lt_of_cell? w _ (hx j u hu)))).trans (hx j u hu)⟩
theorem LsV.drewN {w : World} {v : Value} {r : List Thg} (h : LsV w v r) (n : Nat) : LsV (w.drewN n) v r := h.below ⟨rfl, rfl, rfl, Nat.le_refl _, fun _ _ => rfl⟩
theorem RwsV.form {w : World} {v : Value} {ll : List (List Thg)} (h : RwsV w v ll) : ∃ A c, v = .slice A ll.length c := by
  obtain ⟨us, ⟨A, c, e, _⟩, h1, _⟩ := h
  exact ⟨A, c, by rw [e, h1]⟩
theorem RwsV.at_ {w : World} {A : Option Addr} {n c k : Nat} {ll : List (List Thg)} (h : RwsV w (.slice A n c) ll) {r : List Thg} (hx : ll[k]? = some r) : ∃ b o B d, A = some ⟨b, o, none⟩ ∧ w.cell? ⟨b, o + k, none⟩ = some (.slice B r.length d) ∧ LsV w (.slice B r.length d) r := by
  obtain ⟨us, ⟨A', c', e, _, _, hr⟩, h1, h2⟩ := h
  injection e with e1 e2 e3
  subst e1
  have hk := (List.getElem?_eq_some_iff.1 hx).1
  obtain ⟨b, o, rfl, hc⟩ := hr (by omega)
  have hu : us[k]? = some us[k] := List.getElem?_eq_getElem (by omega)
  have hl := h2 k _ r hu hx
  obtain ⟨B, d, e⟩ := hl.form
  have hcc := hc k _ hu
  rw [e] at hcc hl
  exact ⟨b, o, B, d, rfl, hcc, hl⟩
theorem RwsV.below {w w' : World} {v : Value} {ll : List (List Thg)} (h : RwsV w v ll) (hb : Below w.heap.size w w') : RwsV w' v ll := by
  obtain ⟨us, h1, h2, h3⟩ := h
  refine ⟨us, ?_, h2, fun j u l a b => (h3 j u l a b).below hb⟩
  obtain ⟨A, c, rfl, hle, h1', hr⟩ := h1
  refine ⟨A, c, rfl, hle, h1', fun hp => ?_⟩
  obtain ⟨b, o, rfl, hx⟩ := hr hp
  exact ⟨b, o, rfl, fun j u hu => (World.cell?_of_block (hb.block b (World.block_lt_of_cell? w _ (hx j u hu)))).trans (hx j u hu)⟩

/-- What place answers. -/
def plcE (k : Option Nat) : Value := .tuple #[.int .i64 (k.getD 0 : Nat), .bool k.isSome]
theorem plc_none {ll : List (List Thg)} {t : List Nat} (h : ∀ k, ¬ Fits ll t k) : plcE (firstS (joinR ll) t) = .tuple #[.int .i64 0, .bool false] := by rw [first_none h]; rfl
theorem plc_some {ll : List (List Thg)} {t : List Nat} {k : Nat} (h : Fits ll t k) (hno : ∀ j, j < k → ¬ Fits ll t j) : plcE (firstS (joinR ll) t) = .tuple #[.int .i64 (k : Nat), .bool true] := by rw [first_some h hno]; rfl
/-- begins, wherever the text is looked at. -/
def BegAt (w : World) (v : Value) (r : List Thg) (t : List Nat) : Prop := ∀ k n : Nat, k + r.length ≤ t.length →
  Calls Tryd.prog 70 #[v, .string (str (t.drop k))] (w.drewN n) fun e w' => e = .returned (.bool (sitB r (t.drop k))) ∧ ∃ m, w' = w.drewN m
theorem beg_at {w : World} {v : Value} {r : List Thg} {t : List Nat} (h : LsV w v r) (ht : ∀ c ∈ t, c < 256) (hm : t.length ≤ 140737488351232) : BegAt w v r t := fun k n hk => by
  refine (begins_is v r (t.drop k) (w.drewN n) (h.drewN n) (fun c hc => ht c (List.mem_of_mem_drop hc)) (by rw [List.length_drop]; omega) (by rw [List.length_drop]; omega)).mono ?_
  rintro e w' ⟨rfl, rfl⟩
  exact ⟨rfl, n, rfl⟩

set_option maxRecDepth 100000 in
set_option maxHeartbeats 2000000 in
theorem place_of (v : Value) (ll : List (List Thg)) (t : List Nat) (w : World) (h : RwsV w v ll) (h0 : ll ≠ []) (hs : Sgl ll) (hl : ll.length ≤ 1025) (hr : ∀ r ∈ ll, r.length ≤ 1024) (ht : ∀ c ∈ t, c < 256) (hm : t.length ≤ 140737488351232) :
    Calls Tryd.prog 69 #[v, .string (str t)] w fun e w' => e = .returned (plcE (firstS (joinR ll) t)) ∧ Below w.heap.size w w' := by
  obtain ⟨A, c, rfl⟩ := h.form
  obtain ⟨m, hm1⟩ : ∃ m, ll.length = m + 1 := ⟨ll.length - 1, by have := List.length_pos_iff.2 h0; omega⟩
  have hmb : m ≤ 1024 := by omega
  rw [hm1] at h ⊢
  have hsz := str_len t
  have HV := Lib.hid h
  have HS := Lib.hid hs
  have HR := Lib.hid hr
  have HT := Lib.hid ht
  have HL := Lib.hid hm1
  have hrun : ∀ k : Nat, k ≤ t.length → ∀ W, (Instr.slice 9 (.string (str t)) (some (.int .i64 (k : Nat))) none none).run Tryd.prog W = .ok (.string (str (t.drop k))) W := fun k hk W => run_from_str t k hk W
  have HRUN := Lib.hid hrun
  obtain ⟨rl, hrl⟩ : ∃ rl, ll[m]? = some rl := ⟨_, List.getElem?_eq_getElem (by omega)⟩
  obtain ⟨b, o, B, d, rfl, cl, hlv⟩ := h.at_ hrl
  have hrb := hr rl (List.mem_of_getElem? hrl)
  have hsl : ∀ x ∈ rl, x.any = false := hs rl (List.mem_of_getElem? hrl)
  have HSL := Lib.hid hsl
  have HBA := Lib.hid (beg_at hlv ht hm)
  have HD : Hid (ll.drop m = [rl]) := Lib.hid (by
    rw [List.drop_eq_getElem_cons (by omega), List.drop_of_length_le (by omega)]
    congr 1
    exact (List.getElem?_eq_some_iff.1 hrl).2)
  have HNO : Hid ((∀ k, ¬ Fits [rl] t k) → plcE (firstS (joinR ll) t) = .tuple #[.int .i64 0, .bool false]) := Lib.hid fun hn => plc_none (no_drop hs (i := m) (by omega) (by rw [HD.out]; exact hn))
  have r0 : ∀ W, Below W.heap.size W W := fun W => Below.refl _ W
  clear h h0 hs hr ht hrl hlv hm1 hrun hsl
  go_enter Tryd.func69, Tryd.ntmps69
  by_cases hshort : t.length < rl.length
  · have HN := Lib.hid (HNO.out (no_last HSL.out (.inl hshort)))
    have q1 : decide ((t.length : Int) - (rl.length : Int) < 0) = true := decide_eq_true (by omega)
    go_wp2_with fail
    go_step3
    go_wp2_with fail
    go_quiet (fail)
    go_wp2_with fail
    try rw [Exit.noGoto_ret]
    go_ret2
    exact ⟨by rw [HN.out]; rfl, drewG_below w nq⟩
  obtain ⟨k0, hk0⟩ : ∃ k0, k0 + rl.length = t.length := ⟨t.length - rl.length, by omega⟩
  have e0 : (t.length : Int) - (rl.length : Int) = (k0 : Int) := by omega
  have q1 : decide ((k0 : Int) < 0) = false := decide_eq_false (by omega)
  have hrun0 := HRUN.out k0 (by omega)
  have HQ := Lib.hid (fun n => HBA.out k0 n (by omega))
  have HK := Lib.hid hk0
  have hkb : k0 ≤ t.length := by omega
  clear hshort hk0
  have HTP : Hid (sitB rl (t.drop k0) = true → Top [rl] t k0) := Lib.hid (Top.last HSL.out HK.out)
  have HNP : Hid (sitB rl (t.drop k0) = false → ∀ k, ¬ Fits [rl] t k) := Lib.hid fun h => no_last HSL.out (.inr ⟨k0, HK.out, h⟩)
  generalize str (t.drop k0) = s0 at *
  generalize sitB rl (t.drop k0) = bb at *
  cases bb with
  | false =>
    have HN := Lib.hid (HNO.out (HNP.out rfl))
    clear HTP HNP
    go_wp2_with fail
    go_step3
    go_wp2_with fail
    go_quiet ((go_at_call 70; exact HQ.out _))
    go_wp2_with fail
    try rw [Exit.noGoto_ret]
    go_ret2
    exact ⟨by rw [HN.out]; rfl, drewG_below w nq⟩
  | true =>
    have HTOP := Lib.hid (HTP.out rfl)
    clear HTP HNP HNO
    by_cases hm0 : m = 0
    · have q2 : ((m : Int) == 0) = true := beq_iff_eq.2 (by omega)
      have HA : Hid (ll = [rl]) := Lib.hid (by have := HD.out; rwa [hm0, List.drop_zero] at this)
      clear hm0
      have HE : Hid (plcE (firstS (joinR ll) t) = .tuple #[.int .i64 (k0 : Nat), .bool true]) := Lib.hid (by
        rw [HA.out]
        refine plc_some HTOP.out.fits fun j hj hf => ?_
        have := ((fits_one HSL.out).1 hf).1
        have := HK.out
        omega)
      go_wp2_with fail
      go_step3
      go_wp2_with fail
      go_quiet ((go_at_call 70; exact HQ.out _))
      go_wp2_with fail
      try rw [Exit.noGoto_ret]
      go_ret2
      exact ⟨by rw [HE.out]; rfl, drewG_below w nq⟩
    · have q2 : ((m : Int) == 0) = false := beq_eq_false_iff_ne.2 (by omega)
      obtain ⟨m1, hm1⟩ : ∃ m1, m = m1 + 1 := ⟨m - 1, by omega⟩
      have e1 : (m : Int) - 1 = (m1 : Int) := by omega
      have hmb1 : m1 ≤ 1024 := by omega
      have HM1 := Lib.hid hm1
      clear hm0 hm1
      go_wp2_with fail
      go_step3
      go_wp2_with fail
      go_quiet ((go_at_call 70; exact HQ.out _))
      have HV2 := Lib.hid (HV.out.below (drewG_below w nq))
      have HW2 := Lib.hid (drewG_below w nq)
      generalize World.drewN w _ = w2 at *
      clear HV cl HQ HBA
      go_wp2_with fail
      go_step3
      go_wp2_with fail
      have hzero : 0 ≤ k0 := by omega
      go_loopw [7, 8] (fun u v wr => ∃ (e j : Nat), j ≤ m1 ∧ e ≤ t.length ∧ u = .int .i64 (e : Nat) ∧ v = .int .i64 (j : Nat) ∧ Hid (Top (ll.drop (j + 1)) t e) ∧ Hid (RwsV wr (.slice (some ⟨b, o, none⟩) (m + 1) c) ll) ∧ Hid (Below w.heap.size w wr)) (fun _ v _ => (intOf v).toNat)
      case atStart => exact ⟨k0, m1, by omega, by omega, rfl, rfl, Lib.hid (by rw [← HM1.out, HD.out]; exact HTOP.out), HV2, HW2⟩
      case round =>
        obtain ⟨e, j, hj, he, rfl, rfl, HT1, HV1, HW1⟩ := hrel
        clear HTOP HV2 HW2
        obtain ⟨r, hr⟩ : ∃ r, ll[j]? = some r := ⟨_, List.getElem?_eq_getElem (by have := HL.out; have := HM1.out; omega)⟩
        have hrb2 := HR.out r (List.mem_of_getElem? hr)
        have HSR := Lib.hid (HS.out r (List.mem_of_getElem? hr))
        have HDJ : Hid (ll.drop j = r :: ll.drop (j + 1)) := Lib.hid (by
          have hl := (List.getElem?_eq_some_iff.1 hr)
          rw [List.drop_eq_getElem_cons hl.1, hl.2])
        have HNE : Hid (ll.drop (j + 1) ≠ []) := Lib.hid (by
          intro h
          rw [List.drop_eq_nil_iff] at h
          have := HL.out; have := HM1.out; omega)
        have HJL : Hid (j < ll.length) := Lib.hid (List.getElem?_eq_some_iff.1 hr).1
        obtain ⟨b', o', B', d', hA', cj, hlj⟩ := HV1.out.at_ hr
        injection hA' with hA'
        injection hA' with hb' ho'
        subst hb' ho'
        have HBJ := Lib.hid (beg_at hlj HT.out hm)
        have HRJ := Lib.hid hr
        clear hr hlj
        by_cases hj0 : 0 < j
        · have r1 : decide ((0 : Int) < (j : Int)) = true := decide_eq_true (by omega)
          go_wp2_with fail
          clear cj HBJ
          go_loopw [7] (fun u W => ∃ z : Int, z ≤ (e : Int) - (r.length : Int) ∧ -2000 ≤ z ∧ u = .int .i64 z ∧ Hid (RwsV W (.slice (some ⟨b, o, none⟩) (m + 1) c) ll) ∧ Hid (Below w.heap.size w W) ∧ Hid (∀ k : Nat, z < (k : Int) → k + r.length ≤ e → sitB r (t.drop k) = false)) (fun u _ => (intOf u + 1).toNat)
          case atStart => exact ⟨_, Int.le_refl _, by omega, rfl, HV1, HW1, Lib.hid (fun k hk hk2 => by omega)⟩
          case round =>
            obtain ⟨z, hz1, hz2, rfl, HV3, HW3, HNZ⟩ := hrel
            obtain ⟨b', o', B3, d3, hA', cj, hlj⟩ := HV3.out.at_ HRJ.out
            injection hA' with hA'
            injection hA' with hb' ho'
            subst hb' ho'
            have HBJ := Lib.hid (beg_at hlj HT.out hm)
            clear hlj HV1 HW1
            by_cases hz : 0 ≤ z
            · obtain ⟨k, rfl⟩ : ∃ k : Nat, z = (k : Int) := ⟨z.toNat, by omega⟩
              have r2 : decide ((0 : Int) ≤ (k : Int)) = true := decide_eq_true (by omega)
              have hk1 : k + r.length ≤ e := by omega
              have hkt : k ≤ t.length := by omega
              have hrk := HRUN.out k hkt
              have HQ := Lib.hid (fun n => HBJ.out k n (by omega))
              have HYT : Hid (sitB r (t.drop k) = true → Top (ll.drop j) t k) := Lib.hid fun h => by
                rw [HDJ.out]
                exact HT1.out.step HSR.out HNE.out hk1 h fun i h1 h2 => HNZ.out i (by omega) h2
              have HYF : Hid (sitB r (t.drop k) = false → ∀ i : Nat, (k : Int) - 1 < (i : Int) → i + r.length ≤ e → sitB r (t.drop i) = false) := Lib.hid fun h i h1 h2 => by
                rcases Nat.lt_or_ge k i with h3 | h3
                · exact HNZ.out i (by omega) h2
                · obtain rfl : i = k := by omega
                  exact h
              generalize str (t.drop k) = sk at *
              generalize sitB r (t.drop k) = y at *
              clear HNZ HBJ
              cases y with
              | true =>
                have HY := Lib.hid (HYT.out rfl)
                clear HYT HYF
                go_wp2_with fail
                go_quiet ((go_at_call 70; exact HQ.out _))
                have HV4 := Lib.hid (HV3.out.below (drewG_below _ nq))
                have HW4 := Lib.hid (HW3.out.trans ((drewG_below _ nq).mono HW3.out.size))
                generalize World.drewN _ nq = w4 at *
                clear HV3 cj HQ
                go_wp2_with fail
                refine ⟨⟨k, j - 1, by omega, hkt, rfl, by go_num, Lib.hid (by rw [show j - 1 + 1 = j by omega]; exact HY.out), HV4, HW4⟩, ?_⟩
                simp [intOf]; omega
              | false =>
                have HY := Lib.hid (HYF.out rfl)
                clear HYT HYF
                go_wp2_with fail
                go_quiet ((go_at_call 70; exact HQ.out _))
                have HV4 := Lib.hid (HV3.out.below (drewG_below _ nq))
                have HW4 := Lib.hid (HW3.out.trans ((drewG_below _ nq).mono HW3.out.size))
                generalize World.drewN _ nq = w4 at *
                clear HV3 cj HQ
                go_wp2_with fail
                go_roundw
                case rel => exact ⟨(k : Int) - 1, by omega, by omega, by go_num, HV4, HW4, HY⟩
                case measure => simp [intOf] <;> omega
            · have r2 : decide ((0 : Int) ≤ z) = false := decide_eq_false hz
              have HN : Hid (plcE (firstS (joinR ll) t) = .tuple #[.int .i64 0, .bool false]) := Lib.hid (plc_none (no_drop HS.out (i := j) HJL.out (by
                rw [HDJ.out]
                exact HT1.out.none HSR.out HNE.out fun i hi => HNZ.out i (by omega) hi)))
              go_wp2_with fail
              try rw [Exit.noGoto_ret]
              try go_wp2_with fail
              try rw [Exit.noGoto_ret]
              go_ret2
              exact ⟨by rw [HN.out]; rfl, HW3.out⟩
        · obtain rfl : j = 0 := by omega
          have HLL : Hid (ll = r :: ll.drop (0 + 1)) := Lib.hid (by have := HDJ.out; rwa [List.drop_zero] at this)
          rw [Nat.add_zero] at cj
          clear cj HBJ
          obtain ⟨b', o', B2, d2, hA', cj, hlj⟩ := HV1.out.at_ HRJ.out
          injection hA' with hA'
          injection hA' with hb' ho'
          subst hb' ho'
          rw [Nat.add_zero] at cj
          clear hlj
          go_wp2_with fail
          go_loopw [69] (fun u W => ∃ i : Nat, i ≤ t.length + 1 ∧ u = .int .i64 (i : Nat) ∧ Hid (RwsV W (.slice (some ⟨b, o, none⟩) (m + 1) c) ll) ∧ Hid (Below w.heap.size w W) ∧ Hid (∀ k : Nat, k < i → ¬ Fits ll t k)) (fun u _ => t.length + 2 - (intOf u).toNat)
          case atStart => exact ⟨0, by omega, rfl, HV1, HW1, Lib.hid (fun k hk => by omega)⟩
          case round =>
            obtain ⟨i, hi, rfl, HV3, HW3, HNF⟩ := hrel
            obtain ⟨b', o', B3, d3, hA', cj2, hlj⟩ := HV3.out.at_ HRJ.out
            injection hA' with hA'
            injection hA' with hb' ho'
            subst hb' ho'
            rw [Nat.add_zero] at cj2
            have HBJ := Lib.hid (beg_at hlj HT.out hm)
            clear hlj HV1 HW1 cj
            by_cases hz : i + r.length ≤ e
            · have r2 : decide ((i : Int) < (e : Int) - (r.length : Int) + 1) = true := decide_eq_true (by omega)
              have hrk := HRUN.out i (by omega)
              have HQ := Lib.hid (fun n => HBJ.out i n (by omega))
              have HFI : Hid (Fits ll t i ↔ sitB r (t.drop i) = true) := Lib.hid (by
                have h := HT1.out.cons (k := i) HSR.out HNE.out
                rw [← HLL.out] at h
                rw [h]
                exact ⟨fun h => h.1, fun h => ⟨h, hz⟩⟩)
              have HIE : Hid (i + r.length ≤ e) := Lib.hid hz
              generalize str (t.drop i) = sk at *
              generalize sitB r (t.drop i) = y at *
              clear HBJ
              cases y with
              | true =>
                have HY := Lib.hid (plc_some (HFI.out.2 rfl) HNF.out)
                clear HFI HNF
                go_wp2_with fail
                go_quiet ((go_at_call 70; exact HQ.out _))
                have HW4 := Lib.hid (HW3.out.trans ((drewG_below _ nq).mono HW3.out.size))
                generalize World.drewN _ nq = w4 at *
                clear HV3 cj2 HQ
                go_wp2_with fail
                try rw [Exit.noGoto_ret]
                try go_wp2_with fail
                try rw [Exit.noGoto_ret]
                go_ret2
                exact ⟨by rw [HY.out]; rfl, HW4.out⟩
              | false =>
                have HY : Hid (∀ k : Nat, k < i + 1 → ¬ Fits ll t k) := Lib.hid (fun k hk => by
                  rcases Nat.lt_or_ge k i with h | h
                  · exact HNF.out k h
                  · obtain rfl : k = i := by omega
                    rw [HFI.out]; simp)
                clear HFI HNF
                go_wp2_with fail
                go_quiet ((go_at_call 70; exact HQ.out _))
                have HV4 := Lib.hid (HV3.out.below (drewG_below _ nq))
                have HW4 := Lib.hid (HW3.out.trans ((drewG_below _ nq).mono HW3.out.size))
                generalize World.drewN _ nq = w4 at *
                clear HV3 cj2 HQ
                go_wp2_with fail
                go_roundw
                case rel => exact ⟨i + 1, by omega, by go_num, HV4, HW4, HY⟩
                case measure => simp [intOf] <;> omega
            · have r2 : decide ((i : Int) < (e : Int) - (r.length : Int) + 1) = false := decide_eq_false (by omega)
              have HN : Hid (plcE (firstS (joinR ll) t) = .tuple #[.int .i64 0, .bool false]) := Lib.hid (plc_none fun k hk => by
                rcases Nat.lt_or_ge k i with h | h
                · exact HNF.out k h hk
                · rw [HLL.out] at hk
                  have := ((HT1.out.cons (k := k) HSR.out HNE.out).1 hk).2
                  omega)
              go_wp2_with fail
              try rw [Exit.noGoto_ret]
              try go_wp2_with fail
              try rw [Exit.noGoto_ret]
              go_ret2
              exact ⟨by rw [HN.out]; rfl, HW3.out⟩
end Go.Proofs.YtcipljpalohjiaaDoor
