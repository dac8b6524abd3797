/-
  The document's variables: at, Get, Set, Word.
  Conditions: names and texts of at most 9223372036854775807 bytes.
-/
import Derived.Test.YteapcahpkapbbaaEnRef
import Derived.Test.YteapcahpkapbbaaAppRun
import Derived.Deep.QuietTactic
import Derived.BigQuiet
namespace Go.Proofs.Yteapcahpkapbbaa
open Go.RowKit

theorem var_info : (Try.prog.info? 68).map (fun i => (i.zero, i.size, i.bytes)) = some (some (.agg #[.string ⟨#[]⟩, .string ⟨#[]⟩]), 2, 32) := by kernel_rfl
def AtTo (l : Vrs) (n : List Nat) (e : Ending) : Prop :=
  (∃ (k : Nat) (x : List Nat), l[k]? = some (n, x) ∧ (∀ j, j < k → ∀ p, l[j]? = some p → p.1 ≠ n) ∧ e = .returned (.int .i64 (k : Nat))) ∨
  ((∀ j, j < l.length → ∀ p, l[j]? = some p → p.1 ≠ n) ∧ e = .returned (.int .i64 (-1)))

set_option maxRecDepth 100000 in
set_option maxHeartbeats 1000000 in
theorem Rat_is {q : Nat} {l : Vrs} {g : Option Nat} {v : Value} {F : Nat → Prop} {w : World} (h : RefV q l g v F w) (n : List Nat) (hn : ∀ c ∈ n, c < 256) :
    Calls Try.prog 26 #[.pointer (some ⟨q, 0, none⟩), .string (str n)] w fun e w' => AtTo l n e ∧ w = w' := by
  obtain ⟨A, c, rfl, hle⟩ := h.row.form
  have c0 : w.cell? ⟨q, 0, none⟩ = some (.slice A l.length c) := h.blk.cell 0
  have hl := h.ok.1
  have H := Lib.hid h
  have HN := Lib.hid hn
  clear h hn
  go_enter Try.func26, Try.ntmps26
  go_wp2_with fail
  go_loop [5] (fun i => ∃ k : Nat, k ≤ l.length ∧ i = .int .i64 (k : Nat) ∧ Hid (∀ j, j < k → ∀ p, l[j]? = some p → p.1 ≠ n)) (fun i => l.length - (intOf i).toNat)
  case atStart => exact ⟨0, by omega, rfl, Lib.hid (by intro j hj; omega)⟩
  case round =>
    obtain ⟨k, hk, rfl, HA⟩ := hrel
    by_cases hlt : k < l.length
    · obtain ⟨p, hp⟩ : ∃ p, l[k]? = some p := ⟨_, List.getElem?_eq_getElem hlt⟩
      obtain ⟨a, x⟩ := p
      obtain ⟨b, o, c', e1, -, -, hx⟩ := H.out.row.cells (by omega)
      injection e1 with e1 _ _
      subst e1
      have x0 : w.cell? ⟨b, o + k * 2, none⟩ = some (.string (str a)) := hx _ _ (vcs_at hp).1
      have HB := Lib.hid (str_beq (H.out.ok.2 _ (List.mem_of_getElem? hp)).1 HN.out)
      have HP := Lib.hid hp
      clear hx hp
      by_cases hab : a = n
      · have q0 : ((str a).toList == (str n).toList) = true := by rw [HB.out]; simpa using hab
        have q1 : (str a).toList = (str n).toList := by rw [hab]
        have HAB := Lib.hid hab
        clear hab
        go_wp2_with fail
        go_ret
        exact ⟨.inl ⟨k, x, by rw [HP.out, HAB.out], HA.out, rfl⟩, rfl⟩
      · have q0 : ((str a).toList == (str n).toList) = false := by rw [HB.out]; simpa using hab
        have q1 : ((str a).toList = (str n).toList) = False := eq_false fun e => by rw [e] at q0; simp at q0
        have HAB := Lib.hid hab
        clear hab
        go_wp2_with fail
        go_round
        case rel => exact ⟨k + 1, by omega, by go_num, Lib.hid (fun j hj p hp => by
          rcases Nat.lt_or_ge j k with h1 | h1
          · exact HA.out j h1 p hp
          · obtain rfl : j = k := by omega
            rw [HP.out] at hp
            injection hp with hp
            rw [← hp]; exact HAB.out)⟩
        case measure => simp [intOf]; omega
    · obtain rfl : k = l.length := by omega
      go_wp2_with fail
      go_ret
      exact ⟨.inr ⟨HA.out, rfl⟩, rfl⟩

/-- A variable's value, as it is told. -/
def getE (o : Option (List Nat)) : Value := match o with | some x => .tuple #[.string (str x), .bool true] | none => .tuple #[.string ⟨#[]⟩, .bool false]
set_option maxRecDepth 100000 in
theorem RGet_is {q : Nat} {l : Vrs} {F : Nat → Prop} {w : World} (h : RefE q l F w) (n : List Nat) (hn : ∀ c ∈ n, c < 256) :
    Calls Try.prog 16 #[.pointer (some ⟨q, 0, none⟩), .string (str n)] w fun e w' => e = .returned (getE (getV l n)) ∧ w = w' := by
  obtain ⟨g, v, h⟩ := h
  obtain ⟨A, c, rfl, hle⟩ := h.row.form
  have c0 : w.cell? ⟨q, 0, none⟩ = some (.slice A l.length c) := h.blk.cell 0
  have hl := h.ok.1
  have H := Lib.hid h
  have HA := Lib.hid (Rat_is h n hn)
  clear h hn
  go_enter Try.func16, Try.ntmps16
  go_wp2_with fail
  refine HA.out.mono ?_
  rintro e w1 ⟨he, rfl⟩
  rcases he with ⟨k, x, hk, hj, rfl⟩ | ⟨hj, rfl⟩
  · obtain ⟨b, o, c', e1, -, -, hx⟩ := H.out.row.cells (by have := (List.getElem?_eq_some_iff.1 hk).1; omega)
    injection e1 with e1 _ _
    subst e1
    have hkl := (List.getElem?_eq_some_iff.1 hk).1
    have x1 : w.cell? ⟨b, o + k * 2 + 1, none⟩ = some (.string (str x)) := hx _ _ (vcs_at hk).2
    have q1 : decide ((k : Int) < 0) = false := decide_eq_false (by omega)
    have HG := Lib.hid (get_at hk hj).1
    clear hx hk hj
    go_wp2_with fail
    go_ret2
    exact ⟨by rw [HG.out]; rfl, rfl⟩
  · have HG := Lib.hid (get_no hj).1
    clear hj
    go_wp2_with fail
    go_ret2
    exact ⟨by rw [HG.out]; rfl, rfl⟩

set_option maxRecDepth 100000 in
set_option maxHeartbeats 1000000 in
theorem RSet_is {q : Nat} {l : Vrs} {F : Nat → Prop} {w : World} (h : RefE q l F w) (n v : List Nat) (hn : ∀ c ∈ n, c < 256) (hv : ∀ c ∈ v, c < 256) (hnl : n.length ≤ 9223372036854775807) (hvl : v.length ≤ 9223372036854775807) :
    Calls Try.prog 14 #[.pointer (some ⟨q, 0, none⟩), .string (str n), .string (str v)] w fun e w' => e = .returned (.int .i64 ((setV l n v).1 : Nat)) ∧ Turned (RefE q (setV l n v).2) F w w' := by
  have hvs := str_len v
  have HOK := Lib.hid (ok_set (refe_ok h) n hv)
  have HE := Lib.hid h
  obtain ⟨g, u, h⟩ := h
  obtain ⟨A, c, rfl, hle⟩ := h.row.form
  have c0 : w.cell? ⟨q, 0, none⟩ = some (.slice A l.length c) := h.blk.cell 0
  have f0 := h.blk.frozen 0
  have hl := h.ok.1
  have H := Lib.hid h
  have HR := Lib.hid (RRight_is n hn hnl w)
  have HA := Lib.hid (Rat_is h n hn)
  clear h hn hv
  by_cases hr : rightN n = false
  · have hs : setV l n v = (2, l) := by rw [setV, if_pos hr]
    rw [hr] at HR
    rw [hs]
    clear hr hs
    go_enter Try.func14, Try.ntmps14
    go_wp2_with fail
    refine HR.out.mono ?_
    rintro e w1 ⟨rfl, rfl⟩
    go_wp2_with fail
    go_ret
    exact ⟨rfl, Turned.refl HE.out⟩
  have hr' : rightN n = true := by simpa using hr
  rw [hr'] at HR
  by_cases hbig : 16777216 < v.length
  · have hs : setV l n v = (6, l) := by rw [setV, if_neg hr, if_pos hbig]
    have d1 : decide ((16777216 : Int) < (v.length : Int)) = true := decide_eq_true (by omega)
    rw [hs]
    clear hr hs hr'
    go_enter Try.func14, Try.ntmps14
    go_wp2_with fail
    refine HR.out.mono ?_
    rintro e w1 ⟨rfl, rfl⟩
    go_wp2_with fail
    go_ret
    exact ⟨rfl, Turned.refl HE.out⟩
  have d1 : decide ((16777216 : Int) < (v.length : Int)) = false := decide_eq_false (by omega)
  have HS : Hid (setV l n v = if getV l n = none ∧ 256 ≤ l.length then (10, l) else (0, putV l n v)) := Lib.hid (by rw [setV, if_neg hr, if_neg hbig])
  clear hr hr' hbig
  go_enter Try.func14, Try.ntmps14
  go_wp2_with fail
  refine HR.out.mono ?_
  rintro e w1 ⟨rfl, rfl⟩
  go_wp2_with fail
  refine HA.out.mono ?_
  rintro e w1 ⟨he, rfl⟩
  rcases he with ⟨k, x, hk, hj, rfl⟩ | ⟨hj, rfl⟩
  · have hkl := (List.getElem?_eq_some_iff.1 hk).1
    obtain ⟨b, o, c', e1, hgb, -, hx⟩ := H.out.row.cells (by omega)
    injection e1 with e1 _ _
    subst e1
    have x1 : w.cell? ⟨b, o + k * 2 + 1, none⟩ = some (.string (str x)) := hx _ _ (vcs_at hk).2
    have q1 : decide ((k : Int) ≥ 0) = true := decide_eq_true (by omega)
    have q1' : decide (0 ≤ (k : Int)) = true := decide_eq_true (by omega)
    obtain ⟨r1, r2, r3⟩ := H.out.row.set_ (k := k * 2 + 1) (u := .string (str v)) (by rw [vcs_len]; omega) rfl
    rw [vcs_set v hk] at r1
    have hgg := get_at hk hj
    have HV : Hid (setV l n v = (0, l.set k (n, v))) := Lib.hid (by rw [HS.out, if_neg (by rw [hgg.1]; simp), hgg.2])
    have HRW := Lib.hid (And.intro r1 r2)
    have hne := H.out.ne_
    have HNE := Lib.hid (And.intro hne hgb)
    rw [← Nat.add_assoc] at r3
    clear hx hk hj hgg r1 r2 hne hgb
    go_wp2_with fail
    go_ret
    obtain ⟨hne, hgb⟩ := HNE.out
    have hok := HOK.out
    rw [HV.out] at hok
    refine ⟨by rw [HV.out]; rfl, ?_⟩
    rw [HV.out]
    have hqb : q ≠ b := fun e => hne (by rw [hgb, e])
    refine ⟨F, ⟨g, _, H.out.blk.far (p := ⟨b, o + (k * 2 + 1), none⟩) hqb _, ?_, H.out.own, hok⟩, ?_, fun _ e => .inl e⟩
    · have := HRW.out.1
      rw [show (l.set k (n, v)).length = l.length from List.length_set]
      exact this
    · exact (Only.refl F w).setCell (p := ⟨b, o + (k * 2 + 1), none⟩) (.inl ((H.out.own b).2 (.inr hgb))) _
  · obtain ⟨hg0, hp0⟩ := get_no hj
    by_cases hmany : 256 ≤ l.length
    · have d2 : decide ((l.length : Int) ≥ 256) = true := decide_eq_true (by omega)
      have hs : setV l n v = (10, l) := by rw [HS.out, if_pos ⟨hg0, hmany⟩]
      have HSS := Lib.hid hs
      clear hs hg0 hp0 hj
      go_wp2_with fail
      go_ret
      rw [HSS.out]
      exact ⟨rfl, Turned.refl HE.out⟩
    · have d2 : decide ((l.length : Int) ≥ 256) = false := decide_eq_false (by omega)
      have hs : setV l n v = (0, l ++ [(n, v)]) := by rw [HS.out, if_neg (by omega), hp0]
      have HSS := Lib.hid hs
      have HNE := Lib.hid (And.intro H.out.ne_ H.out.blk.lt)
      have hbq : ∀ (W : World) (g' : Option Nat), (w.alloc (.cells #[.string (str n), .string (str v)] 68)).grownBy W g → W.cell? ⟨q, 0, none⟩ = some (.slice A l.length c) ∧ W.frozen? ⟨q, 0, none⟩ = false := fun W g' hg => by
        have hb : Blk W q 30 _ := (H.out.blk.alloc _).keep (hg.block q (by have := HNE.out.2; simp; omega) (fun e => HNE.out.1 e.symm))
        exact ⟨hb.cell 0, hb.frozen 0⟩
      have HBQ := Lib.hid hbq
      clear hs hg0 hp0 hj hbq
      obtain ⟨i0, hi0, hz0, hz1, hz2⟩ := info_parts var_info
      have HS2 := Lib.hid (src_cells (P := Try.prog) (V := w) (C := #[.string (str n), .string (str v)]) (e := 68) (s := 2) Try.underlying28 w.heap.size rfl rfl rfl (by simp [Value.oneCell']))
      go_wp2_with (at_builtin; refine wpList_append_rowS _ rfl (.tmp 39) (.tmp 43) 28 rfl 68 i0 _ 2 32 Try.underlying28 hi0 hz0 hz1 hz2 rfl g _ l.length (vcs l) rfl (H.out.row.alloc _) _ 1 _ rfl HS2.out (by simp only [maxLen]; omega) (by omega) ?_; intro A' c' W' g' hr hg hg'; have k0 := (HBQ.out W' g' hg).1; have k1 := (HBQ.out W' g' hg).2; have Y := Lib.hid (And.intro hr (And.intro hg hg')); clear hr hg hg')
      go_ret
      obtain ⟨hr, hg, hg'⟩ := Y.out
      rw [HSS.out]
      have hok := HOK.out
      rw [HSS.out] at hok
      have hql := HNE.out.2
      have hqn : g' ≠ some q := by
        rcases hg' with e | e
        · rw [e]; exact HNE.out.1
        · rw [e]; simp; omega
      have hbw : Only F w (w.alloc (.cells #[.string (str n), .string (str v)] 68)) := (Only.refl F w).alloc _
      have ho := hbw.grown hg fun k e => .inl ((H.out.own k).2 (.inr e))
      refine ⟨rfl, fun x => x = q ∨ g' = some x, ⟨g', _, ((H.out.blk.alloc _).keep (hg.block q (by simp; omega) (fun e => HNE.out.1 e.symm))).set_ 0 _, ?_, fun _ => Iff.rfl, hok⟩, ho.setCell (p := ⟨q, 0, none⟩) (.inl ((H.out.own q).2 (.inl rfl))) _, ?_⟩
      · rw [List.length_append, List.length_singleton, vcs_snoc]
        exact hr.far (p := ⟨q, 0, none⟩) hqn _
      · rintro x (rfl | e)
        · exact .inl ((H.out.own _).2 (.inl rfl))
        · rcases hg' with e2 | e2
          · rw [e2] at e; exact .inl ((H.out.own x).2 (.inr e))
          · rw [e2] at e; injection e with e; exact .inr (by simp at e; omega)
end Go.Proofs.Yteapcahpkapbbaa
