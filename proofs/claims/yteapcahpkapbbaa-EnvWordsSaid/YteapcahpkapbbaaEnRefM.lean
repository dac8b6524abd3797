/-
  The document's Names.
  Conditions: at most 256 variables.
-/
import Derived.Test.YteapcahpkapbbaaEnRef
import Derived.Test.YteapcahpkapbbaaStrI
import Derived.Deep.QuietTactic
import Derived.BigQuiet
namespace Go.Proofs.Yteapcahpkapbbaa
open Go.RowKit

theorem order_end {x : List (List Nat)} {m n : List Nat} (h : InOrder (x ++ [m])) (hn : lessN n m = false) : ∀ a ∈ x ++ [m], lessN n a = false := by
  intro a ha
  rcases List.mem_append.1 ha with ha | ha
  · have h1 := (List.pairwise_append.1 h).2.2 a ha m (by simp)
    cases e : lessN n a with
    | false => rfl
    | true =>
      rcases not_less h1 with k | k
      · rw [k, e] at hn; cases hn
      · have := less_trans e k; rw [this] at hn; cases hn
  · rw [List.mem_singleton.1 ha]; exact hn

set_option maxRecDepth 100000 in
set_option maxHeartbeats 4000000 in
theorem RNames_is {q : Nat} {l : Vrs} {F : Nat → Prop} {w : World} (h : RefE q l F w) :
    Calls Try.prog 20 #[.pointer (some ⟨q, 0, none⟩)] w (StrsTo w (namesV l)) := by
  obtain ⟨i0, hi0, hz0, hz1, hz2⟩ := info_parts str_info
  obtain ⟨g, v, h⟩ := h
  obtain ⟨A, c, rfl, hle⟩ := h.row.form
  have hq := h.blk.lt
  have c0 : w.cell? ⟨q, 0, none⟩ = some (.slice A l.length c) := h.blk.cell 0
  have hl := h.ok.1
  have H := Lib.hid h
  have HB : Hid (∀ (i : Nat) n x, l[i]? = some (n, x) → ∀ c ∈ n, c < 256) := Lib.hid fun i n x e => (H.out.ok.2 _ (List.mem_of_getElem? e)).1
  have HBM : Hid (∀ (L : Vrs), (∀ p ∈ L, p ∈ l) → ∀ s ∈ sortN (L.map (·.1)), ∀ c ∈ s, c < 256) := Lib.hid fun L hL s hs => by
    rw [sort_mem] at hs
    obtain ⟨p, hp, rfl⟩ := List.mem_map.1 hs
    exact (H.out.ok.2 p (hL p hp)).1
  clear h
  go_enter Try.func20, Try.ntmps20
  go_wp2_with fail
  go_loopw [3, 4] (fun o i wr => ∃ k : Nat, k ≤ l.length ∧ i = .int .i64 (k : Nat) ∧ Hid (StrsI w o (sortN ((l.take k).map (·.1))) wr)) (fun _ i _ => l.length - (intOf i).toNat)
  case atStart => exact ⟨0, by omega, rfl, Lib.hid (StrsI.nil w)⟩
  case round =>
    obtain ⟨k, hk, rfl, HI⟩ := hrel
    obtain ⟨A1, c1, rfl⟩ := HI.out.form
    have hsl : (sortN ((l.take k).map (·.1))).length = k := by rw [sort_len, List.length_map, List.length_take]; omega
    rw [hsl] at HI ⊢
    obtain ⟨go, hro, hgo, hbo⟩ := HI.out
    have y0 : wr.cell? ⟨q, 0, none⟩ = some (.slice A l.length c) := (hbo.cell (p := ⟨q, 0, none⟩) hq).trans c0
    by_cases hlt : k < l.length
    · obtain ⟨p, hp⟩ : ∃ p, l[k]? = some p := ⟨_, List.getElem?_eq_getElem hlt⟩
      obtain ⟨n, x⟩ := p
      obtain ⟨b, o, c', e1, hgb, -, hx⟩ := H.out.row.cells (by omega)
      injection e1 with e1 _ _
      subst e1
      have hbl := H.out.row.lt hgb
      have y1 : wr.cell? ⟨b, o + k * 2, none⟩ = some (.string (str n)) := (hbo.cell (p := ⟨b, o + k * 2, none⟩) hbl).trans (hx _ _ (vcs_at hp).1)
      have HN := Lib.hid (HB.out k n x hp)
      have HT : Hid (sortN ((l.take (k + 1)).map (·.1)) = insN (sortN ((l.take k).map (·.1))) n) := Lib.hid (by rw [List.take_add_one, hp]; simp only [Option.toList_some, List.map_append, List.map_cons, List.map_nil]; exact sort_snoc _ _)
      have HO := Lib.hid (And.intro (sort_order ((l.take k).map (·.1))) (HBM.out (l.take k) fun p hp => List.mem_of_mem_take hp))
      have X := Lib.hid (And.intro hro (And.intro hgo hbo))
      have HSL := Lib.hid hsl
      have r1 : decide ((k : Int) < (l.length : Int)) = true := decide_eq_true (by omega)
      generalize sortN ((l.take k).map (·.1)) = srt at *
      clear hro hgo hbo hx hp HI hgb hbl hsl
      go_wp2_with (at_builtin; refine wpList_append_row _ rfl (.tmp 16) (.tmp 25) _ rfl 9 i0 _ 16 Try.underlying45 hi0 hz0 hz1 hz2 rfl go _ (sv srt) rfl (X.out.1.alloc _) _ (sv [n]) rfl (Row.new wr 9 #[.string (str n)] 1 rfl (by simp only [maxLen]; omega) (by omega) (by simp [Value.oneCell'])).rd (by rw [sv_len, sv_len, HSL.out]; simp only [maxLen, List.length_singleton]; omega) (by rw [sv_len, sv_len, HSL.out]; simp only [List.length_singleton]; omega) ?_; intro B' d' w7 gn hrow' hgr hgn; rw [sv_len, sv_len, HSL.out] at hrow' ⊢; simp only [List.length_singleton] at hrow' ⊢; have Y := Lib.hid (StrsI.grown (w0 := w) (xs := srt) (ys := [n]) X.out.2.1 (X.out.2.2.alloc X.out.2.2.size _) hrow' hgr hgn); clear hrow' hgr hgn)
      obtain ⟨wo, rfl⟩ : ∃ wo, wo = wr := ⟨_, rfl⟩
      obtain ⟨N, hN⟩ : ∃ N, N = k + 1 := ⟨_, rfl⟩
      rw [← hN] at Y ⊢
      have wk : IntKind.i64.wrap ((N : Int) - 1) = (k : Int) := by rw [IntWalk.i64_in _ (by omega)]; omega
      have HNN := Lib.hid hN
      have hNb : N ≤ 257 := by omega
      have hkN : k < N := by omega
      clear X hN
      go_wp2_with fail
      go_loopw [5] (fun kv wr => ∃ (j : Nat) (x y : List (List Nat)), j < N ∧ kv = .int .i64 (j : Nat) ∧ Hid (j = x.length ∧ srt = x ++ y ∧ ∀ a, y.head? = some a → lessN n a = true) ∧ Hid (StrsI w (.slice B' N d') (x ++ n :: y) wr)) (fun kv _ => (intOf kv).toNat)
      case atStart => exact ⟨k, srt, [], hkN, rfl, Lib.hid ⟨HSL.out.symm, by simp, by simp⟩, Lib.hid Y.out⟩
      case round =>
        obtain ⟨j, x, y, hjN, rfl, HX, HS⟩ := hrel
        clear Y
        by_cases hj : 0 < j
        · obtain ⟨x', m, hxm⟩ : ∃ x' m, x = x' ++ [m] := by
            rcases List.eq_nil_or_concat x with e | ⟨x', m, e⟩
            · have := HX.out.1; rw [e] at this; simp at this; omega
            · exact ⟨x', m, by rw [e, List.concat_eq_append]⟩
          obtain ⟨u, hu⟩ : ∃ u, u = x'.length := ⟨_, rfl⟩
          have hju : j = u + 1 := by rw [HX.out.1, hxm, List.length_append, List.length_singleton, hu]
          have hn0 : (x ++ n :: y)[j]? = some n := by rw [HX.out.1, List.getElem?_append_right (Nat.le_refl _), Nat.sub_self]; rfl
          have hm0 : (x ++ n :: y)[u]? = some m := by rw [hxm, List.append_assoc, List.getElem?_append_right (by omega), hu, Nat.sub_self]; rfl
          obtain ⟨bk, ok, rfl, cn⟩ := HS.out.at_ hn0
          obtain ⟨bk', ok', e2, cm⟩ := HS.out.at_ hm0
          injection e2 with e2
          injection e2 with e3 e4 _
          subst e3 e4
          have hmb : ∀ c ∈ m, c < 256 := HO.out.2 m (by rw [HX.out.2.1, hxm]; simp)
          have HL := Lib.hid (less_str HN.out hmb)
          have q1 : decide (0 < j) = true := decide_eq_true hj
          have wj : IntKind.i64.wrap ((j : Int) - 1) = (u : Int) := by rw [IntWalk.i64_in _ (by omega)]; omega
          have b1 : (j : Int) < (N : Int) := by omega
          have b2 : (u : Int) < (N : Int) := by omega
          have HJ := Lib.hid (And.intro hju (And.intro hxm hu))
          by_cases hless : lessN n m = true
          · have q2 : Op.bytesLess (str n).toList (str m).toList = true := by rw [HL.out]; exact hless
            have hjl : j < (x ++ n :: y).length := (List.getElem?_eq_some_iff.1 hn0).1
            have hul : u < ((x ++ n :: y).set j m).length := by rw [List.length_set]; omega
            have hm1 : ((x ++ n :: y).set j m)[u]? = some m := by rw [List.getElem?_set, if_neg (by omega)]; exact hm0
            have HLE := Lib.hid hless
            have HI2 := Lib.hid (And.intro hjl (And.intro hul hm1))
            clear hn0 hm0 hju hxm hu hj hless hmb hjl hul hm1
            go_wp2_with fail
            go_quiet (fail)
            have HS2 := Lib.hid (HS.out.drewN nq)
            have cn2 : (World.drewN wr nq).cell? ⟨bk, ok + j, none⟩ = some (.string (str n)) := cn
            have cm2 : (World.drewN wr nq).cell? ⟨bk, ok + u, none⟩ = some (.string (str m)) := cm
            generalize World.drewN wr nq = w9 at *
            obtain ⟨s1, f1⟩ := HS2.out.set_ HI2.out.1 m
            obtain ⟨bk', ok', e2, cm3⟩ := s1.at_ HI2.out.2.2
            injection e2 with e2
            injection e2 with e3 e4 _
            subst e3 e4
            obtain ⟨s2, f2⟩ := s1.set_ HI2.out.2.1 n
            have HSN := Lib.hid s2
            clear s1 s2 HS cn cm
            go_wp2_with fail
            go_roundw
            case rel =>
              obtain ⟨hju, hxm, hu⟩ := HJ.out
              refine ⟨u, x', m :: y, by omega, by go_num, Lib.hid ⟨hu, by rw [HX.out.2.1, hxm, List.append_assoc]; rfl, fun a e => by simp only [List.head?_cons, Option.some.injEq] at e; rw [← e]; exact HLE.out⟩, Lib.hid ?_⟩
              have e : ((x ++ n :: y).set j m).set u n = x' ++ n :: m :: y := by
                rw [hxm, List.append_assoc, List.set_append, if_neg (by omega), List.set_append, if_neg (by omega), hju, hu, show x'.length + 1 - x'.length = 1 by omega, Nat.sub_self]
                rfl
              rw [← e]
              exact HSN.out
            case measure => have := HJ.out.1; simp [intOf]; omega
          · have q2 : Op.bytesLess (str n).toList (str m).toList = false := by rw [HL.out]; simpa using hless
            have HLE := Lib.hid hless
            clear hn0 hm0 hju hxm hu hj hless hmb
            go_wp2_with fail
            go_quiet (fail)
            have HS2 := Lib.hid (HS.out.drewN nq)
            generalize World.drewN wr nq = w9 at *
            clear HS
            go_wp2_with fail
            go_roundw
            case rel => exact ⟨k + 1, by omega, by go_num, Lib.hid (by rw [HT.out, HX.out.2.1, ins_at (by have h := HO.out.1; rw [HX.out.2.1, HJ.out.2.1, List.append_assoc] at h; rw [HJ.out.2.1]; exact order_end (List.pairwise_append.1 (by rw [← List.append_assoc] at h; exact h)).1 (by simpa using HLE.out)) HX.out.2.2]; exact HS2.out)⟩
            case measure => simp [intOf]; omega
        · have hj0 : j = 0 := by omega
          have q1 : decide (0 < j) = false := decide_eq_false hj
          have HJ := Lib.hid hj0
          clear hj hj0
          go_wp2_with fail
          go_quiet (fail)
          have HS2 := Lib.hid (HS.out.drewN nq)
          generalize World.drewN wr nq = w9 at *
          clear HS
          go_wp2_with fail
          go_roundw
          case rel => exact ⟨k + 1, by omega, by go_num, Lib.hid (by rw [HT.out, HX.out.2.1, ins_at (by intro a ha; have h := HX.out.1; rw [HJ.out] at h; rw [List.eq_nil_of_length_eq_zero h.symm] at ha; cases ha) HX.out.2.2]; exact HS2.out)⟩
          case measure => simp [intOf]; omega
    · obtain rfl : k = l.length := by omega
      rw [List.take_length] at HI hsl
      go_wp2_with fail
      go_ret
      refine ⟨A1, c1, ?_, ?_⟩
      · rw [namesV, hsl]; rfl
      · rw [namesV, hsl]; exact HI.out
end Go.Proofs.Yteapcahpkapbbaa
