/-
  The law KmpJoins: two patterns one behind the other stand just where the first one does, if the second one stands behind it.
  Conditions: none.
-/
import Derived.Test.YtigapfgfbdofoaaKLaw
namespace Go.Proofs.Ytigapfgfbdofoaa
open Go.RowKit

/-- Two patterns one behind the other. -/
theorem at_join {l p q : List Int} {i : Nat} : At l (p ++ q) i ↔ At l p i ∧ At l q (i + p.length) := by
  unfold At
  have e : (l.drop i).drop p.length = l.drop (i + p.length) := by rw [List.drop_drop]
  rw [List.length_append, List.take_add, e]
  constructor
  · rintro ⟨h1, h2, h3⟩
    have h4 := List.append_inj h3 (by rw [List.length_take, List.length_drop]; omega)
    exact ⟨⟨h1, by omega, h4.1⟩, by omega, by omega, h4.2⟩
  · rintro ⟨⟨h1, h2, h3⟩, h4, h5, h6⟩
    exact ⟨h1, by omega, by rw [h3, h6]⟩
theorem mem_places {l p : List Int} {i : Nat} : i ∈ places l p ↔ At l p i := by
  unfold places
  rw [List.mem_filter, List.mem_range]
  simp only [decide_eq_true_eq]
  exact ⟨fun h => h.2, fun h => ⟨by have := h.1; omega, h⟩⟩
theorem places_nodup (l p : List Int) : (places l p).Nodup := List.Pairwise.sublist List.filter_sublist List.nodup_range
/-- Those of the first places that the second pattern stands behind. -/
def joined (l p q : List Int) (j : Nat) : List Nat := ((places l p).take j).filter fun i => decide (i + p.length ∈ places l q)
theorem joined_all (l p q : List Int) : joined l p q (places l p).length = places l (p ++ q) := by
  unfold joined
  rw [List.take_length]
  unfold places
  rw [List.filter_filter]
  congr 1
  funext i
  rw [Bool.eq_iff_iff]
  simp only [Bool.and_eq_true, decide_eq_true_eq]
  rw [show (List.range (l.length + 1)).filter (fun i => decide (At l q i)) = places l q from rfl, mem_places, at_join]
  exact And.comm
theorem joined_len (l p q : List Int) (j : Nat) : (joined l p q j).length ≤ j := by
  have h1 := List.length_filter_le (fun i => decide (i + p.length ∈ places l q)) ((places l p).take j)
  have h2 : ((places l p).take j).length ≤ j := List.length_take_le _ _
  unfold joined
  omega
/-- What the first t of the second places bring. -/
def part (l p q : List Int) (x t : Nat) : List Nat := if x + p.length ∈ (places l q).take t then [x] else []
theorem part_zero (l p q : List Int) (x : Nat) : part l p q x 0 = [] := by simp [part]
theorem part_all {l p q : List Int} {j : Nat} (hj : j < (places l p).length) : joined l p q j ++ part l p q ((places l p)[j]) (places l q).length = joined l p q (j + 1) := by
  unfold joined part
  rw [List.take_length, List.take_succ_eq_append_getElem hj, List.filter_append]
  congr 1
  by_cases h : (places l p)[j] + p.length ∈ places l q <;> simp [h]
theorem part_yes {l p q : List Int} {x t : Nat} (ht : t < (places l q).length) (e : (places l q)[t] = x + p.length) : part l p q x t = [] ∧ part l p q x (t + 1) = [x] := by
  have hn := places_nodup l q
  have hni : x + p.length ∉ (places l q).take t := by
    intro h
    rw [← List.take_append_drop t (places l q), List.nodup_append] at hn
    refine hn.2.2 _ h (x + p.length) ?_ rfl
    rw [← e, List.drop_eq_getElem_cons ht]
    exact List.mem_cons_self
  unfold part
  rw [if_neg hni, List.take_succ_eq_append_getElem ht, if_pos (List.mem_append.2 (.inr (by rw [e]; exact List.mem_singleton.2 rfl)))]
  exact ⟨rfl, rfl⟩
theorem part_no {l p q : List Int} {x t : Nat} (ht : t < (places l q).length) (e : (places l q)[t] ≠ x + p.length) : part l p q x (t + 1) = part l p q x t := by
  have h : x + p.length ∈ (places l q).take (t + 1) ↔ x + p.length ∈ (places l q).take t := by
    rw [List.take_succ_eq_append_getElem ht, List.mem_append, List.mem_singleton]
    exact ⟨fun h => h.elim id fun h => absurd h.symm e, .inl⟩
  unfold part
  by_cases hm : x + p.length ∈ (places l q).take t
  · rw [if_pos hm, if_pos (h.2 hm)]
  · rw [if_neg hm, if_neg fun hh => hm (h.1 hh)]
theorem part_len (l p q : List Int) (x t : Nat) : (part l p q x t).length ≤ 1 := by unfold part; split <;> simp

set_option maxRecDepth 100000 in
set_option maxHeartbeats 4000000 in
theorem joins_true (A : Option Addr) (n c : Nat) (l : List Int) (B : Option Addr) (m d : Nat) (p : List Int) (C : Option Addr) (k f : Nat) (q : List Int) (w : World) (ht : Rd w (.slice A n c) (iv l)) (hp : Rd w (.slice B m d) (iv p)) (hq : Rd w (.slice C k f) (iv q)) :
    Calls Try.prog 9 #[.slice A n c, .slice B m d, .slice C k f] w fun e w' => e = .returned (.bool true) ∧ Below w.heap.size w w' := by
  obtain ⟨i0, hi0, hz0, hz1, hz2⟩ := info_parts int_info
  obtain ⟨hnl, -⟩ := ht.ints
  obtain ⟨hml, -⟩ := hp.ints
  obtain ⟨hkl, -⟩ := hq.ints
  have HT := Lib.hid (And.intro ht (And.intro hp hq))
  have HNL := Lib.hid (And.intro hnl (And.intro hml hkl))
  clear ht hp hq hnl hml hkl
  go_enter Try.func9, Try.ntmps9
  go_wp2_with fail
  refine (alive_true w).mono ?_
  rintro e w1 ⟨rfl, hb1⟩
  have X1 := Lib.hid hb1
  clear hb1
  have G := great_three A B C n c m d k f w1
  by_cases hg : n ≤ 100 ∧ m ≤ 100 ∧ k ≤ 100
  case neg =>
    rw [show (decide (100 < n) || (decide (100 < m) || decide (100 < k))) = true by simp; omega] at G
    have HG := Lib.hid G
    clear G
    go_wp2_with fail
    refine HG.out.mono ?_
    rintro e w2 ⟨rfl, hw2⟩
    have X2 : Hid (Below w.heap.size w w2) := Lib.hid (by rw [← hw2]; exact X1.out.alloc X1.out.size _)
    clear hw2 HG
    go_wp2_with fail
    refine (alive_true w2).mono ?_
    rintro e w3 ⟨rfl, hb3⟩
    have X3 := Lib.hid (X2.out.trans (hb3.mono X2.out.size))
    clear hb3
    go_wp2
    go_ret
    exact ⟨rfl, X3.out⟩
  case pos =>
    rw [show (decide (100 < n) || (decide (100 < m) || decide (100 < k))) = false by simp; omega] at G
    have HG := Lib.hid G
    obtain ⟨hg1, hg2, hg3⟩ := hg
    clear G
    go_wp2_with fail
    refine HG.out.mono ?_
    rintro e w2 ⟨rfl, hw2⟩
    have X2 : Hid (Below w.heap.size w w2) := Lib.hid (by rw [← hw2]; exact X1.out.alloc X1.out.size _)
    clear hw2 HG X1
    have HC := Lib.hid (all_i A C n c k f l q (by have := HNL.out; omega) (by have := HNL.out; omega) w2 (HT.out.1.kept X2.out) (HT.out.2.2.kept X2.out))
    go_wp2_with fail
    refine HC.out.mono ?_
    rintro e w3 h3
    obtain ⟨A3, c3, -, rfl, -⟩ := id h3
    obtain ⟨-, r3, hb3⟩ := h3.rd
    have X3 := Lib.hid (And.intro (X2.out.trans (hb3.mono X2.out.size)) r3)
    clear h3 r3 hb3 HC X2
    have HC := Lib.hid (all_i A B n c m d l p (by have := HNL.out; omega) (by have := HNL.out; omega) w3 (HT.out.1.kept X3.out.1) (HT.out.2.1.kept X3.out.1))
    go_wp2_with fail
    refine HC.out.mono ?_
    rintro e w4 h4
    obtain ⟨A4, c4, -, rfl, -⟩ := id h4
    obtain ⟨-, r4, hb4⟩ := h4.rd
    have X4 := Lib.hid (And.intro (X3.out.1.trans (hb4.mono X3.out.1.size)) (And.intro (X3.out.2.kept hb4) r4))
    clear h4 r4 hb4 HC X3
    have L1 : (places l p).length ≤ 101 := by have := places_len l p; have := HNL.out; omega
    have L2 : (places l q).length ≤ 101 := by have := places_len l q; have := HNL.out; omega
    have L0 : l.length ≤ 100 := by have := HNL.out; omega
    rw [ni_len, ni_len] at X4 ⊢
    go_wp2
    go_loopw [7, 30] (fun v i wr => ∃ j : Nat, j ≤ (places l p).length ∧ i = .int .i64 j ∧ Hid (IntsI w4 v (ni (joined l p q j)) wr)) (fun _ i _ => (places l p).length - (intOf i).toNat)
    case atStart => exact ⟨0, Nat.zero_le _, rfl, Lib.hid (IntsI.nil w4)⟩
    case round =>
      obtain ⟨j, hj, rfl, HI⟩ := hrel
      obtain ⟨A5, c5, rfl⟩ := HI.out.form
      have J1 := joined_len l p q j
      by_cases hlt : j < (places l p).length
      · have HJ := Lib.hid (part_all (q := q) hlt)
        obtain ⟨b, o, rfl, hx⟩ := (X4.out.2.2.kept HI.out.choose_spec.2.2).ints.2.2 (by rw [ni_len]; omega)
        have y := hx j (by rw [ni_len]; omega)
        rw [show (ni (places l p))[j]?.getD 0 = (((places l p)[j] : Nat) : Int) by simp [ni, hlt]] at y
        have hxl : (places l p)[j] ≤ l.length := (mem_places.1 (List.getElem_mem hlt)).1
        clear hx
        generalize (places l p)[j] = x at *
        have hs0 : Hid (IntsI w4 (.slice A5 (ni (joined l p q j)).length c5) (ni (joined l p q j ++ part l p q x 0)) wr) := Lib.hid (by rw [part_zero, List.append_nil]; exact HI.out)
        have y0 := Lib.hid y
        clear HI
        rw [ni_len] at hs0 ⊢
        go_wp2
        clear y
        go_loopw [7, 36] (fun v i wi => ∃ t : Nat, t ≤ (places l q).length ∧ i = .int .i64 t ∧ Hid (IntsI w4 v (ni (joined l p q j ++ part l p q x t)) wi)) (fun _ i _ => (places l q).length - (intOf i).toNat)
        case atStart => exact ⟨0, Nat.zero_le _, rfl, hs0⟩
        case round =>
          obtain ⟨t, ht, rfl, HI2⟩ := hrel
          obtain ⟨A6, c6, rfl⟩ := HI2.out.form
          have J2 := part_len l p q x t
          have J3 : (joined l p q j ++ part l p q x t).length ≤ 102 := by rw [List.length_append]; have := HNL.out; omega
          by_cases hlt2 : t < (places l q).length
          · obtain ⟨b2, o2, rfl, hx⟩ := (X4.out.2.1.kept HI2.out.choose_spec.2.2).ints.2.2 (by rw [ni_len]; omega)
            have y := hx t (by rw [ni_len]; omega)
            rw [show (ni (places l q))[t]?.getD 0 = (((places l q)[t] : Nat) : Int) by simp [ni, hlt2]] at y
            have hul : (places l q)[t] ≤ l.length := (mem_places.1 (List.getElem_mem hlt2)).1
            have PY := Lib.hid (part_yes (p := p) (x := x) hlt2)
            have PN := Lib.hid (part_no (p := p) (x := x) hlt2)
            have hmp : m = p.length := HNL.out.2.1
            clear hx
            generalize (places l q)[t] = u at *
            by_cases hux : u = x + p.length
            · have q0 : ((u : Int) == (x : Int) + (m : Int)) = true := beq_iff_eq.2 (by omega)
              have HP := Lib.hid (PY.out hux)
              obtain ⟨go, hr, hgo, hb⟩ := HI2.out
              have X := Lib.hid (And.intro hr (And.intro hgo hb))
              clear hux PY PN hmp hr hgo hb HI2
              go_wp2_with (at_builtin; refine wpList_append_row _ rfl (.tmp 46) (.tmp 48) _ rfl 3 i0 _ 8 Try.underlying22 hi0 hz0 hz1 hz2 rfl go _ (iv (ni (joined l p q j ++ part l p q x t))) rfl (X.out.1.alloc _) _ [.int .i64 (x : Int)] rfl (Rd.lit wr 3 #[.int .i64 (x : Int)] 1 rfl (by omega) (by omega) (by simp [Value.oneCell'])) (by rw [iv_len, ni_len]; simp only [maxLen, List.length_singleton]; omega) (by rw [iv_len, ni_len, List.length_singleton]; omega) ?_; intro B' d' w7 gn hrow' hgr hgn; simp only [iv_len, ni_len] at hrow' ⊢; have Y := Lib.hid (And.intro hrow' (And.intro hgr hgn)); clear hrow' hgr hgn)
              go_roundw
              case rel =>
                refine ⟨t + 1, by omega, by go_num, Lib.hid ?_⟩
                have := IntsI.grown (w0 := w4) (xs := ni (joined l p q j ++ part l p q x t)) (ys := [(x : Int)]) X.out.2.1 (X.out.2.2.alloc X.out.2.2.size _) Y.out.1 Y.out.2.1 Y.out.2.2
                rw [HP.out.2]
                rw [← ni_snoc, HP.out.1, List.append_nil] at this
                simpa [HP.out.1] using this
              case measure => simp [intOf]; omega
            · have q0 : ((u : Int) == (x : Int) + (m : Int)) = false := beq_eq_false_iff_ne.2 (by omega)
              have HP := Lib.hid (PN.out hux)
              clear hux PY PN hmp
              go_wp2
              go_roundw
              case rel => exact ⟨t + 1, by omega, by go_num, Lib.hid (by rw [HP.out]; exact HI2.out)⟩
              case measure => simp [intOf]; omega
          · obtain rfl : t = (places l q).length := by omega
            have HI3 := HI2
            rw [HJ.out] at HI3
            go_wp2
            go_roundw
            case rel => exact ⟨j + 1, by omega, by go_num, by rw [HJ.out]; exact HI3⟩
            case measure => simp [intOf]; omega
      · obtain rfl : j = (places l p).length := by omega
        rw [joined_all] at HI ⊢
        have HR := Lib.hid (IntsTo.rd HI.out.to)
        have XW : Hid (Below w.heap.size w wr) := Lib.hid (X4.out.1.trans (HR.out.2.2.mono X4.out.1.size))
        have RP := Lib.hid ((HT.out.2.1.kept XW.out).alloc (.cells #[] 3))
        have RQ := Lib.hid (HT.out.2.2.kept XW.out)
        have P3 := Lib.hid (places_len l (p ++ q))
        go_wp2_with (first
          | (at_builtin; refine wpList_append_row _ rfl (.tmp 53) (.tmp 54) _ rfl 3 i0 _ 8 Try.underlying22 hi0 hz0 hz1 hz2 rfl none (.slice (some ⟨wr.heap.size, 0, none⟩) 0 0) (iv []) rfl (Row.empty _ _ _) (.slice B m d) (iv p) rfl RP.out (by have := HNL.out; rw [iv_len, iv_len]; simp only [maxLen, List.length_nil]; omega) (by have := HNL.out; rw [iv_len, iv_len, List.length_nil]; omega) ?_; intro B1 d1 w5 g1 hrow hgr hgn; simp only [iv_len] at hrow ⊢; have Y1 := Lib.hid (IntsI.grown (w0 := wr) (xs := []) (ys := p) (go := none) (fun b e => by cases e) ((Below.refl _ wr).alloc (Nat.le_refl _) _) hrow hgr hgn); simp only [List.length_nil, Nat.zero_add, List.nil_append] at Y1 ⊢; clear hrow hgr hgn; obtain ⟨go, hrow, hg, hb⟩ := Y1.out; have Y1 := Lib.hid (And.intro hrow (And.intro hg hb)); clear hrow hg hb)
          | (at_builtin; refine wpList_append_row _ rfl (.tmp 55) (.tmp 56) _ rfl 3 i0 _ 8 Try.underlying22 hi0 hz0 hz1 hz2 rfl go (.slice B1 p.length d1) (iv p) rfl Y1.out.1 (.slice C k f) (iv q) rfl (RQ.out.kept Y1.out.2.2) (by have := HNL.out; rw [iv_len, iv_len]; simp only [maxLen]; omega) (by have := HNL.out; rw [iv_len, iv_len]; omega) ?_; intro B2 d2 w6 g2 hrow hgr hgn; simp only [iv_len] at hrow ⊢; have Y2 := Lib.hid (IntsI.grown (w0 := wr) (xs := p) (ys := q) Y1.out.2.1 Y1.out.2.2 hrow hgr hgn); clear hrow hgr hgn Y1))
        have RJ := Lib.hid (IntsTo.rd Y2.out.to)
        have XY : Hid (Below w.heap.size w w6) := Lib.hid (XW.out.trans (RJ.out.2.2.mono XW.out.size))
        have HC := Lib.hid (all_i A B2 n c (p.length + q.length) d2 l (p ++ q) (by have := HNL.out; omega) (by have := HNL.out; rw [List.length_append]; omega) w6 (HT.out.1.kept XY.out) RJ.out.2.1)
        clear Y2
        refine HC.out.mono ?_
        rintro e w7 h7
        obtain ⟨A7, c7, -, rfl, -⟩ := id h7
        obtain ⟨-, r7, hb7⟩ := h7.rd
        have X7 := Lib.hid (And.intro (XY.out.trans (hb7.mono XY.out.size)) r7)
        have RI := Lib.hid ((HR.out.2.1.kept RJ.out.2.2).kept hb7)
        clear h7 hb7 r7 HC
        have HS := Lib.hid (Same_eq (ni (places l (p ++ q))) _ _ _ _ _ _ w7 X7.out.2 RI.out (by rw [ni_len]; have := P3.out; have := HNL.out; omega))
        go_wp2_with fail
        refine HS.out.mono ?_
        rintro e w8 ⟨rfl, nd, hw8⟩
        have X8 : Hid (Below w.heap.size w w8) := Lib.hid (by rw [hw8]; have := X7.out.1; exact ⟨this.os, this.tape, this.output, this.size, this.block⟩)
        clear hw8 HS
        go_wp2
        go_ret
        exact ⟨rfl, X8.out⟩
end Go.Proofs.Ytigapfgfbdofoaa
