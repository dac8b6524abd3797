/-
  The contract of cuecardref01.Queue's Put.
  Conditions: at most 65536 things; what is handed in lies apart from the queue.
-/
import Derived.Test.YtfmmomdfmmoklaaDoorPRef
namespace Go.Proofs.YtfmmomdfmmoklaaDoor
open Go.RowKit

/-- What the document's Put leaves. -/
def RPutTo (w : World) (m : Nat) (g : Option Nat) (most : Nat) (en : Bool) (k : Nat) (zs : List Int) (e : Ending) (w' : World) : Prop :=
  ∃ g', e = .returned (.int .i64 k) ∧ MAt w' m g' most en (iv zs) ∧ Only (fun b => b = m ∨ some b = g) w w' ∧ (g' = g ∨ ∃ b, g' = some b ∧ w.heap.size ≤ b)

theorem RPut_at {w : World} {m most : Nat} {g : Option Nat} {en : Bool} {xs : List Int} (h : MAt w m g most en (iv xs)) (hmost : most ≤ 65536) (hle : xs.length ≤ most)
    {B : Option Addr} {c : Nat} {ys : List Int} (hsrc : ∀ W', Only (fun b => b = m ∨ some b = g) w W' → Rd W' (.slice B ys.length c) (iv ys)) (hn : ys.length ≤ 9223372036854775806) :
    Calls Tryd.prog 33 #[.pointer (some ⟨m, 0, none⟩), .slice B ys.length c] w (RPutTo w m g most en (putN most en xs.length ys.length) (xs ++ ys.take (putN most en xs.length ys.length))) := by
  obtain ⟨i0, hi0, hz0, hz1, hz2⟩ := info_parts int_info
  have hk : putN most en xs.length ys.length = min ys.length (if en then 0 else most - xs.length) := rfl
  rw [hk]
  have hr0 : (if en then 0 else most - xs.length) ≤ most - xs.length := by split <;> omega
  have hroom : ∀ j : Nat, xs.length + j ≤ most → roomOf most en (xs.length + j) = if en then 0 else ((most - xs.length : Nat) : Int) - j := by
    intro j hj
    unfold roomOf
    split <;> omega
  have hrr : Hid (∀ j : Nat, j ≤ (if en then 0 else most - xs.length) → roomOf most en (xs.length + j) = (((if en then 0 else most - xs.length) - j : Nat) : Int)) := by
    intro j hj
    cases en
    · simp at hj
      rw [hroom j (by omega)]
      simp; omega
    · simp at hj
      subst hj
      simp [roomOf]
  clear hroom hk
  generalize (if en then 0 else most - xs.length) = r at *
  have H := Lib.hid h
  have HSrc := Lib.hid hsrc
  clear h hsrc
  go_enter Tryd.func33, Tryd.ntmps33
  go_wp2
  go_loopw [5, 6] (fun n i wr => ∃ (k : Nat) (g' : Option Nat), k ≤ ys.length ∧ i = .int .i64 k ∧ n = .int .i64 (min k r : Nat) ∧ Hid (MAt wr m g' most en (iv (xs ++ ys.take (min k r))) ∧ Only (fun b => b = m ∨ some b = g) w wr ∧ (g' = g ∨ ∃ b, g' = some b ∧ w.heap.size ≤ b))) (fun _ i _ => ys.length - (intOf i).toNat)
  case atStart => exact ⟨0, g, Nat.zero_le _, rfl, by simp, by simpa using H.out, Only.refl _ _, .inl rfl⟩
  case round =>
    obtain ⟨k, g', hk, rfl, rfl, HS⟩ := hrel
    have HBel := Lib.hid HS.out.2.1
    by_cases hklt : k < ys.length
    · obtain ⟨x, hx⟩ : ∃ x, ys[k]?.getD 0 = x := ⟨_, rfl⟩
      obtain ⟨b, o, rfl, hcell⟩ := (HSrc.out wr HBel.out).ints.2.2 (by omega)
      have hcx : wr.cell? ⟨b, o + k, none⟩ = some (.int .i64 x) := by rw [← hx]; exact hcell k hklt
      have HX := Lib.hid (take_next ys k hklt)
      rw [hx] at HX
      clear hx hcell
      by_cases hkr : k < r
      · have e1 : min k r = k := by omega
        rw [e1] at HS ⊢
        clear e1
        have hlen : (xs ++ ys.take k).length = xs.length + k := by rw [List.length_append, List.length_take]; omega
        obtain ⟨zs, hzs⟩ : ∃ zs, xs ++ ys.take k = zs := ⟨_, rfl⟩
        rw [hzs] at HS hlen
        have HZ := Lib.hid (And.intro hzs hlen)
        have hzl : zs.length ≤ 65536 := by omega
        clear hzs hlen
        go_wp2_with fail
        have PR := RRoom_at HS.out.1 hmost (by rw [List.length_map, HZ.out.2]; omega)
        rw [List.length_map, HZ.out.2, hrr.out k (by omega)] at PR
        refine PR.mono ?_
        clear PR
        rintro e w1 ⟨rfl, nd, rfl⟩
        have hm1 : MAt (wr.drewN nd) m g' most en (iv zs) := HS.out.1
        have hne := hm1.ne_
        have hmlt := hm1.blk_lt
        obtain ⟨v, hb, hrow⟩ := hm1
        obtain ⟨A, cc, rfl⟩ := hrow.form
        rw [List.length_map] at hb hrow
        have hcx1 : (wr.drewN nd).cell? ⟨b, o + k, none⟩ = some (.int .i64 x) := hcx
        clear hcx
        obtain ⟨w1, hw1⟩ : ∃ w1, wr.drewN nd = w1 := ⟨_, rfl⟩
        rw [hw1] at hb hrow hmlt hcx1
        have HW1 := Lib.hid hw1
        have c0 : w1.cell? ⟨m, 0, none⟩ = some (.slice A zs.length cc) := hb.cell 0
        have hkpos : (0 : Int) < ((r - k : Nat) : Int) := by omega
        have hkpos' : 0 < r - k := by omega
        have hki : (k : Int) < ys.length := by omega
        have hk0 : (0 : Int) ≤ k := by omega
        rw [hw1]
        clear hw1
        have X := Lib.hid (And.intro hb (And.intro hrow (And.intro hne hmlt)))
        clear hb hrow hne
        go_wp2
        go_region_law (refine step_append_row _ rfl (.tmp 22) (.tmp 27) _ rfl 3 i0 _ 8 Tryd.underlying40 hi0 hz0 hz1 hz2 rfl g' (.slice A zs.length cc) (iv zs) (by simp [Act.eval]) (by exact (Row.alloc (w := w1.drew) X.out.2.1 _)) (.slice (some ⟨w1.heap.size, 0, none⟩) 1 1) [.int .i64 x] (by simp [Act.eval]) (by exact Rd.lit w1.drew 3 #[.int .i64 x] 1 rfl (by omega) (by omega) (by simp [Value.oneCell'])) (by simp only [maxLen]; simp; omega) (by simp; omega) ?_; intro A' c' w2 gn hrow' hgr hgn; simp only [List.length_map, List.length_cons, List.length_nil, Nat.zero_add] at hrow' ⊢; have d0 : w2.cell? ⟨m, 0, none⟩ = some (.slice A zs.length cc) := ((Blk.alloc (w := w1.drew) X.out.1 _).keep (hgr.block m (by have := X.out.2.2.2; simp; omega) (Ne.symm X.out.2.2.1))).cell 0; have e0 : w2.frozen? ⟨m, 0, none⟩ = false := ((Blk.alloc (w := w1.drew) X.out.1 _).keep (hgr.block m (by have := X.out.2.2.2; simp; omega) (Ne.symm X.out.2.2.1))).frozen 0; have Y := Lib.hid (And.intro hrow' (And.intro hgr hgn)); clear hrow' hgr hgn)
        all_goals
          go_wp2
          go_roundw
          case rel =>
            obtain ⟨hrow', hgr, hgn⟩ := Y.out
            obtain ⟨hm0, ho, hg⟩ := HS.out
            obtain ⟨hb, _, hne, hmlt⟩ := X.out
            have hb2 := (Blk.alloc (w := w1.drew) hb _).keep (hgr.block m (by simp; omega) (Ne.symm hne))
            have hsz : w.heap.size ≤ w1.heap.size := by rw [← HW1.out]; exact ho.size
            have ho1 : Only (fun b => b = m ∨ some b = g) w w1 := by rw [← HW1.out]; exact ho.drewN nd
            have hnm : gn ≠ some m := by
              rcases hgn with rfl | rfl
              · exact hne
              · intro e; have e' : w1.heap.size + 1 = m := by simpa using e
                omega
            refine ⟨k + 1, gn, by omega, by go_num, by rw [show min (k + 1) r = k + 1 by omega]; go_num, ⟨_, hb2.set_ 0 _, ?_⟩, ?_, ?_⟩
            · rw [show min (k + 1) r = k + 1 by omega, HX.out, ← List.append_assoc, HZ.out.1, iv, List.map_append]
              exact hrow'.far (p := ⟨m, 0, none⟩) hnm _
            · refine ((ho1.drew.alloc _).grown hgr (fun q e => ?_)).setCell (p := ⟨m, 0, none⟩) (.inl (.inl rfl)) _
              rcases hg with e2 | ⟨b2, e2, hb3⟩
              · exact .inl (.inr (by rw [← e2, e]))
              · rw [e2] at e; cases e; exact .inr hb3
            · rcases hgn with e2 | e2
              · rw [e2]; exact hg
              · exact .inr ⟨_, e2, by simp; omega⟩
          case measure => simp [intOf]; omega
      · have e1 : min k r = r := by omega
        rw [e1] at HS ⊢
        clear e1
        have hlen : (xs ++ ys.take r).length = xs.length + r := by rw [List.length_append, List.length_take]; omega
        have HL := Lib.hid hlen
        clear hlen
        go_wp2_with fail
        have PR := RRoom_at HS.out.1 hmost (by rw [List.length_map, HL.out]; omega)
        rw [List.length_map, HL.out, hrr.out r (by omega), Nat.sub_self] at PR
        refine PR.mono ?_
        clear PR
        rintro e w1 ⟨rfl, nd, rfl⟩
        go_wp2
        go_roundw
        case rel =>
          obtain ⟨hm0, ho, hg⟩ := HS.out
          exact ⟨k + 1, g', by omega, by go_num, by rw [show min (k + 1) r = r by omega], by rw [show min (k + 1) r = r by omega]; exact hm0, ho.drewN nd, hg⟩
        case measure => simp [intOf]; omega
    · obtain rfl : k = ys.length := by omega
      go_wp2
      go_ret
      obtain ⟨hm0, ho, hg⟩ := HS.out
      exact ⟨g', rfl, hm0, ho, hg⟩
end Go.Proofs.YtfmmomdfmmoklaaDoor
