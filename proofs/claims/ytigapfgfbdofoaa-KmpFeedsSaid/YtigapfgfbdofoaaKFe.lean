/-
  The law KmpFeeds: of any things that are seen, one by one, whether the pattern ends there, and how much of it stands at the end, are the document's, behind a Reset, too; of no search nothing is told.
  Conditions: the pattern has at most 140737488351232 bytes (no slice has more).
-/
import Derived.Test.YtigapfgfbdofoaaKSeek
namespace Go.Proofs.Ytigapfgfbdofoaa
open Go.RowKit

set_option maxRecDepth 100000 in
set_option maxHeartbeats 4000000 in
theorem feeds_true (A : Option Addr) (n c : Nat) (l : List Int) (B : Option Addr) (m d : Nat) (p : List Int) (reset : Int) (w : World) (ht : Rd w (.slice A n c) (iv l)) (hp : Rd w (.slice B m d) (iv p)) (hpl : p.length * 8 ≤ 140737488351232) :
    Calls Try.prog 4 #[.slice A n c, .slice B m d, .int .i64 reset] w fun e w' => e = .returned (.bool true) ∧ Below w.heap.size w w' := by
  obtain ⟨i0, hi0, hz0, hz1, hz2⟩ := info_parts int_info
  obtain ⟨hnl, -⟩ := ht.ints
  obtain ⟨hml, -⟩ := hp.ints
  have HT := Lib.hid (And.intro ht hp)
  have HNL := Lib.hid (And.intro hnl hml)
  have HW := Lib.hid (New_i B m d p w hp (by omega))
  clear ht hp hnl hml
  go_enter Try.func4, Try.ntmps4
  go_wp2_with fail
  refine (Reset_nil w).mono ?_
  rintro e w0 ⟨rfl, rfl⟩
  go_wp2_with fail
  refine HW.out.mono ?_
  rintro e w1 ⟨q, rfl, hsat, hb1⟩
  have X1 := Lib.hid (Seek.start (Below.refl _ w) hsat hb1)
  clear hsat hb1 HW
  generalize hz : w1.heap.size = z at X1
  clear hz
  go_wp2_with fail
  refine (alive_true w1).mono ?_
  rintro e w2 ⟨rfl, hb2⟩
  have X2 := Lib.hid (X1.out.older hb2)
  clear hb2 X1
  go_wp2_with fail
  refine (Feed_nil 1 w2).mono ?_
  rintro e w0 ⟨rfl, rfl⟩
  go_wp2_with fail
  refine (At_nil w2).mono ?_
  rintro e w0 ⟨rfl, rfl⟩
  have HA := Lib.hid (At_at (X2.out.at_.number (longest_nil p)))
  go_wp2_with fail
  refine HA.out.mono ?_
  rintro e w0 ⟨rfl, rfl⟩
  clear HA
  have G := great_two A B n c m d w2
  by_cases hg : n ≤ 100 ∧ m ≤ 100
  case neg =>
    rw [show (decide (100 < n) || decide (100 < m)) = true by simp; omega] at G
    have HG := Lib.hid G
    clear G
    go_wp2_with fail
    refine HG.out.mono ?_
    rintro e w3 ⟨rfl, hw3⟩
    have X3 : Hid (Below w.heap.size w w3) := Lib.hid (by rw [← hw3]; exact X2.out.below.alloc X2.out.below.size _)
    clear hw3 HG
    go_wp2
    go_ret
    exact ⟨rfl, X3.out⟩
  case pos =>
    rw [show (decide (100 < n) || decide (100 < m)) = false by simp; omega] at G
    have HG := Lib.hid G
    obtain ⟨hg1, hg2⟩ := hg
    clear G
    go_wp2_with fail
    refine HG.out.mono ?_
    rintro e w3 ⟨rfl, hw3⟩
    have X3 : Hid (Seek w z q p [] (.slice none 0 0) [] w3) := Lib.hid (by rw [← hw3]; exact X2.out.alloc _)
    clear hw3 HG X2
    go_wp2
    go_loopw [9, 43] (fun v i wr => ∃ j : Nat, j ≤ n ∧ i = .int .i64 j ∧ ∃ s : List Int, s.length ≤ j ∧ Hid (Seek w z q p s v s wr)) (fun _ i _ => n - (intOf i).toNat)
    case atStart => exact ⟨0, Nat.zero_le _, rfl, [], Nat.zero_le _, X3⟩
    case round =>
      obtain ⟨j, hj, rfl, s, hsj, HS⟩ := hrel
      obtain ⟨A5, c5, rfl⟩ := HS.out.form
      by_cases hlt : j < n
      · obtain ⟨b, o, rfl, hx⟩ := (HT.out.1.kept HS.out.below).ints.2.2 (by have := HNL.out; omega)
        have y := hx j (by have := HNL.out; omega)
        generalize l[j]?.getD 0 = x at y
        clear hx
        by_cases hr : (j : Int) = reset
        case pos =>
          have q0 : ((j : Int) == reset) = true := beq_iff_eq.2 hr
          have HRS := Lib.hid (Reset_at HS.out.at_)
          clear hr
          go_wp2_with fail
          refine HRS.out.mono ?_
          rintro e w4 ⟨rfl, hs4, ho4⟩
          have HS4 := Lib.hid (HS.out.turn (s' := []) hs4 (longest_nil p).symm ho4).drop
          obtain ⟨s2, hs2⟩ : ∃ s2 : List Int, s2 = [] := ⟨_, rfl⟩
          rw [← hs2] at HS4
          have hsj2 : s2.length ≤ j := by rw [hs2]; exact Nat.zero_le _
          clear hs4 ho4 HRS HS hsj hs2
          obtain ⟨go, hrow, hgo, hsat, hbel, hzz⟩ := HS4.out
          have X := Lib.hid (And.intro hrow (And.intro hgo (And.intro hsat (And.intro hbel hzz))))
          clear hrow hgo hsat hbel hzz HS4
          go_wp2_with (at_builtin; refine wpList_append_row _ rfl (.tmp 53) (.tmp 55) _ rfl 3 i0 _ 8 Try.underlying22 hi0 hz0 hz1 hz2 rfl go _ (iv s2) rfl (X.out.1.alloc _) _ [.int .i64 x] rfl (Rd.lit w4 3 #[.int .i64 x] 1 rfl (by omega) (by omega) (by simp [Value.oneCell'])) (by rw [iv_len]; simp only [maxLen]; simp; omega) (by rw [iv_len]; simp; omega) ?_; intro B' d' w7 gn hrow' hgr hgn; simp only [iv_len] at hrow' ⊢; have Y := Lib.hid (And.intro hrow' (And.intro hgr hgn)); clear hrow' hgr hgn)
          have HS7 : Hid (SeekS w z q p s2 (.slice B' (s2.length + 1) d') (s2 ++ [x]) w7) := Lib.hid (by
            obtain ⟨hrow, hgo, hsat, hbel, hzz⟩ := X.out
            have := SeekS.grown (W := w4.alloc (.cells #[.int .i64 x] 3)) (xs := s2) (ys := [x]) hgo (hsat.alloc _) (hbel.alloc hbel.size _) (by simp; omega) Y.out.1 Y.out.2.1 Y.out.2.2
            simpa using this)
          clear X Y
          have hlen : (s2 ++ [x]).length = s2.length + 1 := by simp
          have HL := Lib.hid (Longest_i B' B (s2.length + 1) d' m d (s2 ++ [x]) p (by omega) (by have := HNL.out; omega) w7 HS7.out.rd (HT.out.2.kept HS7.out.below))
          go_wp2_with fail
          refine HL.out.mono ?_
          rintro e w8 ⟨rfl, nd8, hw8⟩
          have HS8 : Hid (SeekS w z q p s2 (.slice B' (s2.length + 1) d') (s2 ++ [x]) w8) := Lib.hid (by rw [hw8]; exact HS7.out.drewN _)
          have HF := Lib.hid (Feed_at s2 x HS8.out.at_ (by omega))
          have HMP := Lib.hid HNL.out.2
          clear hw8 HL HS7
          by_cases hit : longest (s2 ++ [x]) p = p.length
          case' pos =>
            have HD : Hid (decide (longest (s2 ++ [x]) p = p.length) = true) := Lib.hid (by simpa using hit)
            have HQ : Hid ((((longest (s2 ++ [x]) p : Nat) : Int) == (m : Int)) = true) := Lib.hid (beq_iff_eq.2 (by have := HMP.out; omega))
          case' neg =>
            have HD : Hid (decide (longest (s2 ++ [x]) p = p.length) = false) := Lib.hid (by simpa using hit)
            have HQ : Hid ((((longest (s2 ++ [x]) p : Nat) : Int) == (m : Int)) = false) := Lib.hid (beq_eq_false_iff_ne.2 (by have := HMP.out; omega))
          all_goals
            clear hit
            go_wp2_with fail
            refine HF.out.mono ?_
            rintro e w9 hf
            have HS9 := Lib.hid (HS8.out.fed hf)
            obtain ⟨rfl, -⟩ := hf
            have HA := Lib.hid (At_at HS9.out.at_)
            rw [HD.out]
            have q2 := HQ.out
            clear HF HS8 HD HQ
            generalize longest (s2 ++ [x]) p = N at *
            go_wp2_with fail
            refine HA.out.mono ?_
            rintro e w0 ⟨rfl, rfl⟩
            clear HA
            go_wp2
            go_roundw
            case rel => exact ⟨j + 1, by omega, by go_num, s2 ++ [x], by rw [hlen]; omega, HS9⟩
            case measure => simp [intOf]; omega
        case neg =>
          have q0 : ((j : Int) == reset) = false := beq_eq_false_iff_ne.2 hr
          clear hr
          obtain ⟨go, hrow, hgo, hsat, hbel, hzz⟩ := HS.out
          have X := Lib.hid (And.intro hrow (And.intro hgo (And.intro hsat (And.intro hbel hzz))))
          clear hrow hgo hsat hbel hzz HS
          go_wp2_with (at_builtin; refine wpList_append_row _ rfl (.tmp 53) (.tmp 55) _ rfl 3 i0 _ 8 Try.underlying22 hi0 hz0 hz1 hz2 rfl go _ (iv s) rfl (X.out.1.alloc _) _ [.int .i64 x] rfl (Rd.lit wr 3 #[.int .i64 x] 1 rfl (by omega) (by omega) (by simp [Value.oneCell'])) (by rw [iv_len]; simp only [maxLen]; simp; omega) (by rw [iv_len]; simp; omega) ?_; intro B' d' w7 gn hrow' hgr hgn; simp only [iv_len] at hrow' ⊢; have Y := Lib.hid (And.intro hrow' (And.intro hgr hgn)); clear hrow' hgr hgn)
          have HS7 : Hid (SeekS w z q p s (.slice B' (s.length + 1) d') (s ++ [x]) w7) := Lib.hid (by
            obtain ⟨hrow, hgo, hsat, hbel, hzz⟩ := X.out
            have := SeekS.grown (W := wr.alloc (.cells #[.int .i64 x] 3)) (xs := s) (ys := [x]) hgo (hsat.alloc _) (hbel.alloc hbel.size _) (by simp; omega) Y.out.1 Y.out.2.1 Y.out.2.2
            simpa using this)
          clear X Y
          have hlen : (s ++ [x]).length = s.length + 1 := by simp
          have HL := Lib.hid (Longest_i B' B (s.length + 1) d' m d (s ++ [x]) p (by omega) (by have := HNL.out; omega) w7 HS7.out.rd (HT.out.2.kept HS7.out.below))
          go_wp2_with fail
          refine HL.out.mono ?_
          rintro e w8 ⟨rfl, nd8, hw8⟩
          have HS8 : Hid (SeekS w z q p s (.slice B' (s.length + 1) d') (s ++ [x]) w8) := Lib.hid (by rw [hw8]; exact HS7.out.drewN _)
          have HF := Lib.hid (Feed_at s x HS8.out.at_ (by omega))
          have HMP := Lib.hid HNL.out.2
          clear hw8 HL HS7
          by_cases hit : longest (s ++ [x]) p = p.length
          case' pos =>
            have HD : Hid (decide (longest (s ++ [x]) p = p.length) = true) := Lib.hid (by simpa using hit)
            have HQ : Hid ((((longest (s ++ [x]) p : Nat) : Int) == (m : Int)) = true) := Lib.hid (beq_iff_eq.2 (by have := HMP.out; omega))
          case' neg =>
            have HD : Hid (decide (longest (s ++ [x]) p = p.length) = false) := Lib.hid (by simpa using hit)
            have HQ : Hid ((((longest (s ++ [x]) p : Nat) : Int) == (m : Int)) = false) := Lib.hid (beq_eq_false_iff_ne.2 (by have := HMP.out; omega))
          all_goals
            clear hit
            go_wp2_with fail
            refine HF.out.mono ?_
            rintro e w9 hf
            have HS9 := Lib.hid (HS8.out.fed hf)
            obtain ⟨rfl, -⟩ := hf
            have HA := Lib.hid (At_at HS9.out.at_)
            rw [HD.out]
            have q2 := HQ.out
            clear HF HS8 HD HQ
            generalize longest (s ++ [x]) p = N at *
            go_wp2_with fail
            refine HA.out.mono ?_
            rintro e w0 ⟨rfl, rfl⟩
            clear HA
            go_wp2
            go_roundw
            case rel => exact ⟨j + 1, by omega, by go_num, s ++ [x], by rw [hlen]; omega, HS9⟩
            case measure => simp [intOf]; omega
      · obtain rfl : j = n := by omega
        go_wp2
        go_ret
        exact ⟨rfl, HS.out.below⟩
end Go.Proofs.Ytigapfgfbdofoaa
