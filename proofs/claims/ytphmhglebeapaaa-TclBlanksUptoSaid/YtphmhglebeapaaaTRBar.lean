/-
  The document's bare word.
  Conditions: a text of at most 16777216 bytes.
-/
import Derived.Test.YtphmhglebeapaaaTRQuo
namespace Go.Proofs.Ytphmhglebeapaaa
open Go.RowKit

theorem Rblank_n (c : Nat) (w : World) (n : Nat) : Calls Try.prog 23 #[.int .u8 (c : Nat)] (w.drewN n) fun e w' => e = .returned (.bool (blankB c)) ∧ ∃ m, w' = w.drewN m := (Rblank_is c _).mono fun _ _ h => ⟨h.1, n, h.2.symm⟩
theorem Rend_n (c : Nat) (w : World) (n : Nat) : Calls Try.prog 24 #[.int .u8 (c : Nat)] (w.drewN n) fun e w' => e = .returned (.bool (endB c)) ∧ ∃ m, w' = w.drewN m := (Rend_is c _).mono fun _ _ h => ⟨h.1, n, h.2.symm⟩

/-! ### Steps of a bare word -/
theorem bar_out {l : List Nat} {i : Nat} (h : l.length ≤ i) (ps : List Prt) : bareS (l.drop i) i ps = .ok (ps, i) := by
  rw [List.drop_of_length_le h, bareS]
theorem bar_end {l : List Nat} {i c : Nat} (h : l[i]? = some c) (h1 : (blankB c || endB c) = true) (ps : List Prt) : bareS (l.drop i) i ps = .ok (ps, i) := by
  rw [dropc h, bareS, if_pos h1]
theorem bar_bad {l : List Nat} {i c : Nat} (h : l[i]? = some c) (h1 : (blankB c || endB c) = false) {ps : List Prt} {e : Nat × Nat} (ho : oneS (l.drop i) i i ps = .error e) : bareS (l.drop i) i ps = .error e := by
  rw [dropc h] at ho ⊢
  rw [bareS, if_neg (by simp [h1]), ho]
theorem bar_step {l : List Nat} {i c : Nat} (h : l[i]? = some c) (h1 : (blankB c || endB c) = false) {k : Nat} {ps qs : List Prt} (ho : oneS (l.drop i) i i ps = .ok (qs, k)) : bareS (l.drop i) i ps = bareS (l.drop (i + k)) (i + k) qs := by
  have hk := oneS_pos ho (by rw [dropc h]; simp)
  rw [dropc h] at ho ⊢
  rw [bareS, if_neg (by simp [h1]), ho]
  dsimp only
  rw [List.drop_drop, show i + 1 + (k - 1) = i + k by omega]
/-- A bare word, as a result. -/
def bareR (l : List Nat) (st : Nat) : Except (Nat × Nat) (Wrd × Nat) :=
  match bareS (l.drop st) st [] with
  | .ok (ps, j) => .ok (⟨st, 0, ps⟩, j)
  | .error e => .error e

set_option maxRecDepth 100000 in
set_option maxHeartbeats 4000000 in
theorem Rbare_is {w : World} {b st a : Nat} {l : List Nat} {cv : Value} (h : PObj w b l st 0 a cv) (hl : ∀ c ∈ l, c < 256) (hn : l.length ≤ 16777216) (hst : st < l.length) :
    Calls Try.prog 37 #[.pointer (some ⟨b, 0, none⟩)] w (WordTo w b l cv (bareR l st)) := by
  have hsz := str_len l
  have HL := Lib.hid hl
  have HP := Lib.hid h
  have c1 : ∀ o, (w.alloc o).cell? ⟨b, 1, none⟩ = some (.int .i64 (st : Nat)) := fun o => (h.below ((Below.refl _ w).alloc (Nat.le_refl _) o)).cells.2.1
  clear h hl
  go_enter Try.func37, Try.ntmps37
  go_wp2_with fail
  have HS0 : Hid (WdSt w ((w.alloc (.cells #[.int .i64 0, .int .i64 0, .slice none 0 0] 44)).alloc (.cells #[.int .i64 (st : Nat), .int .i64 0, .slice none 0 0] 44)) ((w.alloc (.cells #[.int .i64 0, .int .i64 0, .slice none 0 0] 44)).alloc (.cells #[.int .i64 (st : Nat), .int .i64 0, .slice none 0 0] 44)) b l st 0 a cv st 0 none (.slice none 0 0) []) := Lib.hid (wd_new HP.out 0)
  clear c1
  generalize World.alloc (World.alloc w _) _ = w0 at *
  go_loopw [] (fun wr => ∃ (i e a' : Nat) (g : Option Nat) (A : Option Addr) (c0 : Nat) (ps : List Prt), i ≤ l.length ∧ Hid (WdSt w w0 wr b l i e a' cv st 0 g (.slice A ps.length c0) ps) ∧ Hid ((e = 0 → bareS (l.drop st) st [] = bareS (l.drop i) i ps ∧ pfit ps i) ∧ (e ≠ 0 → bareS (l.drop st) st [] = .error (a', e)))) (fun wr => pMeas b l.length wr)
  case atStart => exact ⟨st, 0, a, none, none, 0, [], by omega, HS0, Lib.hid ⟨fun _ => ⟨rfl, pfit.nil _⟩, fun h => absurd rfl h⟩⟩
  case round =>
    obtain ⟨i, e, a2, g, A, c0, ps, hi, HSA, HR⟩ := hrel
    have HM := Lib.hid (Rmore_n HSA.out.obj)
    have HPL := Lib.hid (HSA.out.obj.ms (L := l.length))
    by_cases hm : e = 0 ∧ i < l.length
    · have hlt := hm.2
      rw [decide_eq_true hm] at HM
      have HB := Lib.hid (HR.out.1 hm.1)
      have HE0 := Lib.hid hm.1
      clear HR hm
      obtain ⟨k0, k1, _, _, _⟩ := HSA.out.obj.cells
      obtain ⟨c, hc⟩ : ∃ c, l[i]? = some c := ⟨_, List.getElem?_eq_getElem hlt⟩
      obtain ⟨hks, hx⟩ := str_at HL.out hc
      have HC := Lib.hid hc
      have HBL := Lib.hid (Rblank_n c wr)
      have HEN := Lib.hid (Rend_n c wr)
      clear hc
      cases hbl : blankB c with
      | true =>
        rw [hbl] at HBL
        have HN := Lib.hid (HB.out.1.trans (bar_end HC.out (by rw [hbl]; rfl) ps))
        clear hbl
        go_wp2_with fail
        go_quiet ((first | (go_at_call 22; exact HM.out _) | (go_at_call 23; exact HBL.out _)))
        have HS3 := Lib.hid (HSA.out.below (drewN_below wr nq))
        generalize World.drewN wr _ = w3 at *
        clear HSA
        have r0 := HS3.out.res.cell 0
        have r1 := HS3.out.res.cell 1
        have r2 := HS3.out.res.cell 2
        have s0 := HS3.out.wrd.cell 0
        have s1 := HS3.out.wrd.cell 1
        have s2 := HS3.out.wrd.cell 2
        have g0 := HS3.out.res.frozen 0
        have g1 := HS3.out.res.frozen 1
        have g2 := HS3.out.res.frozen 2
        simp at r0 r1 r2 s0 s1 s2
        go_wp2_with fail
        have hT := HS3.out.told
        refine bodyPost_ret (results_word (t := 2) (by kernel_rfl) rfl hT.1) rfl ?_
        refine ⟨⟨st, 0, ps⟩, _, i, e, a2, rfl, hT.2.1, hT.2.2.1, hT.2.2.2, by omega, ?_⟩
        unfold bareR
        rw [HN.out]
        exact ⟨rfl, rfl, HE0.out⟩
      | false =>
        rw [hbl] at HBL
        cases hen : endB c with
        | true =>
          rw [hen] at HEN
          have HN := Lib.hid (HB.out.1.trans (bar_end HC.out (by rw [hbl, hen]; rfl) ps))
          clear hbl hen
          go_wp2_with fail
          go_quiet ((first | (go_at_call 22; exact HM.out _) | (go_at_call 23; exact HBL.out _) | (go_at_call 24; exact HEN.out _)))
          have HS3 := Lib.hid (HSA.out.below (drewN_below wr nq))
          generalize World.drewN wr _ = w3 at *
          clear HSA
          have r0 := HS3.out.res.cell 0
          have r1 := HS3.out.res.cell 1
          have r2 := HS3.out.res.cell 2
          have s0 := HS3.out.wrd.cell 0
          have s1 := HS3.out.wrd.cell 1
          have s2 := HS3.out.wrd.cell 2
          have g0 := HS3.out.res.frozen 0
          have g1 := HS3.out.res.frozen 1
          have g2 := HS3.out.res.frozen 2
          simp at r0 r1 r2 s0 s1 s2
          go_wp2_with fail
          have hT := HS3.out.told
          refine bodyPost_ret (results_word (t := 2) (by kernel_rfl) rfl hT.1) rfl ?_
          refine ⟨⟨st, 0, ps⟩, _, i, e, a2, rfl, hT.2.1, hT.2.2.1, hT.2.2.2, by omega, ?_⟩
          unfold bareR
          rw [HN.out]
          exact ⟨rfl, rfl, HE0.out⟩
        | false =>
          rw [hen] at HEN
          have HNE : Hid ((blankB c || endB c) = false) := Lib.hid (by rw [hbl, hen]; rfl)
          clear hbl hen
          go_wp2_with fail
          go_quiet ((first | (go_at_call 22; exact HM.out _) | (go_at_call 23; exact HBL.out _) | (go_at_call 24; exact HEN.out _)))
          have HS2 := Lib.hid (HSA.out.below (drewN_below wr nq))
          generalize World.drewN wr _ = w2 at *
          clear k0 k1 HSA HM HBL HEN
          obtain ⟨k0, k1, _, _, _⟩ := HS2.out.obj.cells
          have s2 := HS2.out.wrd.cell 2
          simp at s2
          go_wp2_with fail
          go_still_tail 7, (by kernel_rfl)
          change wpList _ _ _ _ _ w2.drew
          have HS3 := Lib.hid (HS2.out.below (show Below w2.heap.size w2 w2.drew from ⟨rfl, rfl, rfl, Nat.le_refl _, fun _ _ => rfl⟩))
          generalize w2.drew = w3 at *
          clear k0 k1 s2 HS2
          have hob := HS3.out.obj
          rw [HE0.out] at hob
          have HO := Lib.hid (Rone_is (op := i) hob HS3.out.row (by have := HS3.out.old; have := HS3.out.base; omega) HS3.out.size HL.out hn hlt (HB.out.2.mono (by omega)))
          clear hob
          go_wp2_with fail
          refine HO.out.mono ?_
          intro r w4 ho
          have hS3 := HS3.out
          rw [HE0.out] at hS3
          obtain ⟨A5, c5, g5, ps5, i5, e5, a5, rfl, hc2, hf2, hS5, hm5⟩ := hS3.one ho
          have HS5 := Lib.hid hS5
          have HM5 := Lib.hid hm5
          clear ho hS5 hm5 HO hS3
          go_wp2_with fail
          cases hone : oneS (l.drop i) i i ps with
          | ok q =>
            obtain ⟨qs, k⟩ := q
            have HM6 := HM5.out
            rw [hone] at HM6
            obtain ⟨rfl, rfl, rfl⟩ := HM6
            have hk := oneS_pos hone (by rw [dropc HC.out]; simp)
            rw [List.length_drop] at hk
            go_roundw
            case rel => exact ⟨i + k, 0, a5, g5, A5, c5, ps5, by omega, HS5, Lib.hid ⟨fun _ => ⟨HB.out.1.trans (bar_step HC.out HNE.out hone), oneS_fit hone HB.out.2⟩, fun h => absurd rfl h⟩⟩
            case measure => rw [HPL.out, HS5.out.obj.ms, if_pos rfl, if_pos HE0.out]; omega
          | error q =>
            obtain ⟨p, cc⟩ := q
            have HM6 := HM5.out
            rw [hone] at HM6
            obtain ⟨rfl, rfl, rfl, hne, rfl⟩ := HM6
            go_roundw
            case rel => exact ⟨i5, e5, a5, g5, A5, c5, ps5, by omega, HS5, Lib.hid ⟨fun h => absurd h hne, fun _ => HB.out.1.trans (bar_bad HC.out HNE.out hone)⟩⟩
            case measure => rw [HPL.out, HS5.out.obj.ms, if_neg hne, if_pos HE0.out]; omega
    · rw [decide_eq_false hm] at HM
      have HM2 := Lib.hid hm
      clear hm HPL
      go_wp2_with fail
      go_quiet ((go_at_call 22; exact HM.out _))
      have HS3 := Lib.hid (HSA.out.below (drewN_below wr nq))
      generalize World.drewN wr _ = w3 at *
      clear HSA
      have r0 := HS3.out.res.cell 0
      have r1 := HS3.out.res.cell 1
      have r2 := HS3.out.res.cell 2
      have s0 := HS3.out.wrd.cell 0
      have s1 := HS3.out.wrd.cell 1
      have s2 := HS3.out.wrd.cell 2
      have g0 := HS3.out.res.frozen 0
      have g1 := HS3.out.res.frozen 1
      have g2 := HS3.out.res.frozen 2
      simp at r0 r1 r2 s0 s1 s2
      go_wp2_with fail
      have hT := HS3.out.told
      refine bodyPost_ret (results_word (t := 2) (by kernel_rfl) rfl hT.1) rfl ?_
      refine ⟨⟨st, 0, ps⟩, _, i, e, a2, rfl, hT.2.1, hT.2.2.1, hT.2.2.2, by omega, ?_⟩
      unfold bareR
      by_cases he : e = 0
      · have hi2 : l.length ≤ i := by have := HM2.out; omega
        rw [(HR.out.1 he).1, bar_out hi2]
        exact ⟨rfl, rfl, he⟩
      · rw [HR.out.2 he]
        exact ⟨rfl, rfl, he⟩
end Go.Proofs.Ytphmhglebeapaaa
