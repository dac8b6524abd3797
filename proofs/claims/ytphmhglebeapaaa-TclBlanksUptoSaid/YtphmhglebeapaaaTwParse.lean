/-
  tcl's command and Parse: their contracts.
  Conditions: a text of at most 16777216 bytes.
-/
import Derived.Test.YtphmhglebeapaaaTwWord
import Derived.Test.YtphmhglebeapaaaTRParse
namespace Go.Proofs.Ytphmhglebeapaaa
open Go.RowKit

/-- What command tells. -/
def WrdsTo (w : World) (res : Except (Nat × Nat) (List Wrd × Nat)) (e : Ending) (w' : World) : Prop :=
  Below w.heap.size w w' ∧ ∃ (v : Value) (ws : List Wrd) (j c : Nat), e = .returned (.tuple #[v, .int .i64 (j : Nat), .int .i64 (c : Nat)]) ∧ Wrds (fun b => w.heap.size ≤ b) w' v ws ∧
    ((res = .ok (ws, j) ∧ c = 0) ∨ (res = .error (j, c) ∧ c ≠ 0))
set_option maxRecDepth 100000 in
set_option maxHeartbeats 8000000 in
theorem command_is (l : List Nat) (hl : ∀ c ∈ l, c < 256) (hn : l.length ≤ 16777216) (st : Nat) (hst : st ≤ l.length) (w : World) :
    Calls Try.prog 21 #[.string (str l), .int .i64 (st : Nat)] w (WrdsTo w (wordsL (l.drop st) st [])) := by
  have hsz := str_len l
  have HL := Lib.hid hl
  have HWD := Lib.hid (word_is l hl hn)
  have HKE := Lib.hid has_ends
  have HKB := Lib.hid has_blanks
  clear hl
  go_enter Try.func21, Try.ntmps21
  go_wp2_with fail
  go_loopw [1, 7] (fun iv lv wr => ∃ (i : Nat) (ws : List Wrd) (g : Option Nat) (A : Option Addr) (c0 : Nat), iv = .int .i64 (i : Nat) ∧ lv = .slice A ws.length c0 ∧ st ≤ i ∧ i ≤ l.length ∧ ws.length ≤ i ∧ Hid (WRow w wr g (.slice A ws.length c0) ws ∧ Below w.heap.size w wr ∧ wordsL (l.drop st) st [] = wordsL (l.drop i) i ws)) (fun iv _ _ => l.length - (intOf iv).toNat)
  case atStart => exact ⟨st, [], none, none, 0, rfl, rfl, by omega, hst, by simp, Lib.hid ⟨URow.nil, Below.refl _ _, rfl⟩⟩
  case round =>
    obtain ⟨i, ws, g, A, c0, rfl, rfl, hsi, hi, hwl, HR⟩ := hrel
    have HRW := Lib.hid HR.out.1
    have HB := Lib.hid HR.out.2.1
    have HT := Lib.hid HR.out.2.2
    clear HR
    by_cases hlt : i < l.length
    · have q0 : decide ((i : Int) < (l.length : Int)) = true := decide_eq_true (by omega)
      obtain ⟨c, hc⟩ : ∃ c, l[i]? = some c := ⟨_, List.getElem?_eq_getElem hlt⟩
      obtain ⟨hks, hx⟩ := str_at HL.out hc
      have HC := Lib.hid hc
      have hc256 : c < 256 := HL.out c (List.mem_of_getElem? hc)
      have HHE : Hid (∀ W, Calls Try.prog 34 #[.string ⟨#[10, 59]⟩, .int .u8 (c : Nat)] W fun e w' => e = .returned (.bool (endB c)) ∧ W = w') := Lib.hid fun W => HKE.out c hc256 W
      have HHB : Hid (∀ W, Calls Try.prog 34 #[.string ⟨#[9, 32]⟩, .int .u8 (c : Nat)] W fun e w' => e = .returned (.bool (blankB c)) ∧ W = w') := Lib.hid fun W => HKB.out c hc256 W
      clear hc
      cases he : endB c with
      | true =>
        rw [he] at HHE
        have HN := Lib.hid (HT.out.trans (words_end HC.out he ws))
        clear he
        go_wp2_with fail
        refine (HHE.out _).mono ?_
        rintro e w1 ⟨rfl, rfl⟩
        go_wp2_with fail
        go_ret3
        exact ⟨HB.out, _, ws, i, 0, rfl, HRW.out.wrds, .inl ⟨HN.out, rfl⟩⟩
      | false =>
        rw [he] at HHE
        cases hb : blankB c with
        | true =>
          rw [hb] at HHB
          have HN := Lib.hid (HT.out.trans (words_blank HC.out hb he ws))
          clear he hb
          go_wp2_with fail
          refine (HHE.out _).mono ?_
          rintro e w1 ⟨rfl, rfl⟩
          go_wp2_with fail
          refine (HHB.out _).mono ?_
          rintro e w1 ⟨rfl, rfl⟩
          go_wp2_with fail
          go_roundw
          case rel => exact ⟨i + 1, ws, g, A, c0, by go_num, rfl, by omega, by omega, by omega, Lib.hid ⟨HRW.out, HB.out, HN.out⟩⟩
          case measure => simp [intOf]; omega
        | false =>
          rw [hb] at HHB
          have HNS : Hid ((blankB c || endB c) = false) := Lib.hid (by rw [hb, he]; rfl)
          have HW := Lib.hid (HWD.out i hlt wr)
          clear he hb
          go_wp2_with fail
          refine (HHE.out _).mono ?_
          rintro e w1 ⟨rfl, rfl⟩
          go_wp2_with fail
          refine (HHB.out _).mono ?_
          rintro e w1 ⟨rfl, rfl⟩
          go_wp2_with fail
          refine HW.out.mono ?_
          rintro e w2 ⟨hb2, x, v, j, cc, rfl, hP, hR⟩
          obtain ⟨xa, xk, xp⟩ := x
          obtain ⟨Av, cv, rfl, -⟩ := hP.form
          dsimp only at hP hR ⊢
          have hbw : Below w.heap.size w w2 := HB.out.trans (hb2.mono HB.out.size)
          rcases hR with ⟨hR, rfl⟩ | ⟨hR, hcc⟩
          · have hstep := words_word HC.out HNS.out hR ws
            have HN := Lib.hid (HT.out.trans hstep.1)
            have hij := hstep.2
            have hjl : j ≤ l.length := by
              have := (wordS_le hR (by rw [dropc HC.out]; exact HNS.out)).2
              rw [List.length_drop] at this; omega
            have hb3 : Below w2.heap.size w2 ((w2.alloc (.cells #[.int .i64 xa, .int .i64 xk, .slice Av xp.length cv] 44)).alloc (.cells #[.int .i64 xa, .int .i64 xk, .slice Av xp.length cv] 44)) := ((Below.refl _ w2).alloc (Nat.le_refl _) _).alloc (by simp) _
            have HRW3 := Lib.hid (URow.below prtsSub_ok (URow.below prtsSub_ok HRW.out hb2) hb3)
            have hP3 : prtsSub (fun b => w.heap.size ≤ b ∧ g ≠ some b) ((w2.alloc (.cells #[.int .i64 xa, .int .i64 xk, .slice Av xp.length cv] 44)).alloc (.cells #[.int .i64 xa, .int .i64 xk, .slice Av xp.length cv] 44)) (.slice Av xp.length cv) ⟨xa, xk, xp⟩ :=
              SlI.fit prt_ok (SlI.below prt_ok hP hb3) (fun b hb _ => ⟨by have := HB.out.size; omega, fun e => by have := URow.lt HRW.out e; omega⟩)
            have HP3 := Lib.hid hP3
            have hle : w.heap.size ≤ ((w2.alloc (.cells #[.int .i64 xa, .int .i64 xk, .slice Av xp.length cv] 44)).alloc (.cells #[.int .i64 xa, .int .i64 xk, .slice Av xp.length cv] 44)).heap.size := by have := hbw.size; have := hb3.size; omega
            have HB3 := Lib.hid (hbw.trans (hb3.mono hbw.size))
            have HQ := Lib.hid (show w2.heap.size + 1 = (w2.alloc (.cells #[.int .i64 xa, .int .i64 xk, .slice Av xp.length cv] 44)).heap.size from by simp)
            clear hstep hR hP hb3 hP3 hbw hb2
            go_wp2_with (at_builtin; refine URow.wp (P := Try.prog) (x := (⟨xa, xk, xp⟩ : Wrd)) (u := .slice Av xp.length cv) prtsSub_ok HRW3.out hle HP3.out rfl (.tmp 39) (.tmp 41) 37 rfl Try.underlying37 word_info rfl rfl _ rfl (src_cells Try.underlying37 (w2.heap.size + 1) HQ.out rfl rfl (by intro u hu; simp [wcell] at hu; rcases hu with rfl | rfl | rfl <;> rfl)) (by omega) (by omega) ?_; intro A5 c5 W5 g5 HR5 HG5 HE5)
            go_roundw
            case rel => exact ⟨j, ws ++ [⟨xa, xk, xp⟩], g5, A5, c5, by first | rfl | go_num, by rw [List.length_append, List.length_singleton], by omega, hjl, by rw [List.length_append, List.length_singleton]; omega, Lib.hid ⟨by rw [List.length_append, List.length_singleton]; exact HR5.out, HB3.out.grown HG5.out HB3.out.size (fun k e => URow.own HRW.out e), HN.out⟩⟩
            case measure => simp [intOf]; omega
          · have q5 : ((cc : Int) != 0) = true := by simp; omega
            have HN := Lib.hid (HT.out.trans (words_bad HC.out HNS.out hR ws))
            have HBW := Lib.hid (hbw.alloc hbw.size (.cells #[.int .i64 xa, .int .i64 xk, .slice Av xp.length cv] 44))
            have HCC := Lib.hid hcc
            clear hR hP hbw hb2 hcc
            go_wp2_with fail
            go_ret3
            exact ⟨HBW.out, _, [], j, cc, rfl, SlI.nil none 0, .inr ⟨HN.out, HCC.out⟩⟩
    · have q0 : decide ((i : Int) < (l.length : Int)) = false := decide_eq_false (by omega)
      have HN := Lib.hid (HT.out.trans (words_out (by omega) ws))
      go_wp2_with fail
      go_ret3
      exact ⟨HB.out, _, ws, i, 0, rfl, HRW.out.wrds, .inl ⟨HN.out, rfl⟩⟩

set_option maxRecDepth 100000 in
set_option maxHeartbeats 8000000 in
theorem Parse_is {w : World} (l : List Nat) (hl : ∀ c ∈ l, c < 256) (hn : l.length ≤ 1048576) : Calls Try.prog 11 #[.string (str l)] w (ParseTo w l) := by
  have hsz := str_len l
  have HL := Lib.hid hl
  have HBT := Lib.hid fun st (h : st ≤ l.length) W => between_is l hl (by omega) st h W
  have HCM := Lib.hid fun st (h : st ≤ l.length) W => command_is l hl (by omega) st h W
  have qn : decide ((16777216 : Int) < (l.length : Int)) = false := decide_eq_false (by omega)
  have HPR : Hid (∀ cs, parseL l 0 [] = .ok cs → parseR l = (cs, 0, 0)) := Lib.hid fun cs h => by unfold parseR; rw [if_neg (by omega), h]
  have HPE : Hid (∀ p c, parseL l 0 [] = .error (p, c) → parseR l = ([], p, c)) := Lib.hid fun p c h => by unfold parseR; rw [if_neg (by omega), h]
  clear hl
  go_enter Try.func11, Try.ntmps11
  go_wp2_with fail
  refine (HBT.out 0 (by omega) w).mono ?_
  rintro e w1 ⟨⟨j0, rfl, hj0⟩, rfl⟩
  have HJ0 := Lib.hid hj0
  clear hj0
  go_wp2_with fail
  go_loopw [5, 6] (fun lv iv wr => ∃ (i : Nat) (cs : List Cmd) (g : Option Nat) (A : Option Addr) (c0 : Nat), iv = .int .i64 (i : Nat) ∧ lv = .slice A cs.length c0 ∧ i ≤ l.length ∧ cs.length ≤ i ∧ Hid (CRow w wr g (.slice A cs.length c0) cs ∧ Below w.heap.size w wr ∧ parseL l 0 [] = parseL (l.drop i) i cs ∧ (i = l.length ∨ ∃ c, l[i]? = some c ∧ stops (l.drop i) = false ∧ c ≠ 35))) (fun _ iv _ => l.length - (intOf iv).toNat)
  case atStart => exact ⟨j0, [], none, none, 0, rfl, rfl, HJ0.out.2.1, by simp, Lib.hid ⟨URow.nil, Below.refl _ _, by have := HJ0.out.2.2.1 []; simpa using this, HJ0.out.2.2.2⟩⟩
  case round =>
    obtain ⟨i, cs, g, A, c0, rfl, rfl, hi, hcl, HR⟩ := hrel
    have HRW := Lib.hid HR.out.1
    have HB := Lib.hid HR.out.2.1
    have HT := Lib.hid HR.out.2.2.1
    have HX := Lib.hid HR.out.2.2.2
    clear HR
    by_cases hlt : i < l.length
    · have q0 : decide ((i : Int) < (l.length : Int)) = true := decide_eq_true (by omega)
      obtain ⟨c, hc, hs, h35⟩ : ∃ c, l[i]? = some c ∧ stops (l.drop i) = false ∧ c ≠ 35 := by
        rcases HX.out with h | h
        · omega
        · exact h
      have hns : (blankB c || endB c) = false := by rw [dropc hc] at hs; exact hs
      have HC := Lib.hid hc
      have HNS := Lib.hid hns
      have H35 := Lib.hid h35
      have HCW := Lib.hid (HCM.out i hi wr)
      clear hc hs h35 hns
      go_wp2_with fail
      refine HCW.out.mono ?_
      rintro e w2 ⟨hb2, v, ws, j, cc, rfl, hW, hR⟩
      obtain ⟨Av, cv, rfl, -⟩ := hW.form
      have hbw : Below w.heap.size w w2 := HB.out.trans (hb2.mono HB.out.size)
      rcases hR with ⟨hR, rfl⟩ | ⟨hR, hcc⟩
      · have hstep := parse_drop_cmd HC.out HNS.out H35.out hR cs
        have HN := Lib.hid (HT.out.trans hstep.1)
        have hij := hstep.2
        have hjl : j ≤ l.length := by
          have := (wordsL_le _ _ (Nat.le_refl _) _ _ _ _ hR).2.1
          rw [List.length_drop] at this; omega
        have hb3 : Below w2.heap.size w2 (w2.alloc (.cells #[.int .i64 (i : Nat), .slice Av ws.length cv] 39)) := (Below.refl _ w2).alloc (Nat.le_refl _) _
        have HRW3 := Lib.hid (URow.below wrdsSub_ok (URow.below wrdsSub_ok HRW.out hb2) hb3)
        have hW3 : wrdsSub (fun b => w.heap.size ≤ b ∧ g ≠ some b) (w2.alloc (.cells #[.int .i64 (i : Nat), .slice Av ws.length cv] 39)) (.slice Av ws.length cv) ⟨(i : Nat), ws⟩ :=
          SlI.fit wrd_ok (SlI.below wrd_ok hW hb3) (fun b hb _ => ⟨by have := HB.out.size; omega, fun e => by have := URow.lt HRW.out e; omega⟩)
        have HW3 := Lib.hid hW3
        have hle : w.heap.size ≤ (w2.alloc (.cells #[.int .i64 (i : Nat), .slice Av ws.length cv] 39)).heap.size := by have := hbw.size; have := hb3.size; omega
        have HB3 := Lib.hid (hbw.trans (hb3.mono hbw.size))
        have HBJ := Lib.hid (HBT.out j hjl)
        clear hstep hR hW hb3 hW3 hbw hb2
        go_wp2_with (at_builtin; refine URow.wp (P := Try.prog) (x := (⟨(i : Nat), ws⟩ : Cmd)) (u := .slice Av ws.length cv) wrdsSub_ok HRW3.out hle HW3.out rfl (.tmp 30) (.tmp 34) 22 rfl Try.underlying22 cmd_info rfl rfl _ rfl (src_cells Try.underlying22 w2.heap.size rfl rfl rfl (by intro u hu; simp [ccell] at hu; rcases hu with rfl | rfl <;> rfl)) (by omega) (by omega) ?_; intro A5 c5 W5 g5 HR5 HG5 HE5)
        refine (HBJ.out _).mono ?_
        rintro e w6 ⟨⟨j2, rfl, hj2⟩, rfl⟩
        have HJ2 := Lib.hid hj2
        have hj21 := hj2.1
        have hj22 := hj2.2.1
        clear hj2
        go_wp2_with fail
        go_roundw
        case rel => exact ⟨j2, cs ++ [⟨(i : Nat), ws⟩], g5, A5, c5, rfl, by rw [List.length_append, List.length_singleton], hj22, by rw [List.length_append, List.length_singleton]; omega, Lib.hid ⟨by rw [List.length_append, List.length_singleton]; exact HR5.out, HB3.out.grown HG5.out HB3.out.size (fun k e => URow.own HRW.out e), HN.out.trans (HJ2.out.2.2.1 _), HJ2.out.2.2.2⟩⟩
        case measure => simp [intOf]; omega
      · have q5 : ((cc : Int) != 0) = true := by simp; omega
        have HN := Lib.hid (HPE.out _ _ (HT.out.trans (parse_drop_bad HC.out HNS.out H35.out hR cs)))
        have HBW := Lib.hid hbw
        clear hR hW hbw hb2 hcc
        go_wp2_with fail
        go_ret3
        refine ⟨.slice none 0 0, by rw [HN.out]; rfl, by rw [HN.out]; exact SlI.nil none 0, HBW.out⟩
    · have q0 : decide ((i : Int) < (l.length : Int)) = false := decide_eq_false (by omega)
      have HN := Lib.hid (HPR.out cs (by rw [HT.out, List.drop_of_length_le (by omega), parseL_nil]))
      go_wp2_with fail
      go_ret3
      refine ⟨.slice A cs.length c0, by rw [HN.out]; rfl, ?_, HB.out⟩
      rw [HN.out]
      exact (HRW.out.cmds).fit cmd_ok (fun _ _ _ => trivial)
end Go.Proofs.Ytphmhglebeapaaa
