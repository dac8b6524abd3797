/-
  The document's Parse.
  Conditions: none.
-/
import Derived.Test.YtphmhglebeapaaaTRWord
namespace Go.Proofs.Ytphmhglebeapaaa
open Go.RowKit

/-- What a parser of a whole text tells and leaves. -/
def ParseTo (w : World) (l : List Nat) (r : Ending) (w' : World) : Prop :=
  ∃ v, r = .returned (.tuple #[v, .int .i64 ((parseR l).2.1 : Nat), .int .i64 ((parseR l).2.2 : Nat)]) ∧ Cmds all w' v (parseR l).1 ∧ Below w.heap.size w w'
/-- The parser between two commands. -/
structure CSt (w w0 W : World) (b : Nat) (l : List Nat) (i e a : Nat) (g : Option Nat) (v : Value) (cs : List Cmd) : Prop where
  obj : PObj W b l i e a v
  row : CRow w0 W g v cs
  bel : Below w.heap.size w W
  at_b : b = w.heap.size
  base : w0.heap.size = w.heap.size + 1
  size : w0.heap.size ≤ W.heap.size
section
variable {w w0 W W' : World} {b i e a : Nat} {l : List Nat} {v : Value} {g : Option Nat} {cs : List Cmd}
theorem CSt.below (h : CSt w w0 W b l i e a g v cs) (hb : Below W.heap.size W W') : CSt w w0 W' b l i e a g v cs :=
  ⟨h.obj.below hb, URow.below wrdsSub_ok h.row hb, h.bel.trans (hb.mono h.bel.size), h.at_b, h.base, Nat.le_trans h.size hb.size⟩
theorem CSt.at_ (h : CSt w w0 W b l i e a g v cs) (j : Nat) : CSt w w0 (W.setCell ⟨b, 1, none⟩ (.int .i64 (j : Nat))) b l j e a g v cs := by
  have h1 := h.at_b
  have h2 := h.base
  refine ⟨h.obj.at_ j, URow.still wrdsSub_ok h.row ⟨by simp [World.setCell], fun q hq _ => Below.heap_setCell _ _ _ _ (by show q ≠ b; omega)⟩, ?_, h1, h2, by simp [World.setCell]; exact h.size⟩
  exact h.bel.setCell (p := ⟨b, 1, none⟩) (by show w.heap.size ≤ b; omega) _
/-- A new parser. -/
theorem cs_new (w : World) (l : List Nat) : CSt w (w.alloc (.cells #[.string (str l), .int .i64 0, .int .i64 0, .int .i64 0, .slice none 0 0] 56)) (w.alloc (.cells #[.string (str l), .int .i64 0, .int .i64 0, .int .i64 0, .slice none 0 0] 56)) w.heap.size l 0 0 0 none (.slice none 0 0) [] :=
  ⟨Blk.new w _ _, URow.nil, (Below.refl _ w).alloc (Nat.le_refl _) _, rfl, by simp, Nat.le_refl _⟩
end
/-- The parser within a command: Wc is the world ahead of it, in block c the command. -/
structure MSt (Wc w1 W : World) (b : Nat) (l : List Nat) (i e a : Nat) (cv : Value) (st : Nat) (g : Option Nat) (v : Value) (ws : List Wrd) : Prop where
  obj : PObj W b l i e a cv
  only : OnlyP b Wc W
  old : b < Wc.heap.size
  base : w1.heap.size = Wc.heap.size + 1
  size : w1.heap.size ≤ W.heap.size
  cmd : Blk W Wc.heap.size 39 #[.int .i64 (st : Nat), v]
  row : WRow w1 W g v ws
section
variable {Wc w1 W W' : World} {b i e a st : Nat} {l : List Nat} {cv v : Value} {g : Option Nat} {ws : List Wrd}
theorem MSt.below (h : MSt Wc w1 W b l i e a cv st g v ws) (hb : Below W.heap.size W W') : MSt Wc w1 W' b l i e a cv st g v ws :=
  ⟨h.obj.below hb, h.only.below hb, h.old, h.base, Nat.le_trans h.size hb.size, h.cmd.below hb h.cmd.lt, URow.below prtsSub_ok h.row hb⟩
theorem MSt.at_ (h : MSt Wc w1 W b l i e a cv st g v ws) (j : Nat) : MSt Wc w1 (W.setCell ⟨b, 1, none⟩ (.int .i64 (j : Nat))) b l j e a cv st g v ws := by
  have h1 := h.old
  have h2 := h.base
  exact ⟨h.obj.at_ j, h.only.set_ 1 _, h1, h2, by simp [World.setCell]; exact h.size, h.cmd.far (by show Wc.heap.size ≠ b; omega) _, URow.still prtsSub_ok h.row ⟨by simp [World.setCell], fun q hq _ => Below.heap_setCell _ _ _ _ (by show q ≠ b; omega)⟩⟩
theorem ms_new (h : PObj Wc b l i 0 a cv) : MSt Wc (Wc.alloc (.cells #[.int .i64 (i : Nat), .slice none 0 0] 39)) (Wc.alloc (.cells #[.int .i64 (i : Nat), .slice none 0 0] 39)) b l i 0 a cv i none (.slice none 0 0) [] :=
  ⟨h.below ((Below.refl _ Wc).alloc (Nat.le_refl _) _), Only.of_below ((Below.refl _ Wc).alloc (Nat.le_refl _) _) (Nat.le_refl _) _, Blk.lt h, by simp, Nat.le_refl _, Blk.new Wc _ _, URow.nil⟩
/-- What a word's reader did of it. -/
theorem MSt.word {res : Except (Nat × Nat) (Wrd × Nat)} {r : Ending} (h : MSt Wc w1 W b l i e a cv st g v ws) (ho : WordTo W b l cv res r W') :
    ∃ (x : Wrd) (A : Option Addr) (c i' e' a' : Nat), r = .returned (.agg #[.int .i64 x.at_, .int .i64 x.kind, .slice A x.parts.length c]) ∧ MSt Wc w1 W' b l i' e' a' cv st g v ws ∧ Prts (fun q => w1.heap.size ≤ q ∧ g ≠ some q) W' (.slice A x.parts.length c) x.parts ∧ i' ≤ l.length + 1 ∧ ResTo res x i' e' a' := by
  obtain ⟨x, u, i', e', a', h1, h2, h3, h4, h5, h6⟩ := ho
  obtain ⟨A, c, rfl, _⟩ := h4.form
  have ho1 := h.old
  have ho2 := h.base
  have ho3 := h.size
  refine ⟨x, A, c, i', e', a', h1, ⟨h2, h.only.then h3, ho1, ho2, Nat.le_trans ho3 h3.size, h.cmd.only h3 (by omega), URow.still prtsSub_ok h.row (Still.of_only h3 fun q _ hq e => by omega)⟩, h4.fit prt_ok (fun q hq _ => ⟨by omega, fun e => ?_⟩), h5, h6⟩
  have := h.row.lt e
  omega
end

/-- A word more of the command. -/
theorem MSt.push {Wc w1 W : World} {b i e a st n5 c5 c : Nat} {l : List Nat} {cv : Value} {g : Option Nat} {A A5 : Option Addr} {ws : List Wrd} (h : MSt Wc w1 W b l i e a cv st g (.slice A ws.length c) ws) {x : Wrd} (hx : Prts (fun q => w1.heap.size ≤ q ∧ g ≠ some q) W (.slice A5 n5 c5) x.parts) (hn : ws.length ≤ 16777220) :
    ∃ A7 c7 W7 g7, (Builtin.append_ #[37, 37] 37 #[.slice A ws.length c, .slice (some ⟨W.heap.size, 0, none⟩) 1 1]).run Try.prog (W.alloc (.cells #[.int .i64 x.at_, .int .i64 x.kind, .slice A5 n5 c5] 44)) = .ok (.slice A7 (ws.length + 1) c7) W7 ∧
      ((W.alloc (.cells #[.int .i64 x.at_, .int .i64 x.kind, .slice A5 n5 c5] 44)).cell? ⟨Wc.heap.size, 1, none⟩ = some (.slice A ws.length c) ∧ (W.alloc (.cells #[.int .i64 x.at_, .int .i64 x.kind, .slice A5 n5 c5] 44)).frozen? ⟨Wc.heap.size, 1, none⟩ = false) ∧
      (W7.cell? ⟨Wc.heap.size, 1, none⟩ = some (.slice A ws.length c) ∧ W7.frozen? ⟨Wc.heap.size, 1, none⟩ = false) ∧
      MSt Wc w1 (W7.setCell ⟨Wc.heap.size, 1, none⟩ (.slice A7 (ws.length + 1) c7)) b l i e a cv st g7 (.slice A7 (ws.length + 1) c7) (ws ++ [x]) := by
  have hb1 : Below W.heap.size W (W.alloc (.cells #[.int .i64 x.at_, .int .i64 x.kind, .slice A5 n5 c5] 44)) := (Below.refl _ W).alloc (Nat.le_refl _) _
  have h1 := h.below hb1
  have ho1 := h.old
  have ho2 := h.base
  obtain ⟨A7, c7, W7, g7, hap, hR7, hG7, _⟩ := URow.run (P := Try.prog) (x := x) (u := .slice A5 n5 c5) prtsSub_ok h1.row h1.size (SlI.below prt_ok hx hb1) 37 37 Try.underlying37 word_info rfl (.slice (some ⟨W.heap.size, 0, none⟩) 1 1) (src_cells (V := W) (C := #[.int .i64 x.at_, .int .i64 x.kind, .slice A5 n5 c5]) Try.underlying37 W.heap.size rfl rfl rfl (by intro u hu; simp [wcell] at hu; rcases hu with rfl | rfl | rfl <;> rfl)) (by omega) (by omega)
  have hown : ∀ k, g = some k → w1.heap.size ≤ k := fun k e => h.row.own e
  have hcb := h1.cmd.keep (hG7.block _ h1.cmd.lt (fun e => by have := hown _ e.symm; omega))
  have hOb : PObj W7 b l i e a cv := Blk.keep h1.obj (hG7.block _ (Blk.lt h1.obj) (fun e => by have := hown _ e.symm; omega))
  refine ⟨A7, c7, W7, g7, hap, ⟨h1.cmd.cell 1, h1.cmd.frozen 1⟩, ⟨hcb.cell 1, hcb.frozen 1⟩, ⟨?_, ?_, ho1, ho2, ?_, hcb.set_ 1 _, ?_⟩⟩
  · exact Blk.far hOb (p := ⟨Wc.heap.size, 1, none⟩) (by show b ≠ Wc.heap.size; omega) _
  · exact (h1.only.grown hG7 (fun k e => .inr (by have := hown k e; omega))).setCell (p := ⟨Wc.heap.size, 1, none⟩) (.inr (Nat.le_refl _)) _
  · simp [World.setCell]; exact Nat.le_trans h1.size hG7.size
  · exact URow.still prtsSub_ok hR7 ⟨by simp [World.setCell], fun q hq _ => Below.heap_setCell _ _ _ _ (by show q ≠ Wc.heap.size; omega)⟩

/-! ### Remarks -/
theorem hash_step {l : List Nat} {j d : Nat} (h : l[j]? = some d) (h1 : d ≠ 10) (cs : List Cmd) : parseL ((l.drop j).dropWhile (· != 10)) (j + ((l.drop j).takeWhile (· != 10)).length) cs = parseL ((l.drop (j + 1)).dropWhile (· != 10)) (j + 1 + ((l.drop (j + 1)).takeWhile (· != 10)).length) cs := by
  rw [dropc h, List.dropWhile_cons, List.takeWhile_cons]
  have : (d != 10) = true := by simpa using h1
  simp only [this, if_true, List.length_cons]
  rw [show j + (((l.drop (j + 1)).takeWhile (· != 10)).length + 1) = j + 1 + ((l.drop (j + 1)).takeWhile (· != 10)).length by omega]
theorem hash_end {l : List Nat} {j : Nat} (h : l.length ≤ j ∨ l[j]? = some 10) (cs : List Cmd) : parseL ((l.drop j).dropWhile (· != 10)) (j + ((l.drop j).takeWhile (· != 10)).length) cs = parseL (l.drop j) j cs := by
  rcases h with h | h
  · rw [List.drop_of_length_le h]; rfl
  · rw [dropc h, List.dropWhile_cons, List.takeWhile_cons]; simp
theorem parse_drop_stop {l : List Nat} {i c : Nat} (h : l[i]? = some c) (hs : (blankB c || endB c) = true) (cs : List Cmd) : parseL (l.drop i) i cs = parseL (l.drop (i + 1)) (i + 1) cs := by
  rw [dropc h, parseL_stop hs]
theorem parse_drop_hash {l : List Nat} {i : Nat} (h : l[i]? = some 35) (cs : List Cmd) : parseL (l.drop i) i cs = parseL ((l.drop i).dropWhile (· != 10)) (i + ((l.drop i).takeWhile (· != 10)).length) cs := by
  rw [dropc h, parseL_hash]
theorem parse_drop_bad {l : List Nat} {i c : Nat} (h : l[i]? = some c) (hs : (blankB c || endB c) = false) (hc : c ≠ 35) {e : Nat × Nat} (hw : wordsL (l.drop i) i [] = .error e) (cs : List Cmd) : parseL (l.drop i) i cs = .error e := by
  rw [dropc h] at hw ⊢
  exact parseL_bad (by simpa [stops] using hs) hc hw cs
theorem parse_drop_cmd {l : List Nat} {i c j : Nat} {ws : List Wrd} (h : l[i]? = some c) (hs : (blankB c || endB c) = false) (hc : c ≠ 35) (hw : wordsL (l.drop i) i [] = .ok (ws, j)) (cs : List Cmd) : parseL (l.drop i) i cs = parseL (l.drop j) j (cs ++ [⟨i, ws⟩]) ∧ i < j := by
  have hs' : stops (c :: l.drop (i + 1)) = false := by simpa [stops] using hs
  rw [dropc h] at hw ⊢
  have h1 := wordsL_le _ _ (Nat.le_refl _) _ _ _ _ hw
  refine ⟨?_, h1.2.2 hs'⟩
  rw [parseL_cmd hs' hc hw, ← dropc h, List.drop_drop, show i + (j - i) = j by omega]
theorem words_out {l : List Nat} {j : Nat} (h : l.length ≤ j) (ws : List Wrd) : wordsL (l.drop j) j ws = .ok (ws, j) := by rw [List.drop_of_length_le h]; rfl
theorem words_end {l : List Nat} {j d : Nat} (h : l[j]? = some d) (he : endB d = true) (ws : List Wrd) : wordsL (l.drop j) j ws = .ok (ws, j) := by rw [dropc h]; exact wordsL_end he _ _ _
theorem words_blank {l : List Nat} {j d : Nat} (h : l[j]? = some d) (hb : blankB d = true) (he : endB d = false) (ws : List Wrd) : wordsL (l.drop j) j ws = wordsL (l.drop (j + 1)) (j + 1) ws := by rw [dropc h]; exact wordsL_blank hb he _ _ _
theorem words_bad {l : List Nat} {j d : Nat} (h : l[j]? = some d) (hs : (blankB d || endB d) = false) {e : Nat × Nat} (hw : wordS (l.drop j) j = .error e) (ws : List Wrd) : wordsL (l.drop j) j ws = .error e := by
  rw [dropc h] at hw ⊢; exact wordsL_bad (by simpa [stops] using hs) hw ws
theorem words_word {l : List Nat} {j d k : Nat} {x : Wrd} (h : l[j]? = some d) (hs : (blankB d || endB d) = false) (hw : wordS (l.drop j) j = .ok (x, k)) (ws : List Wrd) : wordsL (l.drop j) j ws = wordsL (l.drop k) k (ws ++ [x]) ∧ j < k := by
  have hs' : stops (d :: l.drop (j + 1)) = false := by simpa [stops] using hs
  rw [dropc h] at hw ⊢
  have h1 := wordS_le hw hs'
  refine ⟨?_, h1.1⟩
  rw [wordsL_word hs' hw, ← dropc h, List.drop_drop, show j + (k - j) = k by omega]

set_option maxRecDepth 100000 in
set_option maxHeartbeats 8000000 in
theorem RParse_is (l : List Nat) (hl : ∀ c ∈ l, c < 256) (hn : l.length ≤ 16777216) (w : World) : Calls Try.prog 12 #[.string (str l)] w (ParseTo w l) := by
  have hsz := str_len l
  have HL := Lib.hid hl
  have HR0 : Hid (parseR l = match parseL l 0 [] with | .error e => ([], e.1, e.2) | .ok cs => (cs, 0, 0)) := Lib.hid (by unfold parseR; rw [if_neg (by omega)]; cases parseL l 0 [] <;> rfl)
  have HS0 := Lib.hid (cs_new w l)
  have q0 : decide ((16777216 : Int) < (l.length : Int)) = false := decide_eq_false (by omega)
  clear hl
  go_enter Try.func12, Try.ntmps12
  go_wp2_with fail
  generalize World.alloc w _ = w0 at *
  have hbb := HS0.out.at_b
  generalize hpb : w.heap.size = b at *
  clear hbb
  go_loopw [] (fun wr => ∃ (i e a : Nat) (g : Option Nat) (A : Option Addr) (c0 : Nat) (cs : List Cmd), i ≤ l.length + 1 ∧ Hid (CSt w w0 wr b l i e a g (.slice A cs.length c0) cs) ∧ Hid ((e = 0 → parseL l 0 [] = parseL (l.drop i) i cs ∧ cs.length ≤ i) ∧ (e ≠ 0 → parseL l 0 [] = .error (a, e)))) (fun wr => pMeas b l.length wr)
  case atStart => exact ⟨0, 0, 0, none, none, 0, [], by omega, HS0, Lib.hid ⟨fun _ => ⟨rfl, by simp⟩, fun h => absurd rfl h⟩⟩
  case round =>
    obtain ⟨i, e, a, g, A, c0, cs, hi, HS, HR⟩ := hrel
    have HM := Lib.hid (Rmore_is HS.out.obj)
    have HPL := Lib.hid (HS.out.obj.ms (L := l.length))
    by_cases hm : e = 0 ∧ i < l.length
    · obtain ⟨rfl, hlt⟩ := hm
      rw [decide_eq_true ⟨rfl, hlt⟩] at HM
      have HB := Lib.hid (HR.out.1 rfl)
      clear HR
      go_wp2_with fail
      refine HM.out.mono ?_
      rintro r w1 ⟨rfl, hb1, hh⟩
      have HS1 := Lib.hid (HS.out.below hb1)
      obtain ⟨_, k1, _, _, _⟩ := HS1.out.obj.cells
      have f1 := HS1.out.obj.fz 1
      obtain ⟨c, hc⟩ : ∃ c, l[i]? = some c := ⟨_, List.getElem?_eq_getElem hlt⟩
      obtain ⟨hks, hx⟩ := str_at HL.out hc
      have HC := Lib.hid hc
      have HBL := Lib.hid (Rblank_is c w1)
      have HEN := Lib.hid (Rend_is c w1)
      have e1 : ((i + 1 : Nat) : Int) = (i : Int) + 1 := by omega
      have HA := HS1.out.at_ (i + 1)
      rw [e1] at HA
      have HA1 := Lib.hid HA
      clear hc hb1 hh HM HS HA e1
      cases hbl : blankB c with
      | true =>
        rw [hbl] at HBL
        have HN := Lib.hid (HB.out.1.trans (parse_drop_stop HC.out (by rw [hbl]; rfl) cs))
        clear hbl
        go_wp2_with fail
        refine HBL.out.mono ?_
        rintro r w2 ⟨rfl, rfl⟩
        go_wp2_with fail
        go_roundw
        case rel => exact ⟨i + 1, 0, a, g, A, c0, cs, by omega, HA1, Lib.hid ⟨fun _ => ⟨HN.out, by have := HB.out.2; omega⟩, fun h => absurd rfl h⟩⟩
        case measure => rw [HPL.out, HA1.out.obj.ms, if_pos rfl, if_pos trivial]; omega
      | false =>
        rw [hbl] at HBL
        cases hen : endB c with
        | true =>
          rw [hen] at HEN
          have HN := Lib.hid (HB.out.1.trans (parse_drop_stop HC.out (by rw [hbl, hen]; rfl) cs))
          clear hbl hen
          go_wp2_with fail
          refine HBL.out.mono ?_
          rintro r w2 ⟨rfl, rfl⟩
          go_wp2_with fail
          refine HEN.out.mono ?_
          rintro r w2 ⟨rfl, rfl⟩
          go_wp2_with fail
          go_roundw
          case rel => exact ⟨i + 1, 0, a, g, A, c0, cs, by omega, HA1, Lib.hid ⟨fun _ => ⟨HN.out, by have := HB.out.2; omega⟩, fun h => absurd rfl h⟩⟩
          case measure => rw [HPL.out, HA1.out.obj.ms, if_pos rfl, if_pos trivial]; omega
        | false =>
          rw [hen] at HEN
          have HNS : Hid ((blankB c || endB c) = false) := Lib.hid (by rw [hbl, hen]; rfl)
          clear hbl hen HA1
          by_cases h35 : c = 35
          · have q1 : ((c : Int) == 35) = true := beq_iff_eq.2 (by omega)
            have HH : Hid (l[i]? = some 35) := Lib.hid (by rw [HC.out, h35])
            have HN := Lib.hid (HB.out.1.trans (parse_drop_hash HH.out cs))
            clear h35
            go_wp2_with fail
            refine HBL.out.mono ?_
            rintro r w2 ⟨rfl, rfl⟩
            go_wp2_with fail
            refine HEN.out.mono ?_
            rintro r w2 ⟨rfl, rfl⟩
            go_wp2_with fail
            clear k1 f1
            go_loopw [] (fun wi => ∃ j : Nat, i ≤ j ∧ j ≤ l.length ∧ Hid (CSt w w0 wi b l j 0 a g (.slice A cs.length c0) cs) ∧ Hid (parseL l 0 [] = parseL ((l.drop j).dropWhile (· != 10)) (j + ((l.drop j).takeWhile (· != 10)).length) cs)) (fun wi => l.length - pPlace b wi)
            case atStart => exact ⟨i, by omega, by omega, HS1, HN⟩
            case round =>
              obtain ⟨j, hij, hj, HJ, HNJ⟩ := hrel
              obtain ⟨_, j1, _, _, _⟩ := HJ.out.obj.cells
              have jf := HJ.out.obj.fz 1
              have HPJ := Lib.hid HJ.out.obj.pl
              by_cases hjl : j < l.length
              · have r1 : decide ((j : Int) < (l.length : Int)) = true := decide_eq_true (by omega)
                have r1n : decide (j < l.length) = true := decide_eq_true hjl
                obtain ⟨d, hd⟩ : ∃ d, l[j]? = some d := ⟨_, List.getElem?_eq_getElem hjl⟩
                obtain ⟨hks2, hx2⟩ := str_at HL.out hd
                have HD := Lib.hid hd
                clear hd
                by_cases h10 : d = 10
                · have r2 : ((d : Int) != 10) = false := by simp [h10]
                  have HX : Hid (l[j]? = some 10) := Lib.hid (by rw [HD.out, h10])
                  have hlt2 : i < j := by
                    rcases Nat.lt_or_ge i j with h | h
                    · exact h
                    · have e : j = i := by omega
                      have := HX.out
                      rw [e, HH.out] at this
                      injection this with this
                      omega
                  clear h10
                  go_wp2_with fail
                  go_roundw
                  case rel => exact ⟨j, 0, a, g, A, c0, cs, by omega, HJ, Lib.hid ⟨fun _ => ⟨HNJ.out.trans (hash_end (.inr HX.out) cs), by have := HB.out.2; omega⟩, fun h => absurd rfl h⟩⟩
                  case measure => rw [HPL.out, HJ.out.obj.ms, if_pos rfl, if_pos trivial]; omega
                · have r2 : ((d : Int) != 10) = true := by simp; omega
                  have HN2 := Lib.hid (HNJ.out.trans (hash_step HD.out h10 cs))
                  have e1 : ((j + 1 : Nat) : Int) = (j : Int) + 1 := by omega
                  have HA := HJ.out.at_ (j + 1)
                  rw [e1] at HA
                  have HA1 := Lib.hid HA
                  clear h10 e1 HA
                  go_wp2_with fail
                  go_roundw
                  case rel => exact ⟨j + 1, by omega, by omega, HA1, HN2⟩
                  case measure => rw [HPJ.out, HA1.out.obj.pl]; omega
              · have r1 : decide ((j : Int) < (l.length : Int)) = false := decide_eq_false (by omega)
                have r1n : decide (j < l.length) = false := decide_eq_false hjl
                have hlt2 : i < j := by omega
                have hjl2 : l.length ≤ j := by omega
                clear hjl
                go_wp2_with fail
                go_roundw
                case rel => exact ⟨j, 0, a, g, A, c0, cs, by omega, HJ, Lib.hid ⟨fun _ => ⟨HNJ.out.trans (hash_end (.inl hjl2) cs), by have := HB.out.2; omega⟩, fun h => absurd rfl h⟩⟩
                case measure => rw [HPL.out, HJ.out.obj.ms, if_pos rfl, if_pos trivial]; omega
          · have q1 : ((c : Int) == 35) = false := beq_eq_false_iff_ne.2 (by omega)
            have H35 := Lib.hid h35
            clear h35
            go_wp2_with fail
            refine HBL.out.mono ?_
            rintro r w2 ⟨rfl, rfl⟩
            go_wp2_with fail
            refine HEN.out.mono ?_
            rintro r w2 ⟨rfl, rfl⟩
            go_wp2_with fail
            have HM0 := Lib.hid (ms_new HS1.out.obj)
            generalize World.alloc w1 _ = w2 at *
            clear k1 f1
            go_loopw [] (fun wm => ∃ (jj ee aa : Nat) (g2 : Option Nat) (A2 : Option Addr) (c2 : Nat) (ws : List Wrd), jj ≤ l.length + 1 ∧ Hid (MSt w1 w2 wm b l jj ee aa (.slice A cs.length c0) i g2 (.slice A2 ws.length c2) ws) ∧ Hid ((ee = 0 → wordsL (l.drop i) i [] = wordsL (l.drop jj) jj ws ∧ ws.length ≤ jj) ∧ (ee ≠ 0 → wordsL (l.drop i) i [] = .error (aa, ee)))) (fun wm => pMeas b l.length wm)
            case atStart => exact ⟨i, 0, a, none, none, 0, [], by omega, HM0, Lib.hid ⟨fun _ => ⟨rfl, by simp⟩, fun h => absurd rfl h⟩⟩
            case round =>
              obtain ⟨jj, ee, aa, g2, A2, c2, ws, hjj, HMS0, HRW⟩ := hrel
              have HMM := Lib.hid (Rmore_is HMS0.out.obj)
              have HPM := Lib.hid (HMS0.out.obj.ms (L := l.length))
              by_cases hmm : ee = 0 ∧ jj < l.length
              · obtain ⟨rfl, hjlt⟩ := hmm
                rw [decide_eq_true ⟨rfl, hjlt⟩] at HMM
                have HBW := Lib.hid (HRW.out.1 rfl)
                clear HRW
                go_wp2_with fail
                refine HMM.out.mono ?_
                rintro r wm ⟨rfl, hb1, hh⟩
                have HMS := Lib.hid (HMS0.out.below hb1)
                obtain ⟨_, k1, _, _, _⟩ := HMS.out.obj.cells
                have f1 := HMS.out.obj.fz 1
                obtain ⟨d, hd⟩ : ∃ d, l[jj]? = some d := ⟨_, List.getElem?_eq_getElem hjlt⟩
                obtain ⟨hks2, hx2⟩ := str_at HL.out hd
                have HD := Lib.hid hd
                have HBL2 := Lib.hid (Rblank_is d wm)
                have HEN2 := Lib.hid (Rend_is d wm)
                clear hd hb1 hh HMM HMS0
                cases hen2 : endB d with
                | true =>
                  rw [hen2] at HEN2
                  have HNX := Lib.hid (show parseL l 0 [] = parseL (l.drop jj) jj (cs ++ [⟨(i : Nat), ws⟩]) ∧ i < jj from ⟨HB.out.1.trans (parse_drop_cmd HC.out HNS.out H35.out (HBW.out.1.trans (words_end HD.out hen2 ws)) cs).1, (parse_drop_cmd HC.out HNS.out H35.out (HBW.out.1.trans (words_end HD.out hen2 ws)) cs).2⟩)
                  clear hen2
                  go_wp2_with fail
                  refine HEN2.out.mono ?_
                  rintro r w5 ⟨rfl, rfl⟩
                  go_wp2_with fail
                  have HCR := HS1.out.row
                  have hO := HMS.out.only
                  have hRow : CRow w0 wm g (.slice A cs.length c0) cs := URow.still wrdsSub_ok HCR (Still.of_only hO fun q _ hq e => by have := HS1.out.at_b; have := HS1.out.base; omega)
                  have hb1 : Below wm.heap.size wm (wm.alloc (.cells #[.int .i64 (i : Nat), .slice A2 ws.length c2] 39)).drew := ((Below.refl _ wm).alloc (Nat.le_refl _) _).drew
                  have hRow1 := URow.below wrdsSub_ok hRow hb1
                  have hMS1 := HMS.out.below hb1
                  have hWs : Wrds (fun q => w0.heap.size ≤ q ∧ g ≠ some q) (wm.alloc (.cells #[.int .i64 (i : Nat), .slice A2 ws.length c2] 39)).drew (.slice A2 ws.length c2) ws := (hMS1.row.wrds).fit wrd_ok (fun q hq _ => ⟨by have := HS1.out.size; have := HMS.out.base; omega, fun e => by have := HCR.lt e; have := HMS.out.base; omega⟩)
                  obtain ⟨A3, c3, W3, g3, hap, hR3, hG3, hE3⟩ := URow.run (P := Try.prog) (x := (⟨(i : Nat), ws⟩ : Cmd)) (u := .slice A2 ws.length c2) wrdsSub_ok hRow1 (by have := HS1.out.size; have := HMS.out.size; have := HMS.out.base; simp; omega) hWs 22 22 Try.underlying22 cmd_info rfl (.slice (some ⟨wm.heap.size, 0, none⟩) 1 1) (src_cells (V := wm.drew) (C := #[.int .i64 (i : Nat), .slice A2 ws.length c2]) Try.underlying22 wm.heap.size rfl rfl rfl (by intro u hu; simp [ccell] at hu; rcases hu with rfl | rfl <;> rfl)) (by have := HB.out.2; omega) (by have := HB.out.2; omega)
                  have HRUN := Lib.hid hap
                  have hgb : g ≠ some b := fun e => by have := HCR.own e; have := HS1.out.at_b; have := HS1.out.base; omega
                  have hOb : PObj W3 b l jj 0 aa (.slice A cs.length c0) := Blk.keep hMS1.obj (hG3.block b (by have := Blk.lt hMS1.obj; exact this) (fun e => hgb e.symm))
                  have hcbk : Blk W3 w1.heap.size 39 #[.int .i64 (i : Nat), .slice A2 ws.length c2] := hMS1.cmd.keep (hG3.block _ hMS1.cmd.lt (fun e => by have := HCR.lt e.symm; omega))
                  have HLD : Hid ((((wm.alloc (.cells #[.int .i64 (i : Nat), .slice A2 ws.length c2] 39)).drew.cell? ⟨b, 4, none⟩ = some (.slice A cs.length c0)) ∧ ((wm.alloc (.cells #[.int .i64 (i : Nat), .slice A2 ws.length c2] 39)).drew.frozen? ⟨b, 4, none⟩ = false) ∧ ((wm.alloc (.cells #[.int .i64 (i : Nat), .slice A2 ws.length c2] 39)).drew.cell? ⟨w1.heap.size, 0, none⟩ = some (.int .i64 (i : Nat))) ∧ ((wm.alloc (.cells #[.int .i64 (i : Nat), .slice A2 ws.length c2] 39)).drew.cell? ⟨w1.heap.size, 1, none⟩ = some (.slice A2 ws.length c2))) ∧ (W3.cell? ⟨b, 4, none⟩ = some (.slice A cs.length c0) ∧ W3.frozen? ⟨b, 4, none⟩ = false ∧ W3.cell? ⟨w1.heap.size, 0, none⟩ = some (.int .i64 (i : Nat)) ∧ W3.cell? ⟨w1.heap.size, 1, none⟩ = some (.slice A2 ws.length c2))) := Lib.hid ⟨⟨hMS1.obj.cells.2.2.2.2, hMS1.obj.fz 4, hMS1.cmd.cell 0, hMS1.cmd.cell 1⟩, hOb.cells.2.2.2.2, hOb.fz 4, hcbk.cell 0, hcbk.cell 1⟩
                  have hbelW : Below w.heap.size w W3 := by
                    have hx1 : Below w.heap.size w wm := HS1.out.bel.trans (Only.below hO (by have := HS1.out.bel.size; omega) (fun q hq e => by have := HS1.out.at_b; omega))
                    have hx2 := hx1.trans (hb1.mono hx1.size)
                    exact hx2.grown hG3 hx2.size (fun k e => by have := HCR.own e; have := HS1.out.base; omega)
                  have hfin : Hid (CSt w w0 (W3.setCell ⟨b, 4, none⟩ (.slice A3 (cs.length + 1) c3)) b l jj 0 aa g3 (.slice A3 (cs.length + 1) c3) (cs ++ [⟨(i : Nat), ws⟩])) := Lib.hid ⟨hOb.cmds _, URow.still wrdsSub_ok hR3 ⟨by simp [World.setCell], fun q hq _ => Below.heap_setCell _ _ _ _ (by show q ≠ b; have := HS1.out.at_b; have := HS1.out.base; omega)⟩, hbelW.setCell (p := ⟨b, 4, none⟩) (by show w.heap.size ≤ b; have := HS1.out.at_b; omega) _, HS1.out.at_b, HS1.out.base, by simp [World.setCell]; have := hG3.size; have := hb1.size; have := HMS.out.size; have := HMS.out.base; have := HS1.out.size; omega⟩
                  have m4 := HMS.out.obj.cells.2.2.2.2
                  have mf4 := HMS.out.obj.fz 4
                  have mc0 := HMS.out.cmd.cell 0
                  have mc1 := HMS.out.cmd.cell 1
                  simp at mc0 mc1
                  clear HCR hO hRow hb1 hRow1 hMS1 hWs hap hR3 hG3 hE3 hgb hOb hcbk hbelW
                  refine wp_region_noPanic ?_
                  refine wp_region_upto (fun W => W.cell? ⟨b, 4, none⟩ = some (.slice A cs.length c0) ∧ W.frozen? ⟨b, 4, none⟩ = false ∧ W.cell? ⟨w1.heap.size, 0, none⟩ = some (.int .i64 (i : Nat)) ∧ W.cell? ⟨w1.heap.size, 1, none⟩ = some (.slice A2 ws.length c2)) 10 (by kernel_rfl) ?_ (fun hHeld => ?_)
                  · exact ⟨m4, mf4, mc0, mc1⟩
                  refine wpUpto.take 0 (by kernel_rfl) (by kernel_rfl) (by kernel_rfl) (by kernel_rfl) (by assumption) ?_
                  intro o ho
                  simp only [List.getElem?_toArray, List.getElem?_cons_zero, Option.some.injEq] at ho
                  subst ho
                  refine ⟨?_, fun _ _ _ h => h, Or.inl ⟨by rfl, ?_⟩, ?_⟩
                  rotate_left
                  · intro w hSw
                    go_simp
                    try with_reducible rfl
                  simp only [Act.put, List.setIfInBounds_toArray, List.set_cons_zero, List.set_cons_succ]
                  refine wpUpto.take 1 (by kernel_rfl) (by kernel_rfl) (by kernel_rfl) (by kernel_rfl) (by assumption) ?_
                  intro o ho
                  simp only [List.getElem?_toArray, List.getElem?_cons_succ, List.getElem?_cons_zero, Option.some.injEq] at ho
                  subst ho
                  refine ⟨?_, fun _ _ _ h => h, Or.inl ⟨by rfl, ?_⟩, ?_⟩
                  rotate_left
                  · intro w hSw
                    go_simp
                    try with_reducible rfl
                  simp only [Act.put, List.setIfInBounds_toArray, List.set_cons_zero, List.set_cons_succ]
                  refine wpUpto.take 2 (by kernel_rfl) (by kernel_rfl) (by kernel_rfl) (by kernel_rfl) (by assumption) ?_
                  intro o ho
                  simp only [List.getElem?_toArray, List.getElem?_cons_succ, List.getElem?_cons_zero, Option.some.injEq] at ho
                  subst ho
                  refine ⟨?_, fun _ _ _ h => h, Or.inl ⟨by rfl, ?_⟩, ?_⟩
                  rotate_left
                  · intro w hSw
                    go_simp
                    try with_reducible rfl
                  simp only [Act.put, List.setIfInBounds_toArray, List.set_cons_zero, List.set_cons_succ]
                  refine wpUpto.take 3 (by kernel_rfl) (by kernel_rfl) (by kernel_rfl) (by kernel_rfl) (by assumption) ?_
                  intro o ho
                  simp only [List.getElem?_toArray, List.getElem?_cons_succ, List.getElem?_cons_zero, Option.some.injEq] at ho
                  subst ho
                  refine ⟨?_, fun _ _ _ h => h, Or.inl ⟨by rfl, ?_⟩, ?_⟩
                  rotate_left
                  · intro w hSw
                    go_simp
                    try with_reducible rfl
                  simp only [Act.put, List.setIfInBounds_toArray, List.set_cons_zero, List.set_cons_succ]
                  refine wpUpto.take 4 (by kernel_rfl) (by kernel_rfl) (by kernel_rfl) (by kernel_rfl) (by assumption) ?_
                  intro o ho
                  simp only [List.getElem?_toArray, List.getElem?_cons_succ, List.getElem?_cons_zero, Option.some.injEq] at ho
                  subst ho
                  refine ⟨?_, fun _ _ _ h => h, Or.inl ⟨by rfl, ?_⟩, ?_⟩
                  rotate_left
                  · intro w hSw
                    go_simp
                    try with_reducible rfl
                  simp only [Act.put, List.setIfInBounds_toArray, List.set_cons_zero, List.set_cons_succ]
                  refine wpUpto.take 5 (by kernel_rfl) (by kernel_rfl) (by kernel_rfl) (by kernel_rfl) (by assumption) ?_
                  intro o ho
                  simp only [List.getElem?_toArray, List.getElem?_cons_succ, List.getElem?_cons_zero, Option.some.injEq] at ho
                  subst ho
                  refine ⟨?_, fun _ _ _ h => h, Or.inl ⟨by rfl, ?_⟩, ?_⟩
                  rotate_left
                  · intro w hSw
                    go_simp
                    try with_reducible rfl
                  simp only [Act.put, List.setIfInBounds_toArray, List.set_cons_zero, List.set_cons_succ]
                  refine wpUpto.one 6 (by kernel_rfl) ?_
                  intro o ho K hK
                  simp only [List.getElem?_toArray, List.getElem?_cons_succ, List.getElem?_cons_zero, Option.some.injEq] at ho
                  subst ho
                  go_simp
                  refine hK.out _ _ ?_ (fun hHeld => ?_)
                  · exact HLD.out.1
                  clear hK K
                  try simp only [Act.put, List.setIfInBounds_toArray, List.set_cons_zero, List.set_cons_succ]
                  refine wpUpto.one 7 (by kernel_rfl) ?_
                  intro o ho K hK
                  simp only [List.getElem?_toArray, List.getElem?_cons_succ, List.getElem?_cons_zero, Option.some.injEq] at ho
                  subst ho
                  refine step_append_run rfl (.tmp 102) (.tmp 104) _ rfl _ _ _ _ rfl rfl HRUN.out ?_
                  refine hK.out _ _ ?_ (fun hHeld => ?_)
                  · exact HLD.out.2
                  clear hK K
                  try simp only [Act.put, List.setIfInBounds_toArray, List.set_cons_zero, List.set_cons_succ]
                  refine wpUpto.one 8 (by kernel_rfl) ?_
                  intro o ho K hK
                  simp only [List.getElem?_toArray, List.getElem?_cons_succ, List.getElem?_cons_zero, Option.some.injEq] at ho
                  subst ho
                  go_simp
                  refine hK.out _ _ ?_ (fun hHeld => ?_)
                  · exact HLD.out.2
                  clear hK K
                  try simp only [Act.put, List.setIfInBounds_toArray, List.set_cons_zero, List.set_cons_succ]
                  refine wpUpto.one 9 (by kernel_rfl) ?_
                  intro o ho K hK
                  simp only [List.getElem?_toArray, List.getElem?_cons_succ, List.getElem?_cons_zero, Option.some.injEq] at ho
                  subst ho
                  go_simp
                  refine hK.out _ _ ?_ (fun hHeld => ?_)
                  · exact HLD.out.2
                  clear hK K
                  try simp only [Act.put, List.setIfInBounds_toArray, List.set_cons_zero, List.set_cons_succ]
                  refine wpUpto.last (by kernel_rfl) ?_
                  intro o ho K hK
                  simp only [List.getElem?_toArray, List.getElem?_cons_succ, List.getElem?_cons_zero, Option.some.injEq] at ho
                  subst ho
                  go_simp
                  refine hK.out _ _ ?_
                  clear hK K
                  refine wpUpto.done (by kernel_rfl) ?_ _
                  refine NoPanic.normal ?_
                  try simp only [Act.put, List.setIfInBounds_toArray, List.set_cons_zero, List.set_cons_succ]
                  clear HRUN
                  go_wp2_with fail
                  go_roundw
                  case rel => exact ⟨jj, 0, aa, g3, A3, c3, cs ++ [⟨(i : Nat), ws⟩], by omega, by rw [List.length_append, List.length_singleton]; exact hfin, Lib.hid ⟨fun _ => ⟨HNX.out.1, by rw [List.length_append, List.length_singleton]; have := HB.out.2; have := HNX.out.2; omega⟩, fun h => absurd rfl h⟩⟩
                  case measure => rw [HPL.out, hfin.out.obj.ms, if_pos rfl, if_pos trivial]; have := HNX.out.2; omega
                | false =>
                  rw [hen2] at HEN2
                  cases hbl2 : blankB d with
                  | true =>
                    rw [hbl2] at HBL2
                    have HN2 := Lib.hid (HBW.out.1.trans (words_blank HD.out hbl2 hen2 ws))
                    have e1 : ((jj + 1 : Nat) : Int) = (jj : Int) + 1 := by omega
                    have HA := HMS.out.at_ (jj + 1)
                    rw [e1] at HA
                    have HA1 := Lib.hid HA
                    clear hen2 hbl2 e1 HA
                    go_wp2_with fail
                    refine HEN2.out.mono ?_
                    rintro r w5 ⟨rfl, rfl⟩
                    go_wp2_with fail
                    refine HBL2.out.mono ?_
                    rintro r w5 ⟨rfl, rfl⟩
                    go_wp2_with fail
                    go_roundw
                    case rel => exact ⟨jj + 1, 0, aa, g2, A2, c2, ws, by omega, HA1, Lib.hid ⟨fun _ => ⟨HN2.out, by have := HBW.out.2; omega⟩, fun h => absurd rfl h⟩⟩
                    case measure => rw [HPM.out, HA1.out.obj.ms, if_pos rfl, if_pos trivial]; omega
                  | false =>
                    rw [hbl2] at HBL2
                    have HNS2 : Hid ((blankB d || endB d) = false) := Lib.hid (by rw [hbl2, hen2]; rfl)
                    clear hen2 hbl2
                    go_wp2_with fail
                    refine HEN2.out.mono ?_
                    rintro r w5 ⟨rfl, rfl⟩
                    go_wp2_with fail
                    refine HBL2.out.mono ?_
                    rintro r w5 ⟨rfl, rfl⟩
                    go_wp2_with fail
                    have HMSD : Hid (MSt w1 w2 wm.drew b l jj 0 aa (.slice A cs.length c0) i g2 (.slice A2 ws.length c2) ws) := Lib.hid (HMS.out.below (show Below wm.heap.size wm wm.drew from ⟨rfl, rfl, rfl, Nat.le_refl _, fun _ _ => rfl⟩))
                    have HWD := Lib.hid (Rword_is HMSD.out.obj HL.out hn hjlt)
                    have mc1 := HMS.out.cmd.cell 1
                    have mf1 := HMS.out.cmd.frozen 1
                    simp at mc1
                    clear HMS k1 f1
                    refine wp_region_noPanic ?_
                    refine wp_region_upto (fun W => W.cell? ⟨w1.heap.size, 1, none⟩ = some (.slice A2 ws.length c2) ∧ W.frozen? ⟨w1.heap.size, 1, none⟩ = false) 7 (by kernel_rfl) ?_ (fun hHeld => ?_)
                    · exact ⟨mc1, mf1⟩
                    refine wpUpto.take 0 (by kernel_rfl) (by kernel_rfl) (by kernel_rfl) (by kernel_rfl) (by assumption) ?_
                    intro o ho
                    simp only [List.getElem?_toArray, List.getElem?_cons_zero, Option.some.injEq] at ho
                    subst ho
                    refine ⟨?_, fun _ _ _ h => h, Or.inl ⟨by rfl, ?_⟩, ?_⟩
                    rotate_left
                    · intro w hSw
                      go_simp
                      try with_reducible rfl
                    simp only [Act.put, List.setIfInBounds_toArray, List.set_cons_zero, List.set_cons_succ]
                    refine wpUpto.take 1 (by kernel_rfl) (by kernel_rfl) (by kernel_rfl) (by kernel_rfl) (by assumption) ?_
                    intro o ho
                    simp only [List.getElem?_toArray, List.getElem?_cons_succ, List.getElem?_cons_zero, Option.some.injEq] at ho
                    subst ho
                    refine ⟨?_, fun _ _ _ h => h, Or.inl ⟨by rfl, ?_⟩, ?_⟩
                    rotate_left
                    · intro w hSw
                      go_simp
                      try with_reducible rfl
                    simp only [Act.put, List.setIfInBounds_toArray, List.set_cons_zero, List.set_cons_succ]
                    refine wpUpto.take 2 (by kernel_rfl) (by kernel_rfl) (by kernel_rfl) (by kernel_rfl) (by assumption) ?_
                    intro o ho
                    simp only [List.getElem?_toArray, List.getElem?_cons_succ, List.getElem?_cons_zero, Option.some.injEq] at ho
                    subst ho
                    refine ⟨?_, fun _ _ _ h => h, Or.inl ⟨by rfl, ?_⟩, ?_⟩
                    rotate_left
                    · intro w hSw
                      go_simp
                      try with_reducible rfl
                    simp only [Act.put, List.setIfInBounds_toArray, List.set_cons_zero, List.set_cons_succ]
                    refine wpUpto.one 3 (by kernel_rfl) ?_
                    intro o ho K hK
                    simp only [List.getElem?_toArray, List.getElem?_cons_succ, List.getElem?_cons_zero, Option.some.injEq] at ho
                    subst ho
                    go_simp
                    go_at_call 25
                    refine HWD.out.mono ?_
                    intro r w5 hq
                    obtain ⟨x, A5, c5, i5, e5, a5, rfl, hMS5, hpr5, hi5, hR5⟩ := HMSD.out.word hq
                    obtain ⟨A7, c7, W7, g7, hap, hk6, hk7, hMS7⟩ := hMS5.push hpr5 (by have := HBW.out.2; omega)
                    have HRUN := Lib.hid hap
                    have HK := Lib.hid (And.intro (And.intro (hMS5.cmd.cell 1) (hMS5.cmd.frozen 1)) (And.intro hk6 hk7))
                    have HMS7 := Lib.hid hMS7
                    have HR5 := Lib.hid hR5
                    clear hq hMS5 hpr5 hap hk6 hk7 hMS7 hR5
                    refine hK.out _ _ ?_ (fun hHeld => ?_)
                    · exact HK.out.1
                    clear hK K
                    try simp only [Act.put, List.setIfInBounds_toArray, List.set_cons_zero, List.set_cons_succ]
                    refine wpUpto.one 4 (by kernel_rfl) ?_
                    intro o ho K hK
                    simp only [List.getElem?_toArray, List.getElem?_cons_succ, List.getElem?_cons_zero, Option.some.injEq] at ho
                    subst ho
                    go_simp
                    refine hK.out _ _ ?_ (fun hHeld => ?_)
                    · exact HK.out.2.1
                    clear hK K
                    try simp only [Act.put, List.setIfInBounds_toArray, List.set_cons_zero, List.set_cons_succ]
                    refine wpUpto.one 5 (by kernel_rfl) ?_
                    intro o ho K hK
                    simp only [List.getElem?_toArray, List.getElem?_cons_succ, List.getElem?_cons_zero, Option.some.injEq] at ho
                    subst ho
                    refine step_append_run rfl (.tmp 92) (.tmp 95) _ rfl _ _ _ _ rfl rfl HRUN.out ?_
                    refine hK.out _ _ ?_ (fun hHeld => ?_)
                    · exact HK.out.2.2
                    clear hK K
                    try simp only [Act.put, List.setIfInBounds_toArray, List.set_cons_zero, List.set_cons_succ]
                    refine wpUpto.one 6 (by kernel_rfl) ?_
                    intro o ho K hK
                    simp only [List.getElem?_toArray, List.getElem?_cons_succ, List.getElem?_cons_zero, Option.some.injEq] at ho
                    subst ho
                    go_simp
                    refine hK.out _ _ ?_ (fun hHeld => ?_)
                    · exact HK.out.2.2
                    clear hK K
                    try simp only [Act.put, List.setIfInBounds_toArray, List.set_cons_zero, List.set_cons_succ]
                    refine wpUpto.last (by kernel_rfl) ?_
                    intro o ho K hK
                    simp only [List.getElem?_toArray, List.getElem?_cons_succ, List.getElem?_cons_zero, Option.some.injEq] at ho
                    subst ho
                    go_simp
                    refine hK.out _ _ ?_
                    clear hK K
                    refine wpUpto.done (by kernel_rfl) ?_ _
                    refine NoPanic.normal ?_
                    try simp only [Act.put, List.setIfInBounds_toArray, List.set_cons_zero, List.set_cons_succ]
                    clear HRUN HK
                    go_wp2_with fail
                    cases hw : wordS (l.drop jj) jj with
                    | ok q =>
                      obtain ⟨y, k⟩ := q
                      have h5 := HR5.out
                      rw [hw] at h5
                      obtain ⟨rfl, rfl, rfl⟩ := h5
                      have h6 := words_word HD.out HNS2.out hw ws
                      have hw3 := wordS_le hw (by rw [dropc HD.out]; simpa [stops] using HNS2.out)
                      rw [List.length_drop] at hw3
                      go_roundw
                      case rel => exact ⟨i5, 0, a5, g7, A7, c7, ws ++ [x], by omega, by rw [List.length_append, List.length_singleton]; exact HMS7, Lib.hid ⟨fun _ => ⟨HBW.out.1.trans h6.1, by rw [List.length_append, List.length_singleton]; have := HBW.out.2; omega⟩, fun h => absurd rfl h⟩⟩
                      case measure => rw [HPM.out, HMS7.out.obj.ms, if_pos rfl, if_pos trivial]; omega
                    | error q =>
                      obtain ⟨pp, cc⟩ := q
                      have h5 := HR5.out
                      rw [hw] at h5
                      obtain ⟨rfl, rfl, hne⟩ := h5
                      go_roundw
                      case rel => exact ⟨i5, e5, a5, g7, A7, c7, ws ++ [x], by omega, by rw [List.length_append, List.length_singleton]; exact HMS7, Lib.hid ⟨fun h => absurd h hne, fun _ => HBW.out.1.trans (words_bad HD.out HNS2.out hw ws)⟩⟩
                      case measure => rw [HPM.out, HMS7.out.obj.ms, if_neg hne, if_pos trivial]; omega
              · rw [decide_eq_false hmm] at HMM
                have HM2 := Lib.hid hmm
                clear hmm
                go_wp2_with fail
                refine HMM.out.mono ?_
                rintro r wm ⟨rfl, hb1, hh⟩
                have HMS := Lib.hid (HMS0.out.below hb1)
                clear hb1 hh HMM HMS0 HPM
                have HNX : Hid ((ee = 0 → parseL l 0 [] = parseL (l.drop jj) jj (cs ++ [⟨(i : Nat), ws⟩]) ∧ (cs ++ [(⟨(i : Nat), ws⟩ : Cmd)]).length ≤ jj) ∧ (ee ≠ 0 → parseL l 0 [] = .error (aa, ee))) := Lib.hid ⟨fun h => by
                    have hi2 : l.length ≤ jj := by have := HM2.out; omega
                    have h1 := parse_drop_cmd HC.out HNS.out H35.out ((HRW.out.1 h).1.trans (words_out hi2 ws)) cs
                    exact ⟨HB.out.1.trans h1.1, by rw [List.length_append, List.length_singleton]; have := HB.out.2; omega⟩, fun h => HB.out.1.trans (parse_drop_bad HC.out HNS.out H35.out (HRW.out.2 h) cs)⟩
                have HNY : Hid (ee = 0 → i < jj) := Lib.hid fun h => by
                    have hi2 : l.length ≤ jj := by have := HM2.out; omega
                    exact (parse_drop_cmd HC.out HNS.out H35.out ((HRW.out.1 h).1.trans (words_out hi2 ws)) cs).2
                go_wp2_with fail
                have HCR := HS1.out.row
                have hO := HMS.out.only
                have hRow : CRow w0 wm g (.slice A cs.length c0) cs := URow.still wrdsSub_ok HCR (Still.of_only hO fun q _ hq e => by have := HS1.out.at_b; have := HS1.out.base; omega)
                have hb1 : Below wm.heap.size wm (wm.alloc (.cells #[.int .i64 (i : Nat), .slice A2 ws.length c2] 39)).drew := ((Below.refl _ wm).alloc (Nat.le_refl _) _).drew
                have hRow1 := URow.below wrdsSub_ok hRow hb1
                have hMS1 := HMS.out.below hb1
                have hWs : Wrds (fun q => w0.heap.size ≤ q ∧ g ≠ some q) (wm.alloc (.cells #[.int .i64 (i : Nat), .slice A2 ws.length c2] 39)).drew (.slice A2 ws.length c2) ws := (hMS1.row.wrds).fit wrd_ok (fun q hq _ => ⟨by have := HS1.out.size; have := HMS.out.base; omega, fun e => by have := HCR.lt e; have := HMS.out.base; omega⟩)
                obtain ⟨A3, c3, W3, g3, hap, hR3, hG3, hE3⟩ := URow.run (P := Try.prog) (x := (⟨(i : Nat), ws⟩ : Cmd)) (u := .slice A2 ws.length c2) wrdsSub_ok hRow1 (by have := HS1.out.size; have := HMS.out.size; have := HMS.out.base; simp; omega) hWs 22 22 Try.underlying22 cmd_info rfl (.slice (some ⟨wm.heap.size, 0, none⟩) 1 1) (src_cells (V := wm.drew) (C := #[.int .i64 (i : Nat), .slice A2 ws.length c2]) Try.underlying22 wm.heap.size rfl rfl rfl (by intro u hu; simp [ccell] at hu; rcases hu with rfl | rfl <;> rfl)) (by have := HB.out.2; omega) (by have := HB.out.2; omega)
                have HRUN := Lib.hid hap
                have hgb : g ≠ some b := fun e => by have := HCR.own e; have := HS1.out.at_b; have := HS1.out.base; omega
                have hOb : PObj W3 b l jj ee aa (.slice A cs.length c0) := Blk.keep hMS1.obj (hG3.block b (by have := Blk.lt hMS1.obj; exact this) (fun e => hgb e.symm))
                have hcbk : Blk W3 w1.heap.size 39 #[.int .i64 (i : Nat), .slice A2 ws.length c2] := hMS1.cmd.keep (hG3.block _ hMS1.cmd.lt (fun e => by have := HCR.lt e.symm; omega))
                have HLD : Hid ((((wm.alloc (.cells #[.int .i64 (i : Nat), .slice A2 ws.length c2] 39)).drew.cell? ⟨b, 4, none⟩ = some (.slice A cs.length c0)) ∧ ((wm.alloc (.cells #[.int .i64 (i : Nat), .slice A2 ws.length c2] 39)).drew.frozen? ⟨b, 4, none⟩ = false) ∧ ((wm.alloc (.cells #[.int .i64 (i : Nat), .slice A2 ws.length c2] 39)).drew.cell? ⟨w1.heap.size, 0, none⟩ = some (.int .i64 (i : Nat))) ∧ ((wm.alloc (.cells #[.int .i64 (i : Nat), .slice A2 ws.length c2] 39)).drew.cell? ⟨w1.heap.size, 1, none⟩ = some (.slice A2 ws.length c2))) ∧ (W3.cell? ⟨b, 4, none⟩ = some (.slice A cs.length c0) ∧ W3.frozen? ⟨b, 4, none⟩ = false ∧ W3.cell? ⟨w1.heap.size, 0, none⟩ = some (.int .i64 (i : Nat)) ∧ W3.cell? ⟨w1.heap.size, 1, none⟩ = some (.slice A2 ws.length c2))) := Lib.hid ⟨⟨hMS1.obj.cells.2.2.2.2, hMS1.obj.fz 4, hMS1.cmd.cell 0, hMS1.cmd.cell 1⟩, hOb.cells.2.2.2.2, hOb.fz 4, hcbk.cell 0, hcbk.cell 1⟩
                have hbelW : Below w.heap.size w W3 := by
                  have hx1 : Below w.heap.size w wm := HS1.out.bel.trans (Only.below hO (by have := HS1.out.bel.size; omega) (fun q hq e => by have := HS1.out.at_b; omega))
                  have hx2 := hx1.trans (hb1.mono hx1.size)
                  exact hx2.grown hG3 hx2.size (fun k e => by have := HCR.own e; have := HS1.out.base; omega)
                have hfin : Hid (CSt w w0 (W3.setCell ⟨b, 4, none⟩ (.slice A3 (cs.length + 1) c3)) b l jj ee aa g3 (.slice A3 (cs.length + 1) c3) (cs ++ [⟨(i : Nat), ws⟩])) := Lib.hid ⟨hOb.cmds _, URow.still wrdsSub_ok hR3 ⟨by simp [World.setCell], fun q hq _ => Below.heap_setCell _ _ _ _ (by show q ≠ b; have := HS1.out.at_b; have := HS1.out.base; omega)⟩, hbelW.setCell (p := ⟨b, 4, none⟩) (by show w.heap.size ≤ b; have := HS1.out.at_b; omega) _, HS1.out.at_b, HS1.out.base, by simp [World.setCell]; have := hG3.size; have := hb1.size; have := HMS.out.size; have := HMS.out.base; have := HS1.out.size; omega⟩
                have m4 := HMS.out.obj.cells.2.2.2.2
                have mf4 := HMS.out.obj.fz 4
                have mc0 := HMS.out.cmd.cell 0
                have mc1 := HMS.out.cmd.cell 1
                simp at mc0 mc1
                clear HCR hO hRow hb1 hRow1 hMS1 hWs hap hR3 hG3 hE3 hgb hOb hcbk hbelW
                refine wp_region_noPanic ?_
                refine wp_region_upto (fun W => W.cell? ⟨b, 4, none⟩ = some (.slice A cs.length c0) ∧ W.frozen? ⟨b, 4, none⟩ = false ∧ W.cell? ⟨w1.heap.size, 0, none⟩ = some (.int .i64 (i : Nat)) ∧ W.cell? ⟨w1.heap.size, 1, none⟩ = some (.slice A2 ws.length c2)) 10 (by kernel_rfl) ?_ (fun hHeld => ?_)
                · exact ⟨m4, mf4, mc0, mc1⟩
                refine wpUpto.take 0 (by kernel_rfl) (by kernel_rfl) (by kernel_rfl) (by kernel_rfl) (by assumption) ?_
                intro o ho
                simp only [List.getElem?_toArray, List.getElem?_cons_zero, Option.some.injEq] at ho
                subst ho
                refine ⟨?_, fun _ _ _ h => h, Or.inl ⟨by rfl, ?_⟩, ?_⟩
                rotate_left
                · intro w hSw
                  go_simp
                  try with_reducible rfl
                simp only [Act.put, List.setIfInBounds_toArray, List.set_cons_zero, List.set_cons_succ]
                refine wpUpto.take 1 (by kernel_rfl) (by kernel_rfl) (by kernel_rfl) (by kernel_rfl) (by assumption) ?_
                intro o ho
                simp only [List.getElem?_toArray, List.getElem?_cons_succ, List.getElem?_cons_zero, Option.some.injEq] at ho
                subst ho
                refine ⟨?_, fun _ _ _ h => h, Or.inl ⟨by rfl, ?_⟩, ?_⟩
                rotate_left
                · intro w hSw
                  go_simp
                  try with_reducible rfl
                simp only [Act.put, List.setIfInBounds_toArray, List.set_cons_zero, List.set_cons_succ]
                refine wpUpto.take 2 (by kernel_rfl) (by kernel_rfl) (by kernel_rfl) (by kernel_rfl) (by assumption) ?_
                intro o ho
                simp only [List.getElem?_toArray, List.getElem?_cons_succ, List.getElem?_cons_zero, Option.some.injEq] at ho
                subst ho
                refine ⟨?_, fun _ _ _ h => h, Or.inl ⟨by rfl, ?_⟩, ?_⟩
                rotate_left
                · intro w hSw
                  go_simp
                  try with_reducible rfl
                simp only [Act.put, List.setIfInBounds_toArray, List.set_cons_zero, List.set_cons_succ]
                refine wpUpto.take 3 (by kernel_rfl) (by kernel_rfl) (by kernel_rfl) (by kernel_rfl) (by assumption) ?_
                intro o ho
                simp only [List.getElem?_toArray, List.getElem?_cons_succ, List.getElem?_cons_zero, Option.some.injEq] at ho
                subst ho
                refine ⟨?_, fun _ _ _ h => h, Or.inl ⟨by rfl, ?_⟩, ?_⟩
                rotate_left
                · intro w hSw
                  go_simp
                  try with_reducible rfl
                simp only [Act.put, List.setIfInBounds_toArray, List.set_cons_zero, List.set_cons_succ]
                refine wpUpto.take 4 (by kernel_rfl) (by kernel_rfl) (by kernel_rfl) (by kernel_rfl) (by assumption) ?_
                intro o ho
                simp only [List.getElem?_toArray, List.getElem?_cons_succ, List.getElem?_cons_zero, Option.some.injEq] at ho
                subst ho
                refine ⟨?_, fun _ _ _ h => h, Or.inl ⟨by rfl, ?_⟩, ?_⟩
                rotate_left
                · intro w hSw
                  go_simp
                  try with_reducible rfl
                simp only [Act.put, List.setIfInBounds_toArray, List.set_cons_zero, List.set_cons_succ]
                refine wpUpto.take 5 (by kernel_rfl) (by kernel_rfl) (by kernel_rfl) (by kernel_rfl) (by assumption) ?_
                intro o ho
                simp only [List.getElem?_toArray, List.getElem?_cons_succ, List.getElem?_cons_zero, Option.some.injEq] at ho
                subst ho
                refine ⟨?_, fun _ _ _ h => h, Or.inl ⟨by rfl, ?_⟩, ?_⟩
                rotate_left
                · intro w hSw
                  go_simp
                  try with_reducible rfl
                simp only [Act.put, List.setIfInBounds_toArray, List.set_cons_zero, List.set_cons_succ]
                refine wpUpto.one 6 (by kernel_rfl) ?_
                intro o ho K hK
                simp only [List.getElem?_toArray, List.getElem?_cons_succ, List.getElem?_cons_zero, Option.some.injEq] at ho
                subst ho
                go_simp
                refine hK.out _ _ ?_ (fun hHeld => ?_)
                · exact HLD.out.1
                clear hK K
                try simp only [Act.put, List.setIfInBounds_toArray, List.set_cons_zero, List.set_cons_succ]
                refine wpUpto.one 7 (by kernel_rfl) ?_
                intro o ho K hK
                simp only [List.getElem?_toArray, List.getElem?_cons_succ, List.getElem?_cons_zero, Option.some.injEq] at ho
                subst ho
                refine step_append_run rfl (.tmp 102) (.tmp 104) _ rfl _ _ _ _ rfl rfl HRUN.out ?_
                refine hK.out _ _ ?_ (fun hHeld => ?_)
                · exact HLD.out.2
                clear hK K
                try simp only [Act.put, List.setIfInBounds_toArray, List.set_cons_zero, List.set_cons_succ]
                refine wpUpto.one 8 (by kernel_rfl) ?_
                intro o ho K hK
                simp only [List.getElem?_toArray, List.getElem?_cons_succ, List.getElem?_cons_zero, Option.some.injEq] at ho
                subst ho
                go_simp
                refine hK.out _ _ ?_ (fun hHeld => ?_)
                · exact HLD.out.2
                clear hK K
                try simp only [Act.put, List.setIfInBounds_toArray, List.set_cons_zero, List.set_cons_succ]
                refine wpUpto.one 9 (by kernel_rfl) ?_
                intro o ho K hK
                simp only [List.getElem?_toArray, List.getElem?_cons_succ, List.getElem?_cons_zero, Option.some.injEq] at ho
                subst ho
                go_simp
                refine hK.out _ _ ?_ (fun hHeld => ?_)
                · exact HLD.out.2
                clear hK K
                try simp only [Act.put, List.setIfInBounds_toArray, List.set_cons_zero, List.set_cons_succ]
                refine wpUpto.last (by kernel_rfl) ?_
                intro o ho K hK
                simp only [List.getElem?_toArray, List.getElem?_cons_succ, List.getElem?_cons_zero, Option.some.injEq] at ho
                subst ho
                go_simp
                refine hK.out _ _ ?_
                clear hK K
                refine wpUpto.done (by kernel_rfl) ?_ _
                refine NoPanic.normal ?_
                try simp only [Act.put, List.setIfInBounds_toArray, List.set_cons_zero, List.set_cons_succ]
                clear HRUN
                go_wp2_with fail
                go_roundw
                case rel => exact ⟨jj, ee, aa, g3, A3, c3, cs ++ [⟨(i : Nat), ws⟩], by omega, by rw [List.length_append, List.length_singleton]; exact hfin, HNX⟩
                case measure => rw [HPL.out, hfin.out.obj.ms, if_pos trivial]; have := HNY.out; split <;> omega
    · rw [decide_eq_false hm] at HM
      have HM2 := Lib.hid hm
      clear hm
      go_wp2_with fail
      refine HM.out.mono ?_
      rintro r w1 ⟨rfl, hb1, hh⟩
      have HS1 := Lib.hid (HS.out.below hb1)
      obtain ⟨_, _, k2, k3, k4⟩ := HS1.out.obj.cells
      clear hb1 hh HM HS HPL
      by_cases he : e = 0
      · have q1 : ((e : Int) != 0) = false := by simp [he]
        have HE0 := Lib.hid he
        have hi2 : l.length ≤ i := by have := HM2.out; omega
        have HPR : Hid (parseR l = (cs, 0, 0)) := Lib.hid (by rw [HR0.out, (HR.out.1 he).1, List.drop_of_length_le hi2]; rfl)
        clear he
        go_wp2_with fail
        go_ret3
        refine ⟨.slice A cs.length c0, by rw [HPR.out]; rfl, ?_, ?_⟩
        · rw [HPR.out]
          exact (HS1.out.row.cmds).fit cmd_ok (fun _ _ _ => trivial)
        · exact hpb ▸ HS1.out.bel
      · have q1 : ((e : Int) != 0) = true := by simp; omega
        have HPR : Hid (parseR l = ([], a, e)) := Lib.hid (by rw [HR0.out, HR.out.2 he])
        clear he
        go_wp2_with fail
        go_quiet (fail)
        have HB7 := Lib.hid (HS1.out.bel.trans ((drewN_below w1 nq).mono HS1.out.bel.size))
        generalize World.drewN w1 _ = w7 at *
        go_wp2_with fail
        go_ret3
        refine ⟨.slice none 0 0, by rw [HPR.out]; rfl, ?_, hpb ▸ HB7.out⟩
        rw [HPR.out]
        exact SlI.nil none 0
end Go.Proofs.Ytphmhglebeapaaa
