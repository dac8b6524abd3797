/-
  The document's word.
  Conditions: a text of at most 16777216 bytes, at a place of it that is no blank and no end.
-/
import Derived.Test.YtphmhglebeapaaaTRBar
namespace Go.Proofs.Ytphmhglebeapaaa
open Go.RowKit

/-- A braced word, as a result; what stands behind a braced or quoted word. -/
def braceR (l : List Nat) (st : Nat) : Except (Nat × Nat) (Wrd × Nat) :=
  match braceS st (l.drop st) st 0 with
  | .ok j => .ok (⟨st, 2, brParts l st j⟩, j)
  | .error e => .error e
def endR (l : List Nat) (res : Except (Nat × Nat) (Wrd × Nat)) : Except (Nat × Nat) (Wrd × Nat) :=
  match res with
  | .ok (x, j) => if stops (l.drop j) then .ok (x, j) else .error (j, 4)
  | .error e => .error e
theorem BraceTo.word {w w' : World} {b st : Nat} {l : List Nat} {cv : Value} {r : Ending} (h : BraceTo w b st l cv r w') : WordTo w b l cv (braceR l st) r w' := by
  obtain ⟨i', e', a', v, ps, h1, h2, h3, h4, h5, h6⟩ := h
  refine ⟨⟨st, 2, ps⟩, v, i', e', a', h1, h2, h3, h4, h5, ?_⟩
  unfold braceR
  cases hb : braceS st (l.drop st) st 0 with
  | ok j => rw [hb] at h6; obtain ⟨rfl, rfl, rfl⟩ := h6; exact ⟨rfl, rfl, rfl⟩
  | error e => obtain ⟨p, c⟩ := e; rw [hb] at h6; exact h6
theorem word_bare {l : List Nat} {st c : Nat} (h : l[st]? = some c) (h1 : c ≠ 123) (h2 : c ≠ 34) : wordS (l.drop st) st = bareR l st := by
  unfold bareR
  rw [dropc h, wordS, if_neg h1, if_neg h2]
  cases bareS (c :: l.drop (st + 1)) st [] with
  | ok q => rfl
  | error e => rfl
theorem word_brace {l : List Nat} {st : Nat} (h : l[st]? = some 123) : wordS (l.drop st) st = endR l (braceR l st) := by
  unfold braceR endR
  rw [dropc h, wordS, if_pos rfl]
  cases hb : braceS st (123 :: l.drop (st + 1)) st 0 with
  | ok j =>
    dsimp only
    have hj := braceS_le _ _ _ (Nat.le_refl _) _ _ _ hb
    rw [← dropc h, List.drop_drop, show st + (j - st) = j by omega]
    rfl
  | error e => rfl
theorem word_quote {l : List Nat} {st : Nat} (h : l[st]? = some 34) : wordS (l.drop st) st = endR l (quotR l st) := by
  unfold quotR endR
  rw [dropc h, wordS, if_neg (by omega), if_pos rfl]
  cases hb : quotS st (l.drop (st + 1)) (st + 1) [] with
  | ok q =>
    obtain ⟨ps, j⟩ := q
    dsimp only
    have hj := quotS_le _ _ _ (Nat.le_refl _) _ _ _ _ hb
    rw [← dropc h, List.drop_drop, show st + (j - st) = j by omega]
  | error e => rfl
theorem stops_out {l : List Nat} {j : Nat} (h : l.length ≤ j) : stops (l.drop j) = true := by rw [List.drop_of_length_le h]; rfl
theorem stops_at {l : List Nat} {j c : Nat} (h : l[j]? = some c) : stops (l.drop j) = (blankB c || endB c) := by rw [dropc h]; rfl

/-- A word that was read lies in a block again; the block of what is told. -/
structure WkSt (w W : World) (b : Nat) (l : List Nat) (i e a : Nat) (cv : Value) (x : Wrd) (v : Value) : Prop where
  obj : PObj W b l i e a cv
  only : OnlyP b w W
  old : b < w.heap.size
  res : Blk W w.heap.size 44 #[.int .i64 0, .int .i64 0, .slice none 0 0]
  wrd : Blk W (w.heap.size + 1) 44 #[.int .i64 x.at_, .int .i64 x.kind, v]
  prts : Prts (fun q => w.heap.size + 2 ≤ q) W v x.parts
section
variable {w W W' : World} {b i e a : Nat} {l : List Nat} {cv v : Value} {x : Wrd}
theorem WkSt.below (h : WkSt w W b l i e a cv x v) (hb : Below W.heap.size W W') : WkSt w W' b l i e a cv x v :=
  ⟨h.obj.below hb, h.only.below hb, h.old, h.res.below hb h.res.lt, h.wrd.below hb h.wrd.lt, h.prts.below prt_ok hb⟩
theorem WkSt.fail {a' e' : Nat} (h : WkSt w W b l i e a cv x v) (hp : PObj W' b l i e' a' cv) (ho : OnlyP b W W') : WkSt w W' b l i e' a' cv x v :=
  ⟨hp, h.only.then ho, h.old, h.res.only ho (by have := h.old; omega), h.wrd.only ho (by have := h.old; omega), h.prts.still prt_ok (Still.of_only ho fun q _ hq e => by have := h.old; omega)⟩
theorem WkSt.told (h : WkSt w W b l i e a cv x v) :
    let W3 := ((W.setCell ⟨w.heap.size, 0, none⟩ (.int .i64 x.at_)).setCell ⟨w.heap.size, 1, none⟩ (.int .i64 x.kind)).setCell ⟨w.heap.size, 2, none⟩ v
    Blk W3 w.heap.size 44 #[.int .i64 x.at_, .int .i64 x.kind, v] ∧ PObj W3 b l i e a cv ∧ OnlyP b w W3 ∧ Prts (fun q => w.heap.size ≤ q) W3 v x.parts := by
  refine ⟨h.res.set3, (PObj.told h.obj h.only h.old w.heap.size (Nat.le_refl _) _ _ _).1, (PObj.told h.obj h.only h.old w.heap.size (Nat.le_refl _) _ _ _).2, ?_⟩
  refine SlI.fit prt_ok (SlI.still prt_ok h.prts ⟨by simp [World.setCell], fun q hq hl => ?_⟩) (fun q hq _ => by omega)
  have hne : q ≠ w.heap.size := by omega
  rw [Below.heap_setCell _ _ _ _ hne, Below.heap_setCell _ _ _ _ hne, Below.heap_setCell _ _ _ _ hne]
/-- What was told by a reader, stored in the word's block. -/
theorem WordTo.put {w1 : World} {res : Except (Nat × Nat) (Wrd × Nat)} {r : Ending} (h : WordTo w1 b l cv res r W') (ho : OnlyP b w w1) (hb : b < w.heap.size) (hs : w1.heap.size = w.heap.size + 2)
    (hr : Blk w1 w.heap.size 44 #[.int .i64 0, .int .i64 0, .slice none 0 0]) (hw : Blk w1 (w.heap.size + 1) 44 #[.int .i64 0, .int .i64 0, .slice none 0 0]) :
    ∃ (x : Wrd) (v : Value) (i' e' a' : Nat), r = .returned (.agg #[.int .i64 x.at_, .int .i64 x.kind, v]) ∧ Blk W' (w.heap.size + 1) 44 #[.int .i64 0, .int .i64 0, .slice none 0 0] ∧
      WkSt w (((W'.setCell ⟨w.heap.size + 1, 0, none⟩ (.int .i64 x.at_)).setCell ⟨w.heap.size + 1, 1, none⟩ (.int .i64 x.kind)).setCell ⟨w.heap.size + 1, 2, none⟩ v) b l i' e' a' cv x v ∧ i' ≤ l.length + 1 ∧ ResTo res x i' e' a' := by
  obtain ⟨x, v, i', e', a', h1, h2, h3, h4, h5, h6⟩ := h
  have hW := hw.only h3 (by omega)
  have hR := hr.only h3 (by omega)
  have hne : ∀ q, w1.heap.size ≤ q → q ≠ w.heap.size + 1 := fun q hq => by omega
  have hnr : w.heap.size ≠ w.heap.size + 1 := by omega
  refine ⟨x, v, i', e', a', h1, hW, ⟨?_, ?_, hb, ?_, hW.set3, ?_⟩, h5, h6⟩
  · exact (PObj.told h2 (ho.then h3) hb (w.heap.size + 1) (by omega) _ _ _).1
  · exact (PObj.told h2 (ho.then h3) hb (w.heap.size + 1) (by omega) _ _ _).2
  · exact Blk.far (Blk.far (Blk.far hR (p := ⟨w.heap.size + 1, 0, none⟩) hnr _) (p := ⟨w.heap.size + 1, 1, none⟩) hnr _) (p := ⟨w.heap.size + 1, 2, none⟩) hnr _
  · refine SlI.fit prt_ok (SlI.still prt_ok h4 ⟨by simp [World.setCell], fun q hq hl => ?_⟩) (fun q hq _ => by omega)
    rw [Below.heap_setCell _ _ _ _ (hne q hq), Below.heap_setCell _ _ _ _ (hne q hq), Below.heap_setCell _ _ _ _ (hne q hq)]
end

theorem wk_new {w w2 : World} {b st a : Nat} {l : List Nat} {cv : Value} (h : PObj w2 b l st 0 a cv) (hb : Below w.heap.size w w2) (hs : w2.heap.size = w.heap.size + 1) (hr : Blk w2 w.heap.size 44 #[.int .i64 0, .int .i64 0, .slice none 0 0]) :
    PObj (w2.alloc (.cells #[.int .i64 0, .int .i64 0, .slice none 0 0] 44)) b l st 0 a cv ∧ OnlyP b w (w2.alloc (.cells #[.int .i64 0, .int .i64 0, .slice none 0 0] 44)) ∧ (w2.alloc (.cells #[.int .i64 0, .int .i64 0, .slice none 0 0] 44)).heap.size = w.heap.size + 2 ∧ Blk (w2.alloc (.cells #[.int .i64 0, .int .i64 0, .slice none 0 0] 44)) w.heap.size 44 #[.int .i64 0, .int .i64 0, .slice none 0 0] ∧ Blk (w2.alloc (.cells #[.int .i64 0, .int .i64 0, .slice none 0 0] 44)) (w.heap.size + 1) 44 #[.int .i64 0, .int .i64 0, .slice none 0 0] := by
  refine ⟨h.below ((Below.refl _ w2).alloc (Nat.le_refl _) _), Only.of_below (hb.trans (((Below.refl _ w2).alloc (Nat.le_refl _) _).mono hb.size)) (Nat.le_refl _) _, by simp [hs], hr.alloc _, ?_⟩
  rw [← hs]
  exact Blk.new w2 _ _

set_option maxRecDepth 100000 in
set_option maxHeartbeats 4000000 in
theorem Rword_is {w : World} {b st a : Nat} {l : List Nat} {cv : Value} (h : PObj w b l st 0 a cv) (hl : ∀ c ∈ l, c < 256) (hn : l.length ≤ 16777216) (hst : st < l.length) :
    Calls Try.prog 25 #[.pointer (some ⟨b, 0, none⟩)] w (WordTo w b l cv (wordS (l.drop st) st)) := by
  have hsz := str_len l
  have HL := Lib.hid hl
  obtain ⟨c, hc⟩ : ∃ c, l[st]? = some c := ⟨_, List.getElem?_eq_getElem hst⟩
  obtain ⟨hks, hx⟩ := str_at hl hc
  have HC := Lib.hid hc
  have HB1 : Hid (Below w.heap.size w (w.alloc (.cells #[.int .i64 0, .int .i64 0, .slice none 0 0] 44)) ∧ (w.alloc (.cells #[.int .i64 0, .int .i64 0, .slice none 0 0] 44)).heap.size = w.heap.size + 1 ∧ Blk (w.alloc (.cells #[.int .i64 0, .int .i64 0, .slice none 0 0] 44)) w.heap.size 44 #[.int .i64 0, .int .i64 0, .slice none 0 0]) := Lib.hid ⟨(Below.refl _ w).alloc (Nat.le_refl _) _, by simp, Blk.new w _ _⟩
  have HP := Lib.hid h
  have hold : b < w.heap.size := Blk.lt h
  clear h hl hc
  go_enter Try.func25, Try.ntmps25
  go_wp2_with fail
  generalize World.alloc w _ = w1 at *
  have HP1 := Lib.hid (HP.out.below HB1.out.1)
  obtain ⟨k0, k1, _, _, _⟩ := HP1.out.cells
  by_cases h123 : c = 123
  · have q1 : ((c : Int) != 123) = false := by simp [h123]
    have q2 : ((c : Int) == 123) = true := beq_iff_eq.2 (by omega)
    have HE := Lib.hid (word_brace (show l[st]? = some 123 by rw [HC.out, h123]))
    have H0 := Lib.hid (show l[st]? = some 123 by rw [HC.out, h123])
    clear h123
    go_quiet (fail)
    have HP2 := Lib.hid (HP1.out.below (drewN_below w1 nq))
    have HB2 : Hid (Below w.heap.size w (w1.drewN nq) ∧ (w1.drewN nq).heap.size = w.heap.size + 1 ∧ Blk (w1.drewN nq) w.heap.size 44 #[.int .i64 0, .int .i64 0, .slice none 0 0]) := Lib.hid ⟨HB1.out.1.trans ((drewN_below w1 nq).mono HB1.out.1.size), HB1.out.2.1, HB1.out.2.2⟩
    clear k0 k1 HP1 HB1 HP
    generalize World.drewN w1 _ = w2 at *
    have HW3 : Hid (PObj (w2.alloc (.cells #[.int .i64 0, .int .i64 0, .slice none 0 0] 44)) b l st 0 a cv ∧ OnlyP b w (w2.alloc (.cells #[.int .i64 0, .int .i64 0, .slice none 0 0] 44)) ∧ (w2.alloc (.cells #[.int .i64 0, .int .i64 0, .slice none 0 0] 44)).heap.size = w.heap.size + 2 ∧ Blk (w2.alloc (.cells #[.int .i64 0, .int .i64 0, .slice none 0 0] 44)) w.heap.size 44 #[.int .i64 0, .int .i64 0, .slice none 0 0] ∧ Blk (w2.alloc (.cells #[.int .i64 0, .int .i64 0, .slice none 0 0] 44)) (w.heap.size + 1) 44 #[.int .i64 0, .int .i64 0, .slice none 0 0]) := Lib.hid (wk_new HP2.out HB2.out.1 HB2.out.2.1 HB2.out.2.2)
    have hs2 : w2.heap.size = w.heap.size + 1 := HB2.out.2.1
    clear HB2 HP2
    go_upto_region 4 with (fail)
    rw [hs2] at *
    generalize World.alloc w2 _ = w3 at *
    clear hs2
    obtain ⟨k0, k1, _, _, _⟩ := HW3.out.1.cells
    have hx3 := hx
    go_quiet (fail)
    have HW4 : Hid (PObj (w3.drewN nq) b l st 0 a cv ∧ OnlyP b w (w3.drewN nq) ∧ (w3.drewN nq).heap.size = w.heap.size + 2 ∧ Blk (w3.drewN nq) w.heap.size 44 #[.int .i64 0, .int .i64 0, .slice none 0 0] ∧ Blk (w3.drewN nq) (w.heap.size + 1) 44 #[.int .i64 0, .int .i64 0, .slice none 0 0]) := Lib.hid ⟨HW3.out.1, HW3.out.2.1.below (drewN_below w3 nq), HW3.out.2.2.1, HW3.out.2.2.2.1, HW3.out.2.2.2.2⟩
    clear k0 k1 HW3
    generalize World.drewN w3 _ = w4 at *
    have HQ : Hid (Calls Try.prog 38 #[.pointer (some ⟨b, 0, none⟩)] w4 (WordTo w4 b l cv (braceR l st))) := Lib.hid ((Rbraced_is HW4.out.1 HL.out (by omega) H0.out).mono fun _ _ h => h.word)
    go_wp2_with fail
    refine HQ.out.mono ?_
    intro r w5 hq
    obtain ⟨x, v, i', e', a', rfl, hblk, hS5, hi5, hR5⟩ := WordTo.put hq HW4.out.2.1 hold HW4.out.2.2.1 HW4.out.2.2.2.1 HW4.out.2.2.2.2
    obtain ⟨A5, c5, rfl, _⟩ := hS5.prts.form
    have HS5 := Lib.hid hS5
    have HR5 := Lib.hid hR5
    have t0 := hblk.cell 0
    have t1 := hblk.cell 1
    have t2 := hblk.cell 2
    have u0 := hblk.frozen 0
    have u1 := hblk.frozen 1
    have u2 := hblk.frozen 2
    simp at t0 t1 t2
    clear hq hblk hS5 hR5 HQ HW4
    go_wp2_with fail
    generalize World.setCell (World.setCell (World.setCell w5 _ _) _ _) _ _ = w6 at *
    clear t0 t1 t2 u0 u1 u2
    have HM := Lib.hid (Rmore_n HS5.out.obj)
    by_cases hm : e' = 0 ∧ i' < l.length
    · have hlt := hm.2
      rw [decide_eq_true hm] at HM
      have HE0 := Lib.hid hm.1
      clear hm
      obtain ⟨k0, k1, _, _, _⟩ := HS5.out.obj.cells
      obtain ⟨d, hd⟩ : ∃ d, l[i']? = some d := ⟨_, List.getElem?_eq_getElem hlt⟩
      obtain ⟨hks2, hx2⟩ := str_at HL.out hd
      have HD := Lib.hid hd
      have HBL := Lib.hid (Rblank_n d w6)
      have HEN := Lib.hid (Rend_n d w6)
      have HR6 : Hid (∃ y, braceR l st = .ok (y, i') ∧ x = y) := Lib.hid (by
        have h1 := HR5.out
        cases hres : braceR l st with
        | ok q => obtain ⟨y, j⟩ := q; rw [hres] at h1; obtain ⟨rfl, rfl, _⟩ := h1; exact ⟨_, rfl, rfl⟩
        | error q => obtain ⟨p, cc⟩ := q; rw [hres] at h1; exact absurd HE0.out h1.2.2)
      clear hd
      cases hbl : blankB d with
      | true =>
        rw [hbl] at HBL
        have HST := Lib.hid (show stops (l.drop i') = true by rw [stops_at HD.out, hbl]; rfl)
        clear hbl
        go_quiet ((first | (go_at_call 22; exact HM.out _) | (go_at_call 23; exact HBL.out _)))
        have HS7 := Lib.hid (HS5.out.below (drewN_below w6 nq))
        generalize World.drewN w6 _ = w7 at *
        have r0 := HS7.out.res.cell 0
        have r1 := HS7.out.res.cell 1
        have r2 := HS7.out.res.cell 2
        have s0 := HS7.out.wrd.cell 0
        have s1 := HS7.out.wrd.cell 1
        have s2 := HS7.out.wrd.cell 2
        have g0 := HS7.out.res.frozen 0
        have g1 := HS7.out.res.frozen 1
        have g2 := HS7.out.res.frozen 2
        simp at r0 r1 r2 s0 s1 s2
        go_wp2_with fail
        have hT := HS7.out.told
        refine bodyPost_ret (results_word (t := 2) (by kernel_rfl) rfl hT.1) rfl ?_
        refine ⟨x, _, i', e', a', rfl, hT.2.1, hT.2.2.1, hT.2.2.2, hi5, ?_⟩
        rw [HE.out]
        unfold endR
        obtain ⟨y, h1, rfl⟩ := HR6.out
        rw [h1]
        dsimp only
        rw [if_pos HST.out]
        exact ⟨rfl, rfl, HE0.out⟩
      | false =>
        rw [hbl] at HBL
        cases hen : endB d with
        | true =>
          rw [hen] at HEN
          have HST := Lib.hid (show stops (l.drop i') = true by rw [stops_at HD.out, hbl, hen]; rfl)
          clear hbl hen
          go_quiet ((first | (go_at_call 22; exact HM.out _) | (go_at_call 23; exact HBL.out _) | (go_at_call 24; exact HEN.out _)))
          have HS7 := Lib.hid (HS5.out.below (drewN_below w6 nq))
          generalize World.drewN w6 _ = w7 at *
          have r0 := HS7.out.res.cell 0
          have r1 := HS7.out.res.cell 1
          have r2 := HS7.out.res.cell 2
          have s0 := HS7.out.wrd.cell 0
          have s1 := HS7.out.wrd.cell 1
          have s2 := HS7.out.wrd.cell 2
          have g0 := HS7.out.res.frozen 0
          have g1 := HS7.out.res.frozen 1
          have g2 := HS7.out.res.frozen 2
          simp at r0 r1 r2 s0 s1 s2
          go_wp2_with fail
          have hT := HS7.out.told
          refine bodyPost_ret (results_word (t := 2) (by kernel_rfl) rfl hT.1) rfl ?_
          refine ⟨x, _, i', e', a', rfl, hT.2.1, hT.2.2.1, hT.2.2.2, hi5, ?_⟩
          rw [HE.out]
          unfold endR
          obtain ⟨y, h1, rfl⟩ := HR6.out
          rw [h1]
          dsimp only
          rw [if_pos HST.out]
          exact ⟨rfl, rfl, HE0.out⟩
        | false =>
          rw [hen] at HEN
          have HST := Lib.hid (show stops (l.drop i') = false by rw [stops_at HD.out, hbl, hen]; rfl)
          clear hbl hen
          go_quiet ((first | (go_at_call 22; exact HM.out _) | (go_at_call 23; exact HBL.out _) | (go_at_call 24; exact HEN.out _)))
          have HS6 := Lib.hid (HS5.out.below (drewN_below w6 nq))
          generalize World.drewN w6 _ = w7 at *
          clear k0 k1 HM HBL HEN
          obtain ⟨_, k1, _, _, _⟩ := HS6.out.obj.cells
          have HF : Hid (Calls Try.prog 40 #[.pointer (some ⟨b, 0, none⟩), .int .i64 (i' : Nat), .int .i64 4] w7 fun r w' => r = .returned (.tuple #[]) ∧ Failed w7 b l i' e' a' cv i' 4 w') := Lib.hid (Rfail_is HS6.out.obj i' 4)
          go_wp2_with fail
          refine HF.out.mono ?_
          rintro r w8 ⟨rfl, hp8, ho8⟩
          have HS7 := Lib.hid (HS6.out.fail hp8 ho8)
          clear hp8 ho8 k1
          have r0 := HS7.out.res.cell 0
          have r1 := HS7.out.res.cell 1
          have r2 := HS7.out.res.cell 2
          have s0 := HS7.out.wrd.cell 0
          have s1 := HS7.out.wrd.cell 1
          have s2 := HS7.out.wrd.cell 2
          have g0 := HS7.out.res.frozen 0
          have g1 := HS7.out.res.frozen 1
          have g2 := HS7.out.res.frozen 2
          simp at r0 r1 r2 s0 s1 s2
          go_wp2_with fail
          have hT := HS7.out.told
          refine bodyPost_ret (results_word (t := 2) (by kernel_rfl) rfl hT.1) rfl ?_
          refine ⟨x, _, i', _, _, rfl, hT.2.1, hT.2.2.1, hT.2.2.2, hi5, ?_⟩
          rw [HE.out]
          unfold endR
          obtain ⟨y, h1, rfl⟩ := HR6.out
          rw [h1]
          dsimp only
          rw [if_neg (by rw [HST.out]; simp), if_pos HE0.out, if_pos HE0.out]
          exact ⟨rfl, rfl, by omega⟩
    · rw [decide_eq_false hm] at HM
      have HM2 := Lib.hid hm
      clear hm
      go_quiet ((go_at_call 22; exact HM.out _))
      have HS7 := Lib.hid (HS5.out.below (drewN_below w6 nq))
      generalize World.drewN w6 _ = w7 at *
      have r0 := HS7.out.res.cell 0
      have r1 := HS7.out.res.cell 1
      have r2 := HS7.out.res.cell 2
      have s0 := HS7.out.wrd.cell 0
      have s1 := HS7.out.wrd.cell 1
      have s2 := HS7.out.wrd.cell 2
      have g0 := HS7.out.res.frozen 0
      have g1 := HS7.out.res.frozen 1
      have g2 := HS7.out.res.frozen 2
      simp at r0 r1 r2 s0 s1 s2
      go_wp2_with fail
      have hT := HS7.out.told
      refine bodyPost_ret (results_word (t := 2) (by kernel_rfl) rfl hT.1) rfl ?_
      refine ⟨x, _, i', e', a', rfl, hT.2.1, hT.2.2.1, hT.2.2.2, hi5, ?_⟩
      rw [HE.out]
      unfold endR
      have h1 := HR5.out
      cases hres : braceR l st with
      | ok q =>
        obtain ⟨y, j⟩ := q
        rw [hres] at h1
        obtain ⟨rfl, rfl, rfl⟩ := h1
        have hi2 : l.length ≤ i' := by have := HM2.out; omega
        dsimp only
        rw [if_pos (stops_out hi2)]
        exact ⟨rfl, rfl, rfl⟩
      | error q =>
        obtain ⟨p, cc⟩ := q
        rw [hres] at h1
        exact h1
  · have q1 : ((c : Int) != 123) = true := by simp; omega
    by_cases h34 : c = 34
    · have q2 : ((c : Int) != 34) = false := by simp [h34]
      have q3 : ((c : Int) == 123) = false := beq_eq_false_iff_ne.2 (by omega)
      have HE := Lib.hid (word_quote (show l[st]? = some 34 by rw [HC.out, h34]))
      clear h34 h123
      go_quiet (fail)
      have HP2 := Lib.hid (HP1.out.below (drewN_below w1 nq))
      have HB2 : Hid (Below w.heap.size w (w1.drewN nq) ∧ (w1.drewN nq).heap.size = w.heap.size + 1 ∧ Blk (w1.drewN nq) w.heap.size 44 #[.int .i64 0, .int .i64 0, .slice none 0 0]) := Lib.hid ⟨HB1.out.1.trans ((drewN_below w1 nq).mono HB1.out.1.size), HB1.out.2.1, HB1.out.2.2⟩
      clear k0 k1 HP1 HB1 HP
      generalize World.drewN w1 _ = w2 at *
      have HW3 : Hid (PObj (w2.alloc (.cells #[.int .i64 0, .int .i64 0, .slice none 0 0] 44)) b l st 0 a cv ∧ OnlyP b w (w2.alloc (.cells #[.int .i64 0, .int .i64 0, .slice none 0 0] 44)) ∧ (w2.alloc (.cells #[.int .i64 0, .int .i64 0, .slice none 0 0] 44)).heap.size = w.heap.size + 2 ∧ Blk (w2.alloc (.cells #[.int .i64 0, .int .i64 0, .slice none 0 0] 44)) w.heap.size 44 #[.int .i64 0, .int .i64 0, .slice none 0 0] ∧ Blk (w2.alloc (.cells #[.int .i64 0, .int .i64 0, .slice none 0 0] 44)) (w.heap.size + 1) 44 #[.int .i64 0, .int .i64 0, .slice none 0 0]) := Lib.hid (wk_new HP2.out HB2.out.1 HB2.out.2.1 HB2.out.2.2)
      have hs2 : w2.heap.size = w.heap.size + 1 := HB2.out.2.1
      clear HB2 HP2
      go_upto_region 4 with (fail)
      rw [hs2] at *
      generalize World.alloc w2 _ = w3 at *
      clear hs2
      obtain ⟨k0, k1, _, _, _⟩ := HW3.out.1.cells
      have hx3 := hx
      go_quiet (fail)
      have HW4 : Hid (PObj (w3.drewN nq) b l st 0 a cv ∧ OnlyP b w (w3.drewN nq) ∧ (w3.drewN nq).heap.size = w.heap.size + 2 ∧ Blk (w3.drewN nq) w.heap.size 44 #[.int .i64 0, .int .i64 0, .slice none 0 0] ∧ Blk (w3.drewN nq) (w.heap.size + 1) 44 #[.int .i64 0, .int .i64 0, .slice none 0 0]) := Lib.hid ⟨HW3.out.1, HW3.out.2.1.below (drewN_below w3 nq), HW3.out.2.2.1, HW3.out.2.2.2.1, HW3.out.2.2.2.2⟩
      clear k0 k1 HW3
      generalize World.drewN w3 _ = w4 at *
      have HQ := Lib.hid (Rquoted_is HW4.out.1 HL.out hn hst)
      go_wp2_with fail
      refine HQ.out.mono ?_
      intro r w5 hq
      obtain ⟨x, v, i', e', a', rfl, hblk, hS5, hi5, hR5⟩ := WordTo.put hq HW4.out.2.1 hold HW4.out.2.2.1 HW4.out.2.2.2.1 HW4.out.2.2.2.2
      obtain ⟨A5, c5, rfl, _⟩ := hS5.prts.form
      have HS5 := Lib.hid hS5
      have HR5 := Lib.hid hR5
      have t0 := hblk.cell 0
      have t1 := hblk.cell 1
      have t2 := hblk.cell 2
      have u0 := hblk.frozen 0
      have u1 := hblk.frozen 1
      have u2 := hblk.frozen 2
      simp at t0 t1 t2
      clear hq hblk hS5 hR5 HQ HW4
      go_wp2_with fail
      generalize World.setCell (World.setCell (World.setCell w5 _ _) _ _) _ _ = w6 at *
      clear t0 t1 t2 u0 u1 u2
      have HM := Lib.hid (Rmore_n HS5.out.obj)
      by_cases hm : e' = 0 ∧ i' < l.length
      · have hlt := hm.2
        rw [decide_eq_true hm] at HM
        have HE0 := Lib.hid hm.1
        clear hm
        obtain ⟨k0, k1, _, _, _⟩ := HS5.out.obj.cells
        obtain ⟨d, hd⟩ : ∃ d, l[i']? = some d := ⟨_, List.getElem?_eq_getElem hlt⟩
        obtain ⟨hks2, hx2⟩ := str_at HL.out hd
        have HD := Lib.hid hd
        have HBL := Lib.hid (Rblank_n d w6)
        have HEN := Lib.hid (Rend_n d w6)
        have HR6 : Hid (∃ y, quotR l st = .ok (y, i') ∧ x = y) := Lib.hid (by
          have h1 := HR5.out
          cases hres : quotR l st with
          | ok q => obtain ⟨y, j⟩ := q; rw [hres] at h1; obtain ⟨rfl, rfl, _⟩ := h1; exact ⟨_, rfl, rfl⟩
          | error q => obtain ⟨p, cc⟩ := q; rw [hres] at h1; exact absurd HE0.out h1.2.2)
        clear hd
        cases hbl : blankB d with
        | true =>
          rw [hbl] at HBL
          have HST := Lib.hid (show stops (l.drop i') = true by rw [stops_at HD.out, hbl]; rfl)
          clear hbl
          go_quiet ((first | (go_at_call 22; exact HM.out _) | (go_at_call 23; exact HBL.out _)))
          have HS7 := Lib.hid (HS5.out.below (drewN_below w6 nq))
          generalize World.drewN w6 _ = w7 at *
          have r0 := HS7.out.res.cell 0
          have r1 := HS7.out.res.cell 1
          have r2 := HS7.out.res.cell 2
          have s0 := HS7.out.wrd.cell 0
          have s1 := HS7.out.wrd.cell 1
          have s2 := HS7.out.wrd.cell 2
          have g0 := HS7.out.res.frozen 0
          have g1 := HS7.out.res.frozen 1
          have g2 := HS7.out.res.frozen 2
          simp at r0 r1 r2 s0 s1 s2
          go_wp2_with fail
          have hT := HS7.out.told
          refine bodyPost_ret (results_word (t := 2) (by kernel_rfl) rfl hT.1) rfl ?_
          refine ⟨x, _, i', e', a', rfl, hT.2.1, hT.2.2.1, hT.2.2.2, hi5, ?_⟩
          rw [HE.out]
          unfold endR
          obtain ⟨y, h1, rfl⟩ := HR6.out
          rw [h1]
          dsimp only
          rw [if_pos HST.out]
          exact ⟨rfl, rfl, HE0.out⟩
        | false =>
          rw [hbl] at HBL
          cases hen : endB d with
          | true =>
            rw [hen] at HEN
            have HST := Lib.hid (show stops (l.drop i') = true by rw [stops_at HD.out, hbl, hen]; rfl)
            clear hbl hen
            go_quiet ((first | (go_at_call 22; exact HM.out _) | (go_at_call 23; exact HBL.out _) | (go_at_call 24; exact HEN.out _)))
            have HS7 := Lib.hid (HS5.out.below (drewN_below w6 nq))
            generalize World.drewN w6 _ = w7 at *
            have r0 := HS7.out.res.cell 0
            have r1 := HS7.out.res.cell 1
            have r2 := HS7.out.res.cell 2
            have s0 := HS7.out.wrd.cell 0
            have s1 := HS7.out.wrd.cell 1
            have s2 := HS7.out.wrd.cell 2
            have g0 := HS7.out.res.frozen 0
            have g1 := HS7.out.res.frozen 1
            have g2 := HS7.out.res.frozen 2
            simp at r0 r1 r2 s0 s1 s2
            go_wp2_with fail
            have hT := HS7.out.told
            refine bodyPost_ret (results_word (t := 2) (by kernel_rfl) rfl hT.1) rfl ?_
            refine ⟨x, _, i', e', a', rfl, hT.2.1, hT.2.2.1, hT.2.2.2, hi5, ?_⟩
            rw [HE.out]
            unfold endR
            obtain ⟨y, h1, rfl⟩ := HR6.out
            rw [h1]
            dsimp only
            rw [if_pos HST.out]
            exact ⟨rfl, rfl, HE0.out⟩
          | false =>
            rw [hen] at HEN
            have HST := Lib.hid (show stops (l.drop i') = false by rw [stops_at HD.out, hbl, hen]; rfl)
            clear hbl hen
            go_quiet ((first | (go_at_call 22; exact HM.out _) | (go_at_call 23; exact HBL.out _) | (go_at_call 24; exact HEN.out _)))
            have HS6 := Lib.hid (HS5.out.below (drewN_below w6 nq))
            generalize World.drewN w6 _ = w7 at *
            clear k0 k1 HM HBL HEN
            obtain ⟨_, k1, _, _, _⟩ := HS6.out.obj.cells
            have HF : Hid (Calls Try.prog 40 #[.pointer (some ⟨b, 0, none⟩), .int .i64 (i' : Nat), .int .i64 4] w7 fun r w' => r = .returned (.tuple #[]) ∧ Failed w7 b l i' e' a' cv i' 4 w') := Lib.hid (Rfail_is HS6.out.obj i' 4)
            go_wp2_with fail
            refine HF.out.mono ?_
            rintro r w8 ⟨rfl, hp8, ho8⟩
            have HS7 := Lib.hid (HS6.out.fail hp8 ho8)
            clear hp8 ho8 k1
            have r0 := HS7.out.res.cell 0
            have r1 := HS7.out.res.cell 1
            have r2 := HS7.out.res.cell 2
            have s0 := HS7.out.wrd.cell 0
            have s1 := HS7.out.wrd.cell 1
            have s2 := HS7.out.wrd.cell 2
            have g0 := HS7.out.res.frozen 0
            have g1 := HS7.out.res.frozen 1
            have g2 := HS7.out.res.frozen 2
            simp at r0 r1 r2 s0 s1 s2
            go_wp2_with fail
            have hT := HS7.out.told
            refine bodyPost_ret (results_word (t := 2) (by kernel_rfl) rfl hT.1) rfl ?_
            refine ⟨x, _, i', _, _, rfl, hT.2.1, hT.2.2.1, hT.2.2.2, hi5, ?_⟩
            rw [HE.out]
            unfold endR
            obtain ⟨y, h1, rfl⟩ := HR6.out
            rw [h1]
            dsimp only
            rw [if_neg (by rw [HST.out]; simp), if_pos HE0.out, if_pos HE0.out]
            exact ⟨rfl, rfl, by omega⟩
      · rw [decide_eq_false hm] at HM
        have HM2 := Lib.hid hm
        clear hm
        go_quiet ((go_at_call 22; exact HM.out _))
        have HS7 := Lib.hid (HS5.out.below (drewN_below w6 nq))
        generalize World.drewN w6 _ = w7 at *
        have r0 := HS7.out.res.cell 0
        have r1 := HS7.out.res.cell 1
        have r2 := HS7.out.res.cell 2
        have s0 := HS7.out.wrd.cell 0
        have s1 := HS7.out.wrd.cell 1
        have s2 := HS7.out.wrd.cell 2
        have g0 := HS7.out.res.frozen 0
        have g1 := HS7.out.res.frozen 1
        have g2 := HS7.out.res.frozen 2
        simp at r0 r1 r2 s0 s1 s2
        go_wp2_with fail
        have hT := HS7.out.told
        refine bodyPost_ret (results_word (t := 2) (by kernel_rfl) rfl hT.1) rfl ?_
        refine ⟨x, _, i', e', a', rfl, hT.2.1, hT.2.2.1, hT.2.2.2, hi5, ?_⟩
        rw [HE.out]
        unfold endR
        have h1 := HR5.out
        cases hres : quotR l st with
        | ok q =>
          obtain ⟨y, j⟩ := q
          rw [hres] at h1
          obtain ⟨rfl, rfl, rfl⟩ := h1
          have hi2 : l.length ≤ i' := by have := HM2.out; omega
          dsimp only
          rw [if_pos (stops_out hi2)]
          exact ⟨rfl, rfl, rfl⟩
        | error q =>
          obtain ⟨p, cc⟩ := q
          rw [hres] at h1
          exact h1
    · have q2 : ((c : Int) != 34) = true := by simp; omega
      have HE := Lib.hid (word_bare HC.out h123 h34)
      clear h34 h123
      go_quiet (fail)
      have HP2 := Lib.hid (HP1.out.below (drewN_below w1 nq))
      have HB2 : Hid (Below w.heap.size w (w1.drewN nq) ∧ (w1.drewN nq).heap.size = w.heap.size + 1 ∧ Blk (w1.drewN nq) w.heap.size 44 #[.int .i64 0, .int .i64 0, .slice none 0 0]) := Lib.hid ⟨HB1.out.1.trans ((drewN_below w1 nq).mono HB1.out.1.size), HB1.out.2.1, HB1.out.2.2⟩
      clear k0 k1 HP1 HB1 HP
      generalize World.drewN w1 _ = w2 at *
      have HQ := Lib.hid (Rbare_is HP2.out HL.out hn hst)
      go_wp2_with fail
      refine HQ.out.mono ?_
      intro r w5 hq
      obtain ⟨x, v, i', e', a', rfl, hp5, ho5, hpr5, hi5, hR5⟩ := hq
      obtain ⟨A5, c5, rfl, _⟩ := hpr5.form
      have HR5 := Lib.hid hR5
      have HP5 := Lib.hid (And.intro hp5 (And.intro ho5 hpr5))
      have hres := HB2.out.2.2.only ho5 (by omega)
      have HRES := Lib.hid hres
      have t0 := hres.cell 0
      have t1 := hres.cell 1
      have t2 := hres.cell 2
      have u0 := hres.frozen 0
      have u1 := hres.frozen 1
      have u2 := hres.frozen 2
      simp at t0 t1 t2
      clear hp5 ho5 hpr5 hR5 hres HQ
      go_wp2_with fail
      have hO : OnlyP b w w5 := (Only.of_below HB2.out.1 (Nat.le_refl _) _).trans HP5.out.2.1 (fun _ _ h => h)
      have hT := PObj.told HP5.out.1 hO hold w.heap.size (Nat.le_refl _) (.int .i64 x.at_) (.int .i64 x.kind) (.slice A5 x.parts.length c5)
      refine bodyPost_ret (results_word (t := 2) (by kernel_rfl) rfl HRES.out.set3) rfl ?_
      refine ⟨x, _, i', e', a', rfl, hT.1, hT.2, ?_, hi5, by rw [HE.out]; exact HR5.out⟩
      have hs2 := HB2.out.2.1
      refine SlI.fit prt_ok (SlI.still prt_ok HP5.out.2.2 ⟨by simp [World.setCell], fun q hq hl => ?_⟩) (fun q hq _ => by omega)
      have hne : q ≠ w.heap.size := by omega
      rw [Below.heap_setCell _ _ _ _ hne, Below.heap_setCell _ _ _ _ hne, Below.heap_setCell _ _ _ _ hne]
end Go.Proofs.Ytphmhglebeapaaa
