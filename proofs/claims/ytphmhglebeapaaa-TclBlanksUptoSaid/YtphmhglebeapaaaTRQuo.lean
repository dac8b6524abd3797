/-
  The document's quoted word.
  Conditions: a text of at most 16777216 bytes, at a quote.
-/
import Derived.Test.YtphmhglebeapaaaTROne
namespace Go.Proofs.Ytphmhglebeapaaa
open Go.RowKit

/-- A word that is being read: its block, the block of what is told, its parts. -/
structure WdSt (w w0 W : World) (b : Nat) (l : List Nat) (i e a : Nat) (cv : Value) (st k : Nat) (g : Option Nat) (v : Value) (ps : List Prt) : Prop where
  obj : PObj W b l i e a cv
  only : OnlyP b w W
  old : b < w.heap.size
  base : w0.heap.size = w.heap.size + 2
  size : w0.heap.size ≤ W.heap.size
  res : Blk W w.heap.size 44 #[.int .i64 0, .int .i64 0, .slice none 0 0]
  wrd : Blk W (w.heap.size + 1) 44 #[.int .i64 (st : Nat), .int .i64 (k : Nat), v]
  row : PRow w0 W g v ps
section
variable {w w0 W W' : World} {b i e a st k : Nat} {l : List Nat} {cv v : Value} {g : Option Nat} {ps : List Prt}
theorem WdSt.below (h : WdSt w w0 W b l i e a cv st k g v ps) (hb : Below W.heap.size W W') : WdSt w w0 W' b l i e a cv st k g v ps :=
  ⟨h.obj.below hb, h.only.below hb, h.old, h.base, Nat.le_trans h.size hb.size, h.res.below hb h.res.lt, h.wrd.below hb h.wrd.lt, URow.below noSub_ok h.row hb⟩
theorem WdSt.at_ (h : WdSt w w0 W b l i e a cv st k g v ps) (j : Nat) : WdSt w w0 (W.setCell ⟨b, 1, none⟩ (.int .i64 (j : Nat))) b l j e a cv st k g v ps :=
  ⟨h.obj.at_ j, h.only.set_ 1 _, h.old, h.base, by simp [World.setCell]; exact h.size, h.res.far (by have := h.old; show w.heap.size ≠ b; omega) _, h.wrd.far (by have := h.old; show w.heap.size + 1 ≠ b; omega) _,
    PRow.only h.row (OnlyP.set_ (Only.refl _ W) 1 _) (by have := h.old; have := h.base; omega)⟩
theorem WdSt.fail {a' e' : Nat} (h : WdSt w w0 W b l i e a cv st k g v ps) (hp : PObj W' b l i e' a' cv) (ho : OnlyP b W W') : WdSt w w0 W' b l i e' a' cv st k g v ps :=
  ⟨hp, h.only.then ho, h.old, h.base, Nat.le_trans h.size ho.size, h.res.only ho (by have := h.old; omega), h.wrd.only ho (by have := h.old; omega), PRow.only h.row ho (by have := h.old; have := h.base; omega)⟩
/-- What is told of it. -/
theorem WdSt.prts (h : WdSt w w0 W b l i e a cv st k g v ps) : Prts (fun q => w0.heap.size ≤ q) W v ps := h.row.prts
/-- What one did of it. -/
theorem WdSt.one {op : Nat} {r : Ending} (h : WdSt w w0 W b l i 0 a cv st k g v ps) (ho : OneTo w0 W b l i op cv g ps r W') :
    ∃ A c g' ps' i' e' a', r = .returned (.slice A (List.length ps') c) ∧ W'.cell? ⟨w.heap.size + 1, 2, none⟩ = some v ∧ W'.frozen? ⟨w.heap.size + 1, 2, none⟩ = false ∧ WdSt w w0 (W'.setCell ⟨w.heap.size + 1, 2, none⟩ (.slice A (List.length ps') c)) b l i' e' a' cv st k g' (.slice A (List.length ps') c) ps' ∧
      match oneS (l.drop i) i op ps with
      | .ok (qs, k) => ps' = qs ∧ i' = i + k ∧ e' = 0
      | .error (p, c) => ps' = ps ∧ e' = c ∧ a' = p ∧ e' ≠ 0 ∧ i' = i := by
  obtain ⟨A, c, g', ps', i', e', a', h1, h2, h3, h4, h5⟩ := ho
  have hold := h.old
  have hbase := h.base
  have hn : ∀ q, q < w0.heap.size → ¬ (g = some q) := fun q hq e => by have := h.row.own e; omega
  have hW : Blk W' (w.heap.size + 1) 44 #[.int .i64 (st : Nat), .int .i64 (k : Nat), v] := h.wrd.only h4 (by rintro (e | e); omega; exact hn _ (by omega) e)
  have hR : Blk W' w.heap.size 44 #[.int .i64 0, .int .i64 0, .slice none 0 0] := h.res.only h4 (by rintro (e | e); omega; exact hn _ (by omega) e)
  have hO : Only (fun q => q = b) w W' := h.only.trans h4 (fun q hq hs => by
    rcases hs with e | e
    · exact e
    · exact absurd e (hn q (by omega)))
  refine ⟨A, c, g', ps', i', e', a', h1, hW.cell 2, hW.frozen 2, ⟨?_, ?_, hold, hbase, ?_, ?_, hW.set_ 2 _, ?_⟩, h5⟩
  · exact Blk.far h3 (p := ⟨w.heap.size + 1, 2, none⟩) (by show b ≠ w.heap.size + 1; omega) _
  · exact hO.setCell (p := ⟨w.heap.size + 1, 2, none⟩) (.inr (by show w.heap.size ≤ w.heap.size + 1; omega)) _
  · simp [World.setCell]; exact Nat.le_trans h.size h4.size
  · exact hR.far (p := ⟨w.heap.size + 1, 2, none⟩) (by show w.heap.size ≠ w.heap.size + 1; omega) _
  · refine URow.still noSub_ok h2 ⟨by simp [World.setCell], fun q hq hl => Below.heap_setCell _ _ _ _ (by show q ≠ w.heap.size + 1; omega)⟩
/-- The end: the word is told out of its block. -/
theorem WdSt.told (h : WdSt w w0 W b l i e a cv st k g v ps) :
    let W3 := ((W.setCell ⟨w.heap.size, 0, none⟩ (.int .i64 (st : Nat))).setCell ⟨w.heap.size, 1, none⟩ (.int .i64 (k : Nat))).setCell ⟨w.heap.size, 2, none⟩ v
    Blk W3 w.heap.size 44 #[.int .i64 (st : Nat), .int .i64 (k : Nat), v] ∧ PObj W3 b l i e a cv ∧ OnlyP b w W3 ∧ Prts (fun q => w.heap.size ≤ q) W3 v ps := by
  have hold := h.old
  have hbase := h.base
  refine ⟨h.res.set3, (PObj.told h.obj h.only h.old w.heap.size (Nat.le_refl _) _ _ _).1, (PObj.told h.obj h.only h.old w.heap.size (Nat.le_refl _) _ _ _).2, ?_⟩
  refine SlI.fit prt_ok (SlI.still prt_ok h.prts ⟨by simp [World.setCell], fun q hq hl => ?_⟩) (fun q hq _ => by omega)
  have hne : q ≠ w.heap.size := by omega
  rw [Below.heap_setCell _ _ _ _ hne, Below.heap_setCell _ _ _ _ hne, Below.heap_setCell _ _ _ _ hne]
end

/-- A new word, and the block of what is told. -/
theorem wd_new {w : World} {b st a : Nat} {l : List Nat} {cv : Value} (h : PObj w b l st 0 a cv) (k : Nat) :
    WdSt w ((w.alloc (.cells #[.int .i64 0, .int .i64 0, .slice none 0 0] 44)).alloc (.cells #[.int .i64 (st : Nat), .int .i64 (k : Nat), .slice none 0 0] 44)) ((w.alloc (.cells #[.int .i64 0, .int .i64 0, .slice none 0 0] 44)).alloc (.cells #[.int .i64 (st : Nat), .int .i64 (k : Nat), .slice none 0 0] 44)) b l st 0 a cv st k none (.slice none 0 0) [] := by
  have hb1 : Below w.heap.size w (w.alloc (.cells #[.int .i64 0, .int .i64 0, .slice none 0 0] 44)) := (Below.refl _ w).alloc (Nat.le_refl _) _
  refine ⟨?_, ?_, Blk.lt h, by simp, Nat.le_refl _, ?_, ?_, URow.nil⟩
  · exact (h.below hb1).below ((Below.refl _ _).alloc (Nat.le_refl _) _)
  · exact Only.of_below (hb1.trans (((Below.refl _ _).alloc (Nat.le_refl _) _).mono hb1.size)) (Nat.le_refl _) _
  · exact (Blk.new w _ _).alloc _
  · have := Blk.new (w.alloc (.cells #[.int .i64 0, .int .i64 0, .slice none 0 0] 44)) 44 #[.int .i64 (st : Nat), .int .i64 (k : Nat), .slice none 0 0]
    simpa using this
/-- How much is left to do. -/
def pMeas (b L : Nat) (W : World) : Nat := match W.cell? ⟨b, 2, none⟩ with | some (.int _ z) => if z = 0 then L + 3 - pPlace b W else 0 | _ => 0
theorem PObj.ms {W : World} {b i e a L : Nat} {l : List Nat} {cv : Value} (h : PObj W b l i e a cv) : pMeas b L W = if e = 0 then L + 3 - i else 0 := by
  unfold pMeas
  rw [h.pl, h.cells.2.2.1]
  dsimp only
  by_cases he : e = 0 <;> simp [he]
/-! ### Steps of a quoted word -/
theorem quo_out {l : List Nat} {i : Nat} (h : l.length ≤ i) (st : Nat) (ps : List Prt) : quotS st (l.drop i) i ps = .error (st, 5) := by
  rw [List.drop_of_length_le h, quotS]
theorem quo_end {l : List Nat} {i : Nat} (h : l[i]? = some 34) (st : Nat) (ps : List Prt) : quotS st (l.drop i) i ps = .ok (ps, i + 1) := by
  rw [dropc h, quotS, if_pos rfl]
theorem quo_bad {l : List Nat} {i c : Nat} (h : l[i]? = some c) (h1 : c ≠ 34) {st : Nat} {ps : List Prt} {e : Nat × Nat} (ho : oneS (l.drop i) i st ps = .error e) : quotS st (l.drop i) i ps = .error e := by
  rw [dropc h] at ho ⊢
  rw [quotS, if_neg h1, ho]
theorem quo_step {l : List Nat} {i c : Nat} (h : l[i]? = some c) (h1 : c ≠ 34) {st k : Nat} {ps qs : List Prt} (ho : oneS (l.drop i) i st ps = .ok (qs, k)) : quotS st (l.drop i) i ps = quotS st (l.drop (i + k)) (i + k) qs := by
  have hk := oneS_pos ho (by rw [dropc h]; simp)
  rw [dropc h] at ho ⊢
  rw [quotS, if_neg h1, ho]
  dsimp only
  rw [List.drop_drop, show i + 1 + (k - 1) = i + k by omega]

abbrev ResTo (res : Except (Nat × Nat) (Wrd × Nat)) (x : Wrd) (i' e' a' : Nat) : Prop :=
  match res with
  | .ok (y, j) => x = y ∧ i' = j ∧ e' = 0
  | .error (p, c) => a' = p ∧ e' = c ∧ e' ≠ 0
/-- What a word's reader tells and leaves. -/
def WordTo (w : World) (b : Nat) (l : List Nat) (cv : Value) (res : Except (Nat × Nat) (Wrd × Nat)) (r : Ending) (w' : World) : Prop :=
  ∃ (x : Wrd) (v : Value) (i' e' a' : Nat), r = .returned (.agg #[.int .i64 x.at_, .int .i64 x.kind, v]) ∧ PObj w' b l i' e' a' cv ∧ OnlyP b w w' ∧ Prts (fun q => w.heap.size ≤ q) w' v x.parts ∧ i' ≤ l.length + 1 ∧ ResTo res x i' e' a'
/-- A quoted word, as a result. -/
def quotR (l : List Nat) (st : Nat) : Except (Nat × Nat) (Wrd × Nat) :=
  match quotS st (l.drop (st + 1)) (st + 1) [] with
  | .ok (ps, j) => .ok (⟨st, 1, ps⟩, j)
  | .error e => .error e

set_option maxRecDepth 100000 in
set_option maxHeartbeats 4000000 in
theorem Rquoted_is {w : World} {b st a : Nat} {l : List Nat} {cv : Value} (h : PObj w b l st 0 a cv) (hl : ∀ c ∈ l, c < 256) (hn : l.length ≤ 16777216) (hst : st < l.length) :
    Calls Try.prog 39 #[.pointer (some ⟨b, 0, none⟩)] w (WordTo w b l cv (quotR l st)) := by
  have hsz := str_len l
  have HL := Lib.hid hl
  have HP := Lib.hid h
  have c1 : ∀ o, (w.alloc o).cell? ⟨b, 1, none⟩ = some (.int .i64 (st : Nat)) := fun o => (h.below ((Below.refl _ w).alloc (Nat.le_refl _) o)).cells.2.1
  have c2 : ∀ o o', ((w.alloc o).alloc o').cell? ⟨b, 1, none⟩ = some (.int .i64 (st : Nat)) ∧ ((w.alloc o).alloc o').frozen? ⟨b, 1, none⟩ = false := fun o o' => by
    have h1 := (h.below ((Below.refl _ w).alloc (Nat.le_refl _) o)).below ((Below.refl _ _).alloc (Nat.le_refl _) o')
    exact ⟨h1.cells.2.1, h1.fz 1⟩
  have c3 := fun o o' => (c2 o o').1
  have c4 := fun o o' => (c2 o o').2
  clear h hl c2
  go_enter Try.func39, Try.ntmps39
  go_upto_region 2 with (fail)
  have HS0 : Hid (WdSt w ((w.alloc (.cells #[.int .i64 0, .int .i64 0, .slice none 0 0] 44)).alloc (.cells #[.int .i64 (st : Nat), .int .i64 1, .slice none 0 0] 44)) ((w.alloc (.cells #[.int .i64 0, .int .i64 0, .slice none 0 0] 44)).alloc (.cells #[.int .i64 (st : Nat), .int .i64 1, .slice none 0 0] 44)) b l st 0 a cv st 1 none (.slice none 0 0) []) := Lib.hid (wd_new HP.out 1)
  clear c1 c3 c4
  generalize World.alloc (World.alloc w _) _ = w0 at *
  obtain ⟨_, m1, _, _, _⟩ := HS0.out.obj.cells
  have f1 := HS0.out.obj.fz 1
  have e1 : ((st + 1 : Nat) : Int) = (st : Int) + 1 := by omega
  have HS1 : Hid (WdSt w w0 (w0.setCell ⟨b, 1, none⟩ (.int .i64 ((st : Int) + 1))) b l (st + 1) 0 a cv st 1 none (.slice none 0 0) []) := Lib.hid (by rw [← e1]; exact HS0.out.at_ (st + 1))
  clear e1
  go_wp2_with fail
  clear m1 f1
  go_loopw [] (fun wr => ∃ (i e a' : Nat) (g : Option Nat) (A : Option Addr) (c0 : Nat) (ps : List Prt), i ≤ l.length ∧ Hid (WdSt w w0 wr b l i e a' cv st 1 g (.slice A ps.length c0) ps) ∧ Hid ((e = 0 → quotS st (l.drop (st + 1)) (st + 1) [] = quotS st (l.drop i) i ps ∧ pfit ps i) ∧ (e ≠ 0 → quotS st (l.drop (st + 1)) (st + 1) [] = .error (a', e)))) (fun wr => pMeas b l.length wr)
  case atStart => exact ⟨st + 1, 0, a, none, none, 0, [], by omega, HS1, Lib.hid ⟨fun _ => ⟨rfl, pfit.nil _⟩, fun h => absurd rfl h⟩⟩
  case round =>
    obtain ⟨i, e, a2, g, A, c0, ps, hi, HS, HR⟩ := hrel
    have HM := Lib.hid (Rmore_is HS.out.obj)
    have HPL := Lib.hid (HS.out.obj.ms (L := l.length))
    by_cases hm : e = 0 ∧ i < l.length
    · obtain ⟨rfl, hlt⟩ := hm
      rw [decide_eq_true ⟨rfl, hlt⟩] at HM
      have HB := Lib.hid (HR.out.1 rfl)
      clear HR
      go_wp2_with fail
      refine HM.out.mono ?_
      rintro r w1 ⟨rfl, hb1, hh⟩
      have HSA := Lib.hid (HS.out.below hb1)
      obtain ⟨k0, k1, _, _, _⟩ := HSA.out.obj.cells
      obtain ⟨c, hc⟩ : ∃ c, l[i]? = some c := ⟨_, List.getElem?_eq_getElem hlt⟩
      obtain ⟨hks, hx⟩ := str_at HL.out hc
      have HC := Lib.hid hc
      clear hc hb1 hh HM HS
      go_wp2_with fail
      go_quiet (fail)
      have HS2 := Lib.hid (HSA.out.below (drewN_below w1 nq))
      generalize w1.drewN nq = w2 at *
      clear k0 k1 HSA
      by_cases h34 : c = 34
      · have q1 : ((c : Int) == 34) = true := beq_iff_eq.2 (by omega)
        have HN := Lib.hid (HB.out.1.trans (quo_end (by rw [HC.out, h34]) st ps))
        obtain ⟨_, m1, _, _, _⟩ := HS2.out.obj.cells
        have f1 := HS2.out.obj.fz 1
        have e1 : ((i + 1 : Nat) : Int) = (i : Int) + 1 := by omega
        have HS3 := Lib.hid (HS2.out.at_ (i + 1))
        rw [e1] at HS3
        clear h34 e1 HS2
        go_upto_region 6 with (fail)
        generalize World.setCell w2 _ _ = w3 at *
        clear m1 f1
        have r0 := HS3.out.res.cell 0
        have r1 := HS3.out.res.cell 1
        have r2 := HS3.out.res.cell 2
        have s0 := HS3.out.wrd.cell 0
        have s1 := HS3.out.wrd.cell 1
        have s2 := HS3.out.wrd.cell 2
        have g0 := HS3.out.res.frozen 0
        have g1 := HS3.out.res.frozen 1
        have g2 := HS3.out.res.frozen 2
        simp at r0 r1 r2 s0 s1 s2
        go_wp2_with fail
        have hT := HS3.out.told
        refine bodyPost_ret (results_word (t := 2) (by kernel_rfl) rfl hT.1) rfl ?_
        refine ⟨⟨st, 1, ps⟩, _, i + 1, 0, a2, rfl, hT.2.1, hT.2.2.1, hT.2.2.2, by omega, ?_⟩
        unfold quotR
        rw [HN.out]
        exact ⟨rfl, rfl, rfl⟩
      · have q1 : ((c : Int) == 34) = false := beq_eq_false_iff_ne.2 (by omega)
        have HO := Lib.hid (Rone_is (op := st) HS2.out.obj HS2.out.row (by have := HS2.out.old; have := HS2.out.base; omega) HS2.out.size HL.out hn hlt (HB.out.2.mono (by omega)))
        have s0 := HS2.out.wrd.cell 0
        have s2 := HS2.out.wrd.cell 2
        simp at s0 s2
        have HNE := Lib.hid h34
        clear h34
        go_wp2_with fail
        refine HO.out.mono ?_
        intro r w3 ho
        obtain ⟨A5, c5, g5, ps5, i5, e5, a5, rfl, hc2, hf2, hS5, hm5⟩ := HS2.out.one ho
        have HS5 := Lib.hid hS5
        have HM5 := Lib.hid hm5
        clear ho hS5 hm5 HO s0 s2
        go_wp2_with fail
        cases hone : oneS (l.drop i) i st ps with
        | ok q =>
          obtain ⟨qs, k⟩ := q
          have HM6 := HM5.out
          rw [hone] at HM6
          obtain ⟨rfl, rfl, rfl⟩ := HM6
          have hk := oneS_pos hone (by rw [dropc HC.out]; simp)
          rw [List.length_drop] at hk
          go_roundw
          case rel => exact ⟨i + k, 0, a5, g5, A5, c5, ps5, by omega, HS5, Lib.hid ⟨fun _ => ⟨HB.out.1.trans (quo_step HC.out HNE.out hone), oneS_fit hone HB.out.2⟩, fun h => absurd rfl h⟩⟩
          case measure => rw [HPL.out, HS5.out.obj.ms, if_pos rfl, if_pos trivial]; omega
        | error q =>
          obtain ⟨p, cc⟩ := q
          have HM6 := HM5.out
          rw [hone] at HM6
          obtain ⟨rfl, rfl, rfl, hne, rfl⟩ := HM6
          go_roundw
          case rel => exact ⟨i5, e5, a5, g5, A5, c5, ps5, by omega, HS5, Lib.hid ⟨fun h => absurd h hne, fun _ => HB.out.1.trans (quo_bad HC.out HNE.out hone)⟩⟩
          case measure => rw [HPL.out, HS5.out.obj.ms, if_neg hne, if_pos trivial]; omega
    · rw [decide_eq_false hm] at HM
      go_wp2_with fail
      refine HM.out.mono ?_
      rintro r w1 ⟨rfl, hb1, hh⟩
      have HS1 := Lib.hid (HS.out.below hb1)
      have HM2 := Lib.hid hm
      clear hm hb1 hh HM HS HPL
      have s0 := HS1.out.wrd.cell 0
      simp at s0
      have HF : Hid (Calls Try.prog 40 #[.pointer (some ⟨b, 0, none⟩), .int .i64 (st : Nat), .int .i64 5] w1 fun r w' => r = .returned (.tuple #[]) ∧ Failed w1 b l i e a2 cv st 5 w') := Lib.hid (Rfail_is HS1.out.obj st 5)
      go_wp2_with fail
      refine HF.out.mono ?_
      rintro r w3 ⟨rfl, hp3, ho3⟩
      have HS3 := Lib.hid (HS1.out.fail hp3 ho3)
      clear hp3 ho3 s0
      have r0 := HS3.out.res.cell 0
      have r1 := HS3.out.res.cell 1
      have r2 := HS3.out.res.cell 2
      have s0 := HS3.out.wrd.cell 0
      have s1 := HS3.out.wrd.cell 1
      have s2 := HS3.out.wrd.cell 2
      have g0 := HS3.out.res.frozen 0
      have g1 := HS3.out.res.frozen 1
      have g2 := HS3.out.res.frozen 2
      simp at r0 r1 r2 s0 s1 s2
      go_wp2_with fail
      have hT := HS3.out.told
      refine bodyPost_ret (results_word (t := 2) (by kernel_rfl) rfl hT.1) rfl ?_
      refine ⟨⟨st, 1, ps⟩, _, i, _, _, rfl, hT.2.1, hT.2.2.1, hT.2.2.2, by omega, ?_⟩
      unfold quotR
      by_cases he : e = 0
      · have hi2 : l.length ≤ i := by have := HM2.out; omega
        rw [(HR.out.1 he).1, quo_out hi2, if_pos he, if_pos he]
        exact ⟨rfl, rfl, by omega⟩
      · rw [HR.out.2 he, if_neg he, if_neg he]
        exact ⟨rfl, rfl, he⟩
end Go.Proofs.Ytphmhglebeapaaa
