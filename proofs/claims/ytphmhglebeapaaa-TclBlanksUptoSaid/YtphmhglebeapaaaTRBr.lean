/-
  The document's braced word.
  Conditions: a text of at most 281474976710656 bytes, at a brace.
-/
import Derived.Test.YtphmhglebeapaaaTRPar
import Derived.Laws.DeepStrings4
import Derived.Handy
namespace Go.Proofs.Ytphmhglebeapaaa
open Go.RowKit

theorem str_mid (l : List Nat) (a b : Nat) : (str l).extract a b = str ((l.take b).drop a) := by
  apply ba_ext
  rw [ByteArray.data_extract, Array.toList_extract]
  unfold str
  rw [strOfNums_data, strOfNums_data]
  simp [List.map_drop, List.map_take]
  rw [List.drop_take]
theorem run_mid_str (l : List Nat) {a b : Nat} (hab : a ≤ b) (hb : b ≤ l.length) (W : World) : (Instr.slice 9 (.string (str l)) (some (.int .i64 (a : Nat))) (some (.int .i64 (b : Nat))) none).run Try.prog W = .ok (.string (str ((l.take b).drop a))) W := by
  have := str_len l
  rw [run_slice_string_if W 9 (str l) .i64 .i64 (a : Nat) (b : Nat) Try.underlying9, if_pos ⟨by omega, by omega⟩, if_pos ⟨by omega, by omega⟩, Int.toNat_natCast, Int.toNat_natCast, str_mid]

/-! ### Steps of a braced word -/
theorem dropc {l : List Nat} {i c : Nat} (h : l[i]? = some c) : l.drop i = c :: l.drop (i + 1) := by
  have hlt := (List.getElem?_eq_some_iff.1 h).1
  rw [List.drop_eq_getElem_cons hlt, (List.getElem?_eq_some_iff.1 h).2]
theorem br_out {l : List Nat} {i : Nat} (h : l.length ≤ i) (st d : Nat) : braceS st (l.drop i) i d = .error (st, 5) := by
  rw [List.drop_of_length_le h, braceS]
theorem br_back {l : List Nat} {i : Nat} (h : l[i]? = some 92) (st d : Nat) : braceS st (l.drop i) i d = braceS st (l.drop (i + 2)) (i + 2) d := by
  rw [dropc h, braceS, if_pos rfl]
  by_cases hr : l.drop (i + 1) = []
  · rw [if_pos hr, br_out (by have := List.drop_eq_nil_iff.1 hr; omega)]
  · rw [if_neg hr, List.drop_drop]
theorem br_deep {l : List Nat} {i : Nat} (h : l[i]? = some 123) (st : Nat) {d : Nat} (hd : 64 < d + 1) : braceS st (l.drop i) i d = .error (i, 7) := by
  rw [dropc h, braceS, if_neg (by omega), if_pos rfl, if_pos hd]
theorem br_open {l : List Nat} {i : Nat} (h : l[i]? = some 123) (st : Nat) {d : Nat} (hd : ¬ 64 < d + 1) : braceS st (l.drop i) i d = braceS st (l.drop (i + 1)) (i + 1) (d + 1) := by
  rw [dropc h, braceS, if_neg (by omega), if_pos rfl, if_neg hd]
theorem br_end {l : List Nat} {i : Nat} (h : l[i]? = some 125) (st : Nat) : braceS st (l.drop i) i 1 = .ok (i + 1) := by
  rw [dropc h, braceS, if_neg (by omega), if_neg (by omega), if_pos rfl, if_pos rfl]
theorem br_shut {l : List Nat} {i : Nat} (h : l[i]? = some 125) (st : Nat) {d : Nat} (hd : d ≠ 1) : braceS st (l.drop i) i d = braceS st (l.drop (i + 1)) (i + 1) (d - 1) := by
  rw [dropc h, braceS, if_neg (by omega), if_neg (by omega), if_pos rfl, if_neg hd]
theorem br_other {l : List Nat} {i c : Nat} (h : l[i]? = some c) (h1 : c ≠ 92) (h2 : c ≠ 123) (h3 : c ≠ 125) (st d : Nat) : braceS st (l.drop i) i d = braceS st (l.drop (i + 1)) (i + 1) d := by
  rw [dropc h, braceS, if_neg h1, if_neg h2, if_neg h3]

/-- A word's text between its braces. -/
def brParts (l : List Nat) (st j : Nat) : List Prt := if (l.drop (st + 1)).take (j - st - 2) = [] then [] else [⟨false, (l.drop (st + 1)).take (j - st - 2)⟩]
/-- What braced tells and leaves. -/
def BraceTo (w : World) (b st : Nat) (l : List Nat) (cv : Value) (r : Ending) (w' : World) : Prop :=
  ∃ i' e' a' v ps, r = .returned (.agg #[.int .i64 (st : Nat), .int .i64 2, v]) ∧ PObj w' b l i' e' a' cv ∧ OnlyP b w w' ∧ Prts (fun q => w.heap.size ≤ q) w' v ps ∧ i' ≤ l.length + 1 ∧
    match braceS st (l.drop st) st 0 with
    | .ok j => i' = j ∧ e' = 0 ∧ ps = brParts l st j
    | .error (p, c) => a' = p ∧ e' = c ∧ e' ≠ 0

theorem str_some {t : List Nat} (h : t ≠ []) : (str t).toList.isEmpty = false := by
  rw [ByteArray.toList_eq, List.isEmpty_eq_false_iff]
  unfold str
  rw [strOfNums_data]
  simpa using h
/-- The parser's place. -/
def pPlace (b : Nat) (W : World) : Nat := match W.cell? ⟨b, 1, none⟩ with | some (.int _ z) => z.toNat | _ => 0
theorem PObj.pl {W : World} {b i e a : Nat} {l : List Nat} {cv : Value} (h : PObj W b l i e a cv) : pPlace b W = i := by
  unfold pPlace
  rw [h.cells.2.1]
  simp
/-- The word in its block while it is read; the block of what is told. -/
structure BrSt (w W : World) (b : Nat) (l : List Nat) (i e a : Nat) (cv : Value) (st : Nat) : Prop where
  obj : PObj W b l i e a cv
  only : OnlyP b w W
  old : b < w.heap.size
  res : Blk W w.heap.size 44 #[.int .i64 0, .int .i64 0, .slice none 0 0]
  wrd : Blk W (w.heap.size + 1) 44 #[.int .i64 (st : Nat), .int .i64 2, .slice none 0 0]
section
variable {w W W' : World} {b i e a st : Nat} {l : List Nat} {cv : Value}
theorem BrSt.below (h : BrSt w W b l i e a cv st) (hb : Below W.heap.size W W') : BrSt w W' b l i e a cv st :=
  ⟨h.obj.below hb, h.only.below hb, h.old, h.res.below hb h.res.lt, h.wrd.below hb h.wrd.lt⟩
theorem BrSt.at_ (h : BrSt w W b l i e a cv st) (j : Nat) : BrSt w (W.setCell ⟨b, 1, none⟩ (.int .i64 (j : Nat))) b l j e a cv st :=
  ⟨h.obj.at_ j, h.only.set_ 1 _, h.old, h.res.far (by have := h.old; show w.heap.size ≠ b; omega) _, h.wrd.far (by have := h.old; show w.heap.size + 1 ≠ b; omega) _⟩
theorem BrSt.fail {a' e' i' : Nat} (h : BrSt w W b l i e a cv st) (hp : PObj W' b l i' e' a' cv) (ho : OnlyP b W W') : BrSt w W' b l i' e' a' cv st :=
  ⟨hp, h.only.then ho, h.old, h.res.only ho (by have := h.old; omega), h.wrd.only ho (by have := h.old; omega)⟩
/-- A word that is told out of its block. -/
theorem results_word {fn : Func} {t : Tmp} (hres : fn.results = #[.cell t 44]) {tmps : Array Value} {W : World} {q : Nat} {x y z : Value} (ht : tmps.getD t undef = .pointer (some ⟨q, 0, none⟩)) (h : Blk W q 44 #[x, y, z]) :
    (results fn tmps).run Try.prog W = .ok (.agg #[x, y, z]) W := by
  have k0 := h.cell 0
  have k1 := h.cell 1
  have k2 := h.cell 2
  simp at k0 k1 k2
  clear h
  simp [results, hres]
  rw [← Array.getD_eq_getD_getElem?, ht]
  go_simp
theorem Blk.set3 {W : World} {q : Nat} {T : TypeId} {x y z x' y' z' : Value} (h : Blk W q T #[x, y, z]) : Blk (((W.setCell ⟨q, 0, none⟩ x').setCell ⟨q, 1, none⟩ y').setCell ⟨q, 2, none⟩ z') q T #[x', y', z'] :=
  ((h.set_ 0 x').set_ 1 y').set_ 2 z'
/-- What is told is stored in its own block. -/
theorem PObj.told {w W : World} {b i e a : Nat} {l : List Nat} {cv : Value} (h : PObj W b l i e a cv) (ho : OnlyP b w W) (hb : b < w.heap.size) (q : Nat) (hq : w.heap.size ≤ q) (x y z : Value) :
    PObj (((W.setCell ⟨q, 0, none⟩ x).setCell ⟨q, 1, none⟩ y).setCell ⟨q, 2, none⟩ z) b l i e a cv ∧ OnlyP b w (((W.setCell ⟨q, 0, none⟩ x).setCell ⟨q, 1, none⟩ y).setCell ⟨q, 2, none⟩ z) := by
  have hne : b ≠ q := by omega
  exact ⟨Blk.far (Blk.far (Blk.far h (p := ⟨q, 0, none⟩) hne _) (p := ⟨q, 1, none⟩) hne _) (p := ⟨q, 2, none⟩) hne _, ((ho.setCell (p := ⟨q, 0, none⟩) (.inr hq) _).setCell (p := ⟨q, 1, none⟩) (.inr hq) _).setCell (p := ⟨q, 2, none⟩) (.inr hq) _⟩
end

set_option maxRecDepth 100000 in
set_option maxHeartbeats 4000000 in
theorem Rbraced_is {w : World} {b st a : Nat} {l : List Nat} {cv : Value} (h : PObj w b l st 0 a cv) (hl : ∀ c ∈ l, c < 256) (hn : l.length ≤ 281474976710656) (h0 : l[st]? = some 123) :
    Calls Try.prog 38 #[.pointer (some ⟨b, 0, none⟩)] w (BraceTo w b st l cv) := by
  have hsz := str_len l
  have HL := Lib.hid hl
  have HP := Lib.hid h
  have H0 := Lib.hid h0
  have hst := (List.getElem?_eq_some_iff.1 h0).1
  have c1 : ∀ o, (w.alloc o).cell? ⟨b, 1, none⟩ = some (.int .i64 (st : Nat)) := fun o => (h.below ((Below.refl _ w).alloc (Nat.le_refl _) o)).cells.2.1
  clear h hl h0
  go_enter Try.func38, Try.ntmps38
  go_wp2_with fail
  clear c1
  go_loopw [4] (fun dv wr => ∃ d i e a : Nat, dv = .int .i64 d ∧ i ≤ l.length + 1 ∧ d ≤ 65 ∧ Hid (BrSt w wr b l i e a cv st) ∧ Hid (((i = st ∧ d = 0) ∨ (st < i ∧ 1 ≤ d)) ∧ (e = 0 → d ≤ 64) ∧ (e = 0 → braceS st (l.drop st) st 0 = braceS st (l.drop i) i d) ∧ (e ≠ 0 → braceS st (l.drop st) st 0 = .error (a, e)))) (fun dv wr => l.length + 2 - pPlace b wr)
  case atStart =>
    have hb1 : Below w.heap.size w (w.alloc (.cells #[.int .i64 0, .int .i64 0, .slice none 0 0] 44)) := (Below.refl _ w).alloc (Nat.le_refl _) _
    refine ⟨0, st, 0, a, rfl, by omega, by omega, Lib.hid ⟨?_, ?_, Blk.lt HP.out, ?_, ?_⟩, Lib.hid ⟨.inl ⟨rfl, rfl⟩, fun _ => by omega, fun _ => rfl, fun h => absurd rfl h⟩⟩
    · exact (HP.out.below hb1).below ((Below.refl _ _).alloc (Nat.le_refl _) _)
    · exact Only.of_below (hb1.trans (((Below.refl _ _).alloc (Nat.le_refl _) _).mono hb1.size)) (Nat.le_refl _) _
    · exact (Blk.new w _ _).alloc _
    · have := Blk.new (w.alloc (.cells #[.int .i64 0, .int .i64 0, .slice none 0 0] 44)) 44 #[.int .i64 (st : Nat), .int .i64 2, .slice none 0 0]
      simpa using this
  case round =>
    obtain ⟨d, i, e, a2, rfl, hi, hd, HS, HR⟩ := hrel
    have HM := Lib.hid (Rmore_is HS.out.obj)
    have HPL := Lib.hid HS.out.obj.pl
    by_cases hm : e = 0 ∧ i < l.length
    · obtain ⟨rfl, hlt⟩ := hm
      have HR1 := Lib.hid HR.out.1
      have hd64 := HR.out.2.1 rfl
      have HB := Lib.hid (HR.out.2.2.1 rfl)
      clear HR
      rw [decide_eq_true ⟨rfl, hlt⟩] at HM
      go_wp2_with fail
      refine HM.out.mono ?_
      rintro r w1 ⟨rfl, hb1, hh⟩
      have HS1 := Lib.hid (HS.out.below hb1)
      obtain ⟨k0, k1, _, _, _⟩ := HS1.out.obj.cells
      obtain ⟨c, hc⟩ : ∃ c, l[i]? = some c := ⟨_, List.getElem?_eq_getElem hlt⟩
      obtain ⟨hks, hx⟩ := str_at HL.out hc
      have HC := Lib.hid hc
      clear hc hb1 hh HM HS
      go_wp2_with fail
      go_quiet (fail)
      have HS2 := Lib.hid (HS1.out.below (drewN_below w1 nq))
      generalize w1.drewN nq = w2 at *
      clear k0 k1 HS1
      obtain ⟨m0, m1, _, _, _⟩ := HS2.out.obj.cells
      have f1 := HS2.out.obj.fz 1
      have e1 : ((i + 1 : Nat) : Int) = (i : Int) + 1 := by omega
      have e2 : ((i + 2 : Nat) : Int) = (i : Int) + 2 := by omega
      have HA1 : Hid (BrSt w (w2.setCell ⟨b, 1, none⟩ (.int .i64 ((i : Int) + 1))) b l (i + 1) 0 a2 cv st) := Lib.hid (by rw [← e1]; exact HS2.out.at_ (i + 1))
      have HA2 : Hid (BrSt w (w2.setCell ⟨b, 1, none⟩ (.int .i64 ((i : Int) + 2))) b l (i + 2) 0 a2 cv st) := Lib.hid (by rw [← e2]; exact HS2.out.at_ (i + 2))
      by_cases h92 : c = 92
      · have q1 : ((c : Int) == 92) = true := beq_iff_eq.2 (by omega)
        have HN := Lib.hid (br_back (by rw [HC.out, h92]) st d)
        have hd1 : 1 ≤ d := by
          rcases HR1.out with ⟨h1, _⟩ | h1
          · have := HC.out; rw [h1, H0.out] at this; injection this with this; omega
          · exact h1.2
        clear h92 e1 e2
        go_wp2_with fail
        go_roundw
        case rel => exact ⟨d, i + 2, 0, a2, rfl, by omega, by omega, HA2, Lib.hid ⟨.inr ⟨by rcases HR1.out with h1 | h1 <;> omega, hd1⟩, fun _ => hd64, fun _ => HB.out.trans HN.out, fun h => absurd rfl h⟩⟩
        case measure => rw [HPL.out, HA2.out.obj.pl]; omega
      · have q1 : ((c : Int) == 92) = false := beq_eq_false_iff_ne.2 (by omega)
        by_cases h123 : c = 123
        · have q2 : ((c : Int) == 123) = true := beq_iff_eq.2 (by omega)
          have q3 : ((c : Int) == 125) = false := beq_eq_false_iff_ne.2 (by omega)
          have q4 : ((d : Int) + 1 == 0) = false := beq_eq_false_iff_ne.2 (by omega)
          by_cases hdp : 64 < d + 1
          · have q5 : decide ((64 : Int) < (d : Int) + 1) = true := decide_eq_true (by omega)
            have HN := Lib.hid (br_deep (by rw [HC.out, h123]) st hdp)
            have HF : Hid (Calls Try.prog 40 #[.pointer (some ⟨b, 0, none⟩), .int .i64 (i : Nat), .int .i64 7] w2 fun r w' => r = .returned (.tuple #[]) ∧ PObj w' b l i 7 i cv ∧ OnlyP b w2 w') := Lib.hid (Rfail_is HS2.out.obj i 7)
            clear h92 h123 e2 hdp
            go_wp2_with fail
            refine HF.out.mono ?_
            rintro r w3 ⟨rfl, hp3, ho3⟩
            have HS3 := Lib.hid (HS2.out.fail hp3 ho3)
            have HA3 : Hid (BrSt w (w3.setCell ⟨b, 1, none⟩ (.int .i64 ((i : Int) + 1))) b l (i + 1) 7 i cv st) := Lib.hid (by rw [← e1]; exact HS3.out.at_ (i + 1))
            have n1 := HS3.out.obj.cells.2.1
            have g1 := HS3.out.obj.fz 1
            clear hp3 ho3 e1
            go_wp2_with fail
            go_roundw
            case rel => exact ⟨d + 1, i + 1, 7, i, by go_num, by omega, by omega, HA3, Lib.hid ⟨.inr ⟨by rcases HR1.out with h1 | h1 <;> omega, by omega⟩, fun h => by omega, fun h => by omega, fun _ => HB.out.trans HN.out⟩⟩
            case measure => rw [HPL.out, HA3.out.obj.pl]; omega
          · have q5 : decide ((64 : Int) < (d : Int) + 1) = false := decide_eq_false (by omega)
            have HN := Lib.hid (br_open (by rw [HC.out, h123]) st hdp)
            have hd65 : d + 1 ≤ 64 := by omega
            clear h92 h123 e1 e2 hdp
            go_wp2_with fail
            go_roundw
            case rel => exact ⟨d + 1, i + 1, 0, a2, by go_num, by omega, by omega, HA1, Lib.hid ⟨.inr ⟨by rcases HR1.out with h1 | h1 <;> omega, by omega⟩, fun _ => hd65, fun _ => HB.out.trans HN.out, fun h => absurd rfl h⟩⟩
            case measure => rw [HPL.out, HA1.out.obj.pl]; omega
        · have q2 : ((c : Int) == 123) = false := beq_eq_false_iff_ne.2 (by omega)
          have hd1 : st < i ∧ 1 ≤ d := by
            rcases HR1.out with ⟨h1, _⟩ | h1
            · have := HC.out; rw [h1, H0.out] at this; injection this with this; omega
            · exact h1
          by_cases h125 : c = 125
          · have q3 : ((c : Int) == 125) = true := beq_iff_eq.2 (by omega)
            by_cases hd1' : d = 1
            · subst hd1'
              have HN := Lib.hid (HB.out.trans (br_end (by rw [HC.out, h125]) st))
              have hrun := fun W => run_mid_str l (a := st + 1) (b := i) (by omega) (by omega) W
              have e5 : ((st + 1 : Nat) : Int) = (st : Int) + 1 := by omega
              rw [e5] at hrun
              have HT : Hid ((l.take i).drop (st + 1) = (l.drop (st + 1)).take (i + 1 - st - 2)) := Lib.hid (by rw [List.drop_take, show i - (st + 1) = i + 1 - st - 2 by omega])
              generalize (l.take i).drop (st + 1) = t at *
              generalize hw3 : w2.setCell ⟨b, 1, none⟩ (.int .i64 ((i : Int) + 1)) = w3 at *
              obtain ⟨n0, n1, _, _, _⟩ := HA1.out.obj.cells
              have nw : w3.cell? ⟨w.heap.size + 1, 0, none⟩ = some (.int .i64 (st : Nat)) := by rw [HA1.out.wrd.cell]; rfl
              rw [e1] at n1
              clear h92 h123 h125 e1 e2 e5
              go_wp2_with fail
              go_quiet (fail)
              have HS4 := Lib.hid (HA1.out.below (drewN_below w3 nq))
              generalize w3.drewN nq = w4 at *
              clear n0 n1 nw HA1 HA2 HS2
              by_cases ht : t = []
              · subst ht
                have r0 := HS4.out.res.cell 0
                have r1 := HS4.out.res.cell 1
                have r2 := HS4.out.res.cell 2
                have s0 := HS4.out.wrd.cell 0
                have s1 := HS4.out.wrd.cell 1
                have s2 := HS4.out.wrd.cell 2
                have g0 := HS4.out.res.frozen 0
                have g1 := HS4.out.res.frozen 1
                have g2 := HS4.out.res.frozen 2
                simp at r0 r1 r2 s0 s1 s2
                rw [str_nil]
                go_wp2_with fail
                refine bodyPost_ret (results_word (t := 2) (by kernel_rfl) rfl HS4.out.res.set3) rfl ?_
                have hT := PObj.told HS4.out.obj HS4.out.only HS4.out.old w.heap.size (Nat.le_refl _) (.int .i64 (st : Nat)) (.int .i64 2) (.slice none 0 0)
                refine ⟨i + 1, 0, a2, _, [], rfl, hT.1, hT.2, SlI.nil none 0, by omega, ?_⟩
                rw [HN.out]
                exact ⟨rfl, rfl, by unfold brParts; rw [← HT.out]; rfl⟩
              · have hte : (str t).toList.isEmpty = false := str_some ht
                have p2 := HS4.out.wrd.cell 2
                have pf := HS4.out.wrd.frozen 2
                have pa : ∀ o, (w4.alloc o).cell? ⟨w.heap.size + 1, 2, none⟩ = some (.slice none 0 0) ∧ (w4.alloc o).frozen? ⟨w.heap.size + 1, 2, none⟩ = false := fun o => ⟨(HS4.out.wrd.alloc o).cell 2, (HS4.out.wrd.alloc o).frozen 2⟩
                have pa1 := fun o => (pa o).1
                have pa2 := fun o => (pa o).2
                simp at p2
                have HTN := Lib.hid ht
                clear ht pa
                go_upto_region 18 with (fail)
                have hb5 : Below w4.heap.size w4 (w4.alloc (.cells #[.bool false, .string (str t)] 47)) := (Below.refl _ w4).alloc (Nat.le_refl _) _
                have HS5 := HS4.out.below hb5
                have HPB := Blk.new w4 47 #[.bool false, .string (str t)]
                have hsz4 : w.heap.size + 1 < w4.heap.size := HS4.out.wrd.lt
                have HW6 := Lib.hid (HS5.wrd.set_ 2 (.slice (some ⟨w4.heap.size, 0, none⟩) 1 1))
                have HR6 := Lib.hid (HS5.res.far (p := ⟨w.heap.size + 1, 2, none⟩) (show w.heap.size ≠ w.heap.size + 1 by omega) (.slice (some ⟨w4.heap.size, 0, none⟩) 1 1))
                have HP6 := Lib.hid (HPB.far (p := ⟨w.heap.size + 1, 2, none⟩) (show w4.heap.size ≠ w.heap.size + 1 by omega) (.slice (some ⟨w4.heap.size, 0, none⟩) 1 1))
                have HO6 : Hid (PObj _ b l (i + 1) 0 a2 cv) := Lib.hid (Blk.far HS5.obj (p := ⟨w.heap.size + 1, 2, none⟩) (by have := HS5.old; show b ≠ w.heap.size + 1; omega) (.slice (some ⟨w4.heap.size, 0, none⟩) 1 1))
                have HY6 : Hid (OnlyP b w _) := Lib.hid (HS5.only.setCell (p := ⟨w.heap.size + 1, 2, none⟩) (.inr (by show w.heap.size ≤ w.heap.size + 1; omega)) (.slice (some ⟨w4.heap.size, 0, none⟩) 1 1))
                have hold := HS4.out.old
                clear hb5 HS5 HPB HS4 pa1 pa2 pf
                generalize World.setCell (w4.alloc _) _ _ = W6 at *
                have r0 := HR6.out.cell 0
                have r1 := HR6.out.cell 1
                have r2 := HR6.out.cell 2
                have s0 := HW6.out.cell 0
                have s1 := HW6.out.cell 1
                have s2 := HW6.out.cell 2
                have g0 := HR6.out.frozen 0
                have g1 := HR6.out.frozen 1
                have g2 := HR6.out.frozen 2
                simp at r0 r1 r2 s0 s1 s2
                go_wp2_with fail
                refine bodyPost_ret (results_word (t := 2) (by kernel_rfl) rfl HR6.out.set3) rfl ?_
                have hT := PObj.told HO6.out HY6.out hold w.heap.size (Nat.le_refl _) (.int .i64 (st : Nat)) (.int .i64 2) (.slice (some ⟨w4.heap.size, 0, none⟩) 1 1)
                have hPf := ((HP6.out.far (p := ⟨w.heap.size, 0, none⟩) (show w4.heap.size ≠ w.heap.size by omega) (.int .i64 (st : Nat))).far (p := ⟨w.heap.size, 1, none⟩) (show w4.heap.size ≠ w.heap.size by omega) (.int .i64 2)).far (p := ⟨w.heap.size, 2, none⟩) (show w4.heap.size ≠ w.heap.size by omega) (.slice (some ⟨w4.heap.size, 0, none⟩) 1 1)
                refine ⟨i + 1, 0, a2, _, [⟨false, t⟩], rfl, hT.1, hT.2, ⟨_, 1, rfl, by simp, fun _ => ⟨w4.heap.size, 0, rfl, by omega, fun j x hj => ?_⟩⟩, by omega, ?_⟩
                · cases j with
                  | succ j => simp at hj
                  | zero =>
                    simp at hj
                    subst hj
                    exact ⟨hPf.cell 0, hPf.cell 1⟩
                · rw [HN.out]
                  exact ⟨rfl, rfl, by unfold brParts; rw [← HT.out, if_neg HTN.out]⟩
            · have q4 : ((d : Int) - 1 == 0) = false := beq_eq_false_iff_ne.2 (by omega)
              have e4 : ((d - 1 : Nat) : Int) = (d : Int) - 1 := by omega
              have HN := Lib.hid (br_shut (by rw [HC.out, h125]) st hd1')
              have HD4 := Lib.hid e4
              clear h92 h123 h125 e1 e2 e4
              go_wp2_with fail
              go_roundw
              case rel => exact ⟨d - 1, i + 1, 0, a2, by rw [HD4.out], by omega, by omega, HA1, Lib.hid ⟨.inr ⟨by omega, by omega⟩, fun _ => by omega, fun _ => HB.out.trans HN.out, fun h => absurd rfl h⟩⟩
              case measure => rw [HPL.out, HA1.out.obj.pl]; omega
          · have q3 : ((c : Int) == 125) = false := beq_eq_false_iff_ne.2 (by omega)
            have q4 : ((d : Int) == 0) = false := beq_eq_false_iff_ne.2 (by omega)
            have HN := Lib.hid (br_other HC.out h92 h123 h125 st d)
            clear h92 h123 h125 e1 e2
            go_wp2_with fail
            go_roundw
            case rel => exact ⟨d, i + 1, 0, a2, rfl, by omega, by omega, HA1, Lib.hid ⟨.inr ⟨by omega, by omega⟩, fun _ => hd64, fun _ => HB.out.trans HN.out, fun h => absurd rfl h⟩⟩
            case measure => rw [HPL.out, HA1.out.obj.pl]; omega
    · rw [decide_eq_false hm] at HM
      go_wp2_with fail
      refine HM.out.mono ?_
      rintro r w1 ⟨rfl, hb1, hh⟩
      have HS1 := Lib.hid (HS.out.below hb1)
      have HM2 := Lib.hid hm
      clear hm hb1 hh HM HS
      have s0 := HS1.out.wrd.cell 0
      simp at s0
      have HF : Hid (Calls Try.prog 40 #[.pointer (some ⟨b, 0, none⟩), .int .i64 (st : Nat), .int .i64 5] w1 fun r w' => r = .returned (.tuple #[]) ∧ Failed w1 b l i e a2 cv st 5 w') := Lib.hid (Rfail_is HS1.out.obj st 5)
      go_wp2_with fail
      refine HF.out.mono ?_
      rintro r w3 ⟨rfl, hp3, ho3⟩
      have HS3 := Lib.hid (HS1.out.fail hp3 ho3)
      clear hp3 ho3 s0
      have r0 := HS3.out.res.cell 0
      have r1 := HS3.out.res.cell 1
      have r2 := HS3.out.res.cell 2
      have s0 := HS3.out.wrd.cell 0
      have s1 := HS3.out.wrd.cell 1
      have s2 := HS3.out.wrd.cell 2
      have g0 := HS3.out.res.frozen 0
      have g1 := HS3.out.res.frozen 1
      have g2 := HS3.out.res.frozen 2
      simp at r0 r1 r2 s0 s1 s2
      go_wp2_with fail
      refine bodyPost_ret (results_word (t := 2) (by kernel_rfl) rfl HS3.out.res.set3) rfl ?_
      have hT := PObj.told HS3.out.obj HS3.out.only HS3.out.old w.heap.size (Nat.le_refl _) (.int .i64 (st : Nat)) (.int .i64 2) (.slice none 0 0)
      refine ⟨i, _, _, _, [], rfl, hT.1, hT.2, SlI.nil none 0, by omega, ?_⟩
      by_cases he : e = 0
      · have hi2 : l.length ≤ i := by have := HM2.out; omega
        rw [HR.out.2.2.1 he, br_out hi2, if_pos he, if_pos he]
        exact ⟨rfl, rfl, by omega⟩
      · rw [HR.out.2.2.2 he, if_neg he, if_neg he]
        exact ⟨rfl, rfl, he⟩
end Go.Proofs.Ytphmhglebeapaaa
