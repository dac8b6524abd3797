/-
  tcl's inBraces, inQuotes and word: their contracts.
  Conditions: a text of at most 16777216 bytes.
-/
import Derived.Test.YtphmhglebeapaaaTwTold
import Derived.Test.YtphmhglebeapaaaTclLs
namespace Go.Proofs.Ytphmhglebeapaaa
open Go.RowKit

/-- A braced word's parts, and the place behind it. -/
def inBrR (l : List Nat) (st : Nat) : Except (Nat × Nat) (List Prt × Nat) :=
  match braceS st (l.drop st) st 0 with
  | .ok j => .ok (brParts l st j, j)
  | .error e => .error e
theorem one_part {w : World} (W : World) (t : List Nat) (q : Nat) (hq : q = W.heap.size) (hb : w.heap.size ≤ q) : Prts (fun b => w.heap.size ≤ b) (W.alloc (.cells #[.bool false, .string (str t)] 47)) (.slice (some ⟨q, 0, none⟩) 1 1) [⟨false, t⟩] := by
  subst hq
  have hB := Blk.new W 47 #[.bool false, .string (str t)]
  refine ⟨_, 1, rfl, by simp, fun _ => ⟨W.heap.size, 0, rfl, hb, fun j x hj => ?_⟩⟩
  cases j with
  | succ j => simp at hj
  | zero =>
    simp at hj
    subst hj
    exact ⟨hB.cell 0, hB.cell 1⟩
set_option maxRecDepth 100000 in
set_option maxHeartbeats 4000000 in
theorem inBraces_is (l : List Nat) (hl : ∀ c ∈ l, c < 256) (hn : l.length ≤ 16777216) (st : Nat) (h0 : l[st]? = some 123) (w : World) :
    Calls Try.prog 51 #[.string (str l), .int .i64 (st : Nat)] w (PartsTo w (inBrR l st)) := by
  have hsz := str_len l
  have HC := Lib.hid (closing_is l hl (by omega) st h0 w)
  have hst := (List.getElem?_eq_some_iff.1 h0).1
  cases hb : braceS st (l.drop st) st 0 with
  | error e =>
    obtain ⟨p, c⟩ := e
    rw [hb] at HC
    have hE : Err _ (p, c) := brace_err (l.drop st).length st (l.drop st) (Nat.le_refl _) st 0 (p, c) (by omega) hb
    have hc4 : 4 ≤ c ∧ c ≤ 7 := ⟨hE.2.1, hE.2.2⟩
    have HR : Hid (inBrR l st = .error (p, c)) := Lib.hid (by unfold inBrR; rw [hb])
    have q1 : ((c : Int) != 0) = true := by simp; omega
    clear hl hb hE h0
    dsimp only [closeV] at HC
    go_enter Try.func51, Try.ntmps51
    go_wp2_with fail
    refine HC.out.mono ?_
    rintro e w1 ⟨rfl, rfl⟩
    go_wp2_with fail
    go_ret3
    exact ⟨Below.refl _ _, _, [], p, c, rfl, SlI.nil none 0, .inr ⟨HR.out, rfl, rfl, by omega⟩⟩
  | ok j =>
    rw [hb] at HC
    dsimp only [closeV] at HC
    have hj := braceS_le (l.drop st).length st (l.drop st) (Nat.le_refl _) st 0 j hb
    rw [List.length_drop] at hj
    have hj2 : st + 2 ≤ j := by
      rw [dropc h0, braceS, if_neg (by omega), if_pos rfl, if_neg (by omega)] at hb
      have := braceS_le _ _ _ (Nat.le_refl _) _ _ _ hb
      omega
    obtain ⟨m, rfl⟩ : ∃ m, j = m + 1 := ⟨j - 1, by omega⟩
    rw [Nat.add_sub_cancel] at HC
    have em : ((m + 1 : Nat) : Int) = (m : Int) + 1 := by omega
    have HR : Hid (inBrR l st = .ok (brParts l st (m + 1), m + 1)) := Lib.hid (by unfold inBrR; rw [hb])
    have hT : (l.take m).drop (st + 1) = (l.drop (st + 1)).take (m + 1 - st - 2) := by rw [List.drop_take, show m - (st + 1) = m + 1 - st - 2 by omega]
    unfold brParts at HR
    rw [← hT] at HR
    have htl : ((l.take m).drop (st + 1)).length = m - (st + 1) := by rw [List.length_drop, List.length_take]; omega
    by_cases hms : m = st + 1
    · have q1 : ((m : Int) == (st : Int) + 1) = true := beq_iff_eq.2 (by omega)
      rw [if_pos (List.length_eq_zero_iff.1 (by rw [htl]; omega))] at HR
      clear hl hb hT h0 htl hms em
      go_enter Try.func51, Try.ntmps51
      go_wp2_with fail
      refine HC.out.mono ?_
      rintro e w1 ⟨rfl, rfl⟩
      go_wp2_with fail
      go_ret3
      exact ⟨Below.refl _ _, _, [], m + 1, 0, rfl, SlI.nil none 0, .inl ⟨HR.out, rfl⟩⟩
    · have q1 : ((m : Int) == (st : Int) + 1) = false := beq_eq_false_iff_ne.2 (by omega)
      rw [if_neg (fun e => by rw [e] at htl; simp at htl; omega)] at HR
      have hrun := fun W => run_mid_str l (a := st + 1) (b := m) (by omega) (by omega) W
      have e1 : ((st + 1 : Nat) : Int) = (st : Int) + 1 := by omega
      rw [e1] at hrun
      have hbt : ∀ c ∈ (l.take m).drop (st + 1), c < 256 := fun c hc => hl c (List.mem_of_mem_take (List.mem_of_mem_drop hc))
      have HCL := Lib.hid fun W => strClone_is ((l.take m).drop (st + 1)) hbt (by rw [htl]; omega) W
      generalize (l.take m).drop (st + 1) = t at *
      clear hl hb hT h0 htl hms e1 hbt
      go_enter Try.func51, Try.ntmps51
      go_wp2_with fail
      refine HC.out.mono ?_
      rintro e w1 ⟨rfl, rfl⟩
      go_wp2_with fail
      refine (HCL.out _).mono ?_
      rintro e w1 ⟨rfl, hb1⟩
      have HB := Lib.hid hb1
      clear hb1
      go_wp2_with fail
      go_ret3
      refine ⟨HB.out.alloc HB.out.size _, _, [⟨false, t⟩], m + 1, 0, by rw [em]; rfl, one_part w1 t _ rfl HB.out.size, .inl ⟨HR.out, rfl⟩⟩

set_option maxRecDepth 100000 in
set_option maxHeartbeats 4000000 in
theorem inQuotes_is (l : List Nat) (hl : ∀ c ∈ l, c < 256) (hn : l.length ≤ 16777216) (st : Nat) (hst : st < l.length) (w : World) :
    Calls Try.prog 52 #[.string (str l), .int .i64 (st : Nat)] w (PartsTo w (quotS st (l.drop (st + 1)) (st + 1) [])) := by
  have hsz := str_len l
  have HC := Lib.hid (ttold_is l hl hn ⟨#[34]⟩ (fun c => decide (c = 34)) has_quote (st + 1) (by omega) w)
  have HQ := Lib.hid (quot_told (l.drop (st + 1)).length st (l.drop (st + 1)) (Nat.le_refl _) (st + 1) [])
  have hdl : st + 1 + (l.drop (st + 1)).length = l.length := by rw [List.length_drop]; omega
  rw [hdl] at HQ
  have hle := told_le (l.drop (st + 1)).length (fun c => decide (c = 34)) (l.drop (st + 1)) (Nat.le_refl _) (st + 1) []
  rw [hdl] at hle
  generalize toldS (fun c => decide (c = 34)) (l.drop (st + 1)) (st + 1) [] = res at *
  generalize quotS st (l.drop (st + 1)) (st + 1) [] = qes at *
  have HLE := Lib.hid hle
  clear hl hdl hle
  go_enter Try.func52, Try.ntmps52
  go_wp2_with fail
  refine HC.out.mono ?_
  rintro e w1 ⟨hb, v, ps, j, c, rfl, hP, hR⟩
  have HB := Lib.hid hb
  have HP := Lib.hid hP
  clear hb hP HC
  rcases hR with ⟨hR, rfl⟩ | ⟨hR, rfl, rfl, hc⟩
  · have HR := Lib.hid hR
    have hj := HLE.out _ _ hR
    clear hR
    by_cases he : j = l.length
    · have q1 : ((j : Int) == (l.length : Int)) = true := beq_iff_eq.2 (by omega)
      have HN : Hid (qes = .error (st, 5)) := Lib.hid (by rw [HQ.out, HR.out]; unfold quotE; dsimp only; rw [if_pos he])
      clear he
      go_wp2_with fail
      go_ret3
      exact ⟨HB.out, _, [], st, 5, rfl, SlI.nil none 0, .inr ⟨HN.out, rfl, rfl, by omega⟩⟩
    · have q1 : ((j : Int) == (l.length : Int)) = false := beq_eq_false_iff_ne.2 (by omega)
      have HN : Hid (qes = .ok (ps, j + 1)) := Lib.hid (by rw [HQ.out, HR.out]; unfold quotE; dsimp only; rw [if_neg he])
      clear he
      go_wp2_with fail
      go_ret3
      exact ⟨HB.out, _, ps, j + 1, 0, by go_num, HP.out, .inl ⟨HN.out, rfl⟩⟩
  · have HR := Lib.hid hR
    have q2 : ((c : Int) == 0) = false := beq_eq_false_iff_ne.2 (by omega)
    have q3 : ((c : Int) != 0) = true := by simp; omega
    clear hR
    by_cases h5 : c = 5
    · have q1 : ((c : Int) == 5) = true := beq_iff_eq.2 (by omega)
      have HN : Hid (qes = .error (st, 5)) := Lib.hid (by rw [HQ.out, HR.out]; unfold quotE; dsimp only; rw [if_pos h5])
      clear h5 hc
      go_wp2_with fail
      go_ret3
      exact ⟨HB.out, _, [], st, 5, rfl, SlI.nil none 0, .inr ⟨HN.out, rfl, rfl, by omega⟩⟩
    · have q1 : ((c : Int) == 5) = false := beq_eq_false_iff_ne.2 (by omega)
      have HN : Hid (qes = .error (j, c)) := Lib.hid (by rw [HQ.out, HR.out]; unfold quotE; dsimp only; rw [if_neg h5])
      have HCN := Lib.hid hc
      clear h5 hc
      go_wp2_with fail
      go_ret3
      exact ⟨HB.out, _, [], j, c, rfl, SlI.nil none 0, .inr ⟨HN.out, rfl, rfl, HCN.out⟩⟩

/-! ### A word -/
/-- Parts as a word. -/
def wordR (k : Int) (st : Nat) : Except (Nat × Nat) (List Prt × Nat) → Except (Nat × Nat) (Wrd × Nat)
  | .ok (ps, j) => .ok (⟨st, k, ps⟩, j)
  | .error e => .error e
theorem told_stops : ∀ (n : Nat) (l : List Nat), l.length ≤ n → ∀ (i : Nat) (ps ps' : List Prt) (j : Nat), toldS (fun c => blankB c || endB c) l i ps = .ok (ps', j) → stops (l.drop (j - i)) = true := by
  intro n
  induction n with
  | zero =>
    intro l hl i ps ps' j h
    obtain rfl : l = [] := List.length_eq_zero_iff.1 (by omega)
    rw [List.drop_nil]; rfl
  | succ n ih =>
    intro l hl i ps ps' j h
    cases l with
    | nil => rw [List.drop_nil]; rfl
    | cons c r =>
      simp only [List.length_cons] at hl
      rw [toldS] at h
      split at h
      · rename_i hk
        cases h
        rw [Nat.sub_self]; exact hk
      · cases ho : oneS (c :: r) i i ps with
        | error e => rw [ho] at h; cases h
        | ok q =>
          obtain ⟨qs, k⟩ := q
          rw [ho] at h
          dsimp only at h
          have hp := oneS_pos ho (by simp)
          simp only [List.length_cons] at hp
          have h1 := ih _ (by rw [List.length_drop]; omega) _ _ _ _ h
          have h2 := told_le _ _ _ (Nat.le_refl _) _ _ _ _ h
          rw [List.drop_drop] at h1
          rwa [show j - i = (k - 1 + (j - (i + k))) + 1 by omega, List.drop_succ_cons]
theorem as_brace {l : List Nat} {st : Nat} (h : l[st]? = some 123) : wordS (l.drop st) st = endR l (wordR 2 st (inBrR l st)) := by
  rw [word_brace h]
  unfold braceR inBrR wordR
  cases braceS st (l.drop st) st 0 <;> rfl
theorem as_quote {l : List Nat} {st : Nat} (h : l[st]? = some 34) : wordS (l.drop st) st = endR l (wordR 1 st (quotS st (l.drop (st + 1)) (st + 1) [])) := by
  rw [word_quote h]
  unfold quotR wordR
  cases quotS st (l.drop (st + 1)) (st + 1) [] <;> rfl
theorem as_bare {l : List Nat} {st c : Nat} (h : l[st]? = some c) (h1 : c ≠ 123) (h2 : c ≠ 34) : wordS (l.drop st) st = endR l (wordR 0 st (toldS (fun c => blankB c || endB c) (l.drop st) st [])) := by
  rw [word_bare h h1 h2]
  unfold bareR wordR endR
  rw [bare_told _ _ (Nat.le_refl _)]
  cases hr : toldS (fun c => blankB c || endB c) (l.drop st) st [] with
  | error e => rfl
  | ok q =>
    obtain ⟨ps, j⟩ := q
    have h3 := told_stops _ _ (Nat.le_refl _) _ _ _ _ hr
    have h4 := told_le _ _ _ (Nat.le_refl _) _ _ _ _ hr
    rw [List.drop_drop, show st + (j - st) = j by omega] at h3
    dsimp only
    rw [if_pos h3]
/-- What word tells. -/
def WrdTo (w : World) (res : Except (Nat × Nat) (Wrd × Nat)) (e : Ending) (w' : World) : Prop :=
  Below w.heap.size w w' ∧ ∃ (x : Wrd) (v : Value) (j c : Nat), e = .returned (.tuple #[.agg #[.int .i64 x.at_, .int .i64 x.kind, v], .int .i64 (j : Nat), .int .i64 (c : Nat)]) ∧ Prts (fun b => w.heap.size ≤ b) w' v x.parts ∧
    ((res = .ok (x, j) ∧ c = 0) ∨ (res = .error (j, c) ∧ c ≠ 0))
theorem results_w3 {fn : Func} {t a b : Tmp} (hres : fn.results = #[.cell t 44, .tmp a, .tmp b]) {tmps : Array Value} {W : World} {q : Nat} {x y z : Value} (ht : tmps.getD t undef = .pointer (some ⟨q, 0, none⟩)) (h : Blk W q 44 #[x, y, z]) :
    (results fn tmps).run Try.prog W = .ok (.tuple #[.agg #[x, y, z], tmps.getD a undef, tmps.getD b undef]) W := by
  have k0 := h.cell 0
  have k1 := h.cell 1
  have k2 := h.cell 2
  simp at k0 k1 k2
  clear h
  simp [results, hres]
  rw [← Array.getD_eq_getD_getElem?, ht]
  go_simp
/-- The block of what is told, and the word's own. -/
theorem two_blocks (w : World) (x y z : Value) :
    let w1 := (w.alloc (.cells #[.int .i64 0, .int .i64 0, .slice none 0 0] 44)).alloc (.cells #[x, y, z] 44)
    Below w.heap.size w w1 ∧ Blk w1 w.heap.size 44 #[.int .i64 0, .int .i64 0, .slice none 0 0] ∧ Blk w1 (w.heap.size + 1) 44 #[x, y, z] ∧ w1.heap.size = w.heap.size + 2 := by
  have h := Blk.new (w.alloc (.cells #[.int .i64 0, .int .i64 0, .slice none 0 0] 44)) 44 #[x, y, z]
  have hs : (w.alloc (.cells #[.int .i64 0, .int .i64 0, .slice none 0 0] 44)).heap.size = w.heap.size + 1 := by simp
  rw [hs] at h
  exact ⟨((Below.refl _ w).alloc (Nat.le_refl _) _).alloc (by simp) _, (Blk.new w _ _).alloc _, h, by simp⟩
set_option maxRecDepth 100000 in
set_option maxHeartbeats 8000000 in
theorem word_is (l : List Nat) (hl : ∀ c ∈ l, c < 256) (hn : l.length ≤ 16777216) (st : Nat) (hst : st < l.length) (w : World) :
    Calls Try.prog 36 #[.string (str l), .int .i64 (st : Nat)] w (WrdTo w (wordS (l.drop st) st)) := by
  have hsz := str_len l
  have HL := Lib.hid hl
  obtain ⟨c, hc⟩ : ∃ c, l[st]? = some c := ⟨_, List.getElem?_eq_getElem hst⟩
  obtain ⟨hks, hx⟩ := str_at hl hc
  have HC := Lib.hid hc
  have HIB := Lib.hid fun h0 => inBraces_is l hl hn st h0
  have HIQ := Lib.hid (inQuotes_is l hl hn st hst)
  have HIT := Lib.hid (ttold_is l hl hn ⟨#[9, 32, 10, 59]⟩ (fun c => blankB c || endB c) has_parting st (by omega))
  have HK := Lib.hid has_parting
  clear hl hc
  go_enter Try.func36, Try.ntmps36
  by_cases h123 : c = 123
  · have q1 : ((c : Int) == 123) = true := beq_iff_eq.2 (by omega)
    have HAS := Lib.hid (as_brace (l := l) (st := st) (by rw [HC.out, h123]))
    have HCT := Lib.hid (HIB.out (by rw [HC.out, h123]))
    clear h123
    go_wp2_with fail
    have h2 := two_blocks w (.int .i64 (st : Nat)) (.int .i64 2) (.slice none 0 0)
    dsimp only at h2
    generalize World.alloc (World.alloc w _) _ = w1 at *
    obtain ⟨hb1, hr1, hw1, hs1⟩ := h2
    refine (HCT.out _).mono ?_
    rintro e w2 ⟨hb2, v, ps, j, c2, rfl, hP, hR⟩
    obtain ⟨Av, cv, hv, -⟩ := hP.form
    have HRA := hr1.below hb2 hr1.lt
    have HWA := hw1.below hb2 hw1.lt
    have hB3 := (hb1.trans (hb2.mono hb1.size)).setCell (p := ⟨w.heap.size + 1, 2, none⟩) (show w.heap.size ≤ w.heap.size + 1 by omega) v
    have HPA := SlI.fit (T := fun b => w.heap.size + 2 ≤ b) prt_ok hP (fun b hb _ => by omega)
    have g0 := HWA.cell 2
    have g1 := HWA.frozen 2
    simp at g0
    have HPB := SlI.still prt_ok HPA (W' := w2.setCell ⟨w.heap.size + 1, 2, none⟩ v) ⟨by simp [World.setCell], fun b hb _ => Below.heap_setCell _ _ _ _ (by show b ≠ w.heap.size + 1; omega)⟩
    have HR3 := Lib.hid (HRA.far (p := ⟨w.heap.size + 1, 2, none⟩) (show w.heap.size ≠ w.heap.size + 1 by omega) v)
    have HW3 : Hid (Blk _ _ 44 #[.int .i64 (st : Nat), .int .i64 2, v]) := Lib.hid (HWA.set_ 2 v)
    have HB3 := Lib.hid hB3
    have HP3 := Lib.hid HPB
    have HRX := Lib.hid hR
    subst hv
    clear hb1 hr1 hw1 hs1 hb2 hP hB3 HPA HPB HRA HWA hR
    generalize hw3 : w2.setCell ⟨w.heap.size + 1, 2, none⟩ (.slice Av ps.length cv) = w3 at HR3 HW3 HB3 HP3
    rcases HRX.out with ⟨hR, rfl⟩ | ⟨hR, -, -, hc⟩
    · have HRR := Lib.hid hR
      clear hR
      have HPF := Lib.hid (SlI.fit (T := fun b => w.heap.size ≤ b) prt_ok (SlI.still prt_ok HP3.out (W' := ((w3.setCell ⟨w.heap.size, 0, none⟩ (.int .i64 (st : Nat))).setCell ⟨w.heap.size, 1, none⟩ (.int .i64 2)).setCell ⟨w.heap.size, 2, none⟩ (.slice Av ps.length cv)) ⟨by simp [World.setCell], fun b hb _ => by rw [Below.heap_setCell _ _ _ _ (by show b ≠ w.heap.size; omega), Below.heap_setCell _ _ _ _ (by show b ≠ w.heap.size; omega), Below.heap_setCell _ _ _ _ (by show b ≠ w.heap.size; omega)]⟩) (fun b hb _ => by omega))
      by_cases hj : j < l.length
      · have q5 : decide ((j : Int) < (l.length : Int)) = true := decide_eq_true (by omega)
        obtain ⟨d, hd⟩ : ∃ d, l[j]? = some d := ⟨_, List.getElem?_eq_getElem hj⟩
        obtain ⟨hkd, hxd⟩ := str_at HL.out hd
        have HD := Lib.hid hd
        have HH : Hid (∀ W, Calls Try.prog 34 #[.string ⟨#[9, 32, 10, 59]⟩, .int .u8 (d : Nat)] W fun e w' => e = .returned (.bool (blankB d || endB d)) ∧ W = w') := Lib.hid fun W => HK.out d (HL.out d (List.mem_of_getElem? hd)) W
        clear hd
        cases hbd : (blankB d || endB d) with
        | true =>
          rw [hbd] at HH
          have HE : Hid (wordS (l.drop st) st = .ok (⟨st, 2, ps⟩, j)) := Lib.hid (by rw [HAS.out, HRR.out]; unfold wordR endR; dsimp only; rw [stops_at HD.out, hbd, if_pos rfl])
          clear hbd
          go_wp2_with fail
          refine (HH.out _).mono ?_
          rintro e w4 ⟨rfl, rfl⟩
          have r0 := HR3.out.cell 0
          have r1 := HR3.out.cell 1
          have r2 := HR3.out.cell 2
          have s0 := HW3.out.cell 0
          have s1 := HW3.out.cell 1
          have s2 := HW3.out.cell 2
          have g0 := HR3.out.frozen 0
          have g1 := HR3.out.frozen 1
          have g2 := HR3.out.frozen 2
          simp at r0 r1 r2 s0 s1 s2
          go_wp2_with fail
          refine bodyPost_ret (results_w3 (t := 4) (a := 5) (b := 6) (by kernel_rfl) rfl HR3.out.set3) rfl ?_
          exact ⟨((HB3.out.setCell (p := ⟨w.heap.size, 0, none⟩) (Nat.le_refl _) _).setCell (p := ⟨w.heap.size, 1, none⟩) (Nat.le_refl _) _).setCell (p := ⟨w.heap.size, 2, none⟩) (Nat.le_refl _) _, ⟨st, 2, ps⟩, .slice Av ps.length cv, j, 0, rfl, HPF.out, .inl ⟨HE.out, rfl⟩⟩
        | false =>
          rw [hbd] at HH
          have HE : Hid (wordS (l.drop st) st = .error (j, 4)) := Lib.hid (by rw [HAS.out, HRR.out]; unfold wordR endR; dsimp only; rw [stops_at HD.out, hbd]; rfl)
          clear hbd
          go_wp2_with fail
          refine (HH.out _).mono ?_
          rintro e w4 ⟨rfl, rfl⟩
          have r0 := HR3.out.cell 0
          have r1 := HR3.out.cell 1
          have r2 := HR3.out.cell 2
          have s0 := HW3.out.cell 0
          have s1 := HW3.out.cell 1
          have s2 := HW3.out.cell 2
          have g0 := HR3.out.frozen 0
          have g1 := HR3.out.frozen 1
          have g2 := HR3.out.frozen 2
          simp at r0 r1 r2 s0 s1 s2
          go_wp2_with fail
          refine bodyPost_ret (results_w3 (t := 4) (a := 5) (b := 6) (by kernel_rfl) rfl HR3.out.set3) rfl ?_
          exact ⟨((HB3.out.setCell (p := ⟨w.heap.size, 0, none⟩) (Nat.le_refl _) _).setCell (p := ⟨w.heap.size, 1, none⟩) (Nat.le_refl _) _).setCell (p := ⟨w.heap.size, 2, none⟩) (Nat.le_refl _) _, ⟨0, 0, []⟩, .slice none 0 0, j, 4, rfl, SlI.nil none 0, .inr ⟨HE.out, by omega⟩⟩
      · have q5 : decide ((j : Int) < (l.length : Int)) = false := decide_eq_false (by omega)
        have HE : Hid (wordS (l.drop st) st = .ok (⟨st, 2, ps⟩, j)) := Lib.hid (by rw [HAS.out, HRR.out]; unfold wordR endR; dsimp only; rw [stops_out (by omega), if_pos rfl])
        have r0 := HR3.out.cell 0
        have r1 := HR3.out.cell 1
        have r2 := HR3.out.cell 2
        have s0 := HW3.out.cell 0
        have s1 := HW3.out.cell 1
        have s2 := HW3.out.cell 2
        have g0 := HR3.out.frozen 0
        have g1 := HR3.out.frozen 1
        have g2 := HR3.out.frozen 2
        simp at r0 r1 r2 s0 s1 s2
        go_wp2_with fail
        refine bodyPost_ret (results_w3 (t := 4) (a := 5) (b := 6) (by kernel_rfl) rfl HR3.out.set3) rfl ?_
        exact ⟨((HB3.out.setCell (p := ⟨w.heap.size, 0, none⟩) (Nat.le_refl _) _).setCell (p := ⟨w.heap.size, 1, none⟩) (Nat.le_refl _) _).setCell (p := ⟨w.heap.size, 2, none⟩) (Nat.le_refl _) _, ⟨st, 2, ps⟩, .slice Av ps.length cv, j, 0, rfl, HPF.out, .inl ⟨HE.out, rfl⟩⟩
    · have q5 : ((c2 : Int) == 0) = false := beq_eq_false_iff_ne.2 (by omega)
      have q6 : ((c2 : Int) != 0) = true := by simp; omega
      have HE : Hid (wordS (l.drop st) st = .error (j, c2)) := Lib.hid (by rw [HAS.out, hR]; rfl)
      have HC2 := Lib.hid hc
      clear hR hc
      have r0 := HR3.out.cell 0
      have r1 := HR3.out.cell 1
      have r2 := HR3.out.cell 2
      have s0 := HW3.out.cell 0
      have s1 := HW3.out.cell 1
      have s2 := HW3.out.cell 2
      have g0 := HR3.out.frozen 0
      have g1 := HR3.out.frozen 1
      have g2 := HR3.out.frozen 2
      simp at r0 r1 r2 s0 s1 s2
      go_wp2_with fail
      refine bodyPost_ret (results_w3 (t := 4) (a := 5) (b := 6) (by kernel_rfl) rfl HR3.out.set3) rfl ?_
      exact ⟨((HB3.out.setCell (p := ⟨w.heap.size, 0, none⟩) (Nat.le_refl _) _).setCell (p := ⟨w.heap.size, 1, none⟩) (Nat.le_refl _) _).setCell (p := ⟨w.heap.size, 2, none⟩) (Nat.le_refl _) _, ⟨0, 0, []⟩, .slice none 0 0, j, c2, rfl, SlI.nil none 0, .inr ⟨HE.out, HC2.out⟩⟩
  · have q1 : ((c : Int) == 123) = false := beq_eq_false_iff_ne.2 (by omega)
    by_cases h34 : c = 34
    · have q2 : ((c : Int) == 34) = true := beq_iff_eq.2 (by omega)
      have HAS := Lib.hid (as_quote (l := l) (st := st) (by rw [HC.out, h34]))
      have HCT := Lib.hid HIQ.out
      clear h123 h34
      go_wp2_with fail
      have h2 := two_blocks w (.int .i64 (st : Nat)) (.int .i64 1) (.slice none 0 0)
      dsimp only at h2
      generalize World.alloc (World.alloc w _) _ = w1 at *
      obtain ⟨hb1, hr1, hw1, hs1⟩ := h2
      refine (HCT.out _).mono ?_
      rintro e w2 ⟨hb2, v, ps, j, c2, rfl, hP, hR⟩
      obtain ⟨Av, cv, hv, -⟩ := hP.form
      have HRA := hr1.below hb2 hr1.lt
      have HWA := hw1.below hb2 hw1.lt
      have hB3 := (hb1.trans (hb2.mono hb1.size)).setCell (p := ⟨w.heap.size + 1, 2, none⟩) (show w.heap.size ≤ w.heap.size + 1 by omega) v
      have HPA := SlI.fit (T := fun b => w.heap.size + 2 ≤ b) prt_ok hP (fun b hb _ => by omega)
      have g0 := HWA.cell 2
      have g1 := HWA.frozen 2
      simp at g0
      have HPB := SlI.still prt_ok HPA (W' := w2.setCell ⟨w.heap.size + 1, 2, none⟩ v) ⟨by simp [World.setCell], fun b hb _ => Below.heap_setCell _ _ _ _ (by show b ≠ w.heap.size + 1; omega)⟩
      have HR3 := Lib.hid (HRA.far (p := ⟨w.heap.size + 1, 2, none⟩) (show w.heap.size ≠ w.heap.size + 1 by omega) v)
      have HW3 : Hid (Blk _ _ 44 #[.int .i64 (st : Nat), .int .i64 1, v]) := Lib.hid (HWA.set_ 2 v)
      have HB3 := Lib.hid hB3
      have HP3 := Lib.hid HPB
      have HRX := Lib.hid hR
      subst hv
      clear hb1 hr1 hw1 hs1 hb2 hP hB3 HPA HPB HRA HWA hR
      generalize hw3 : w2.setCell ⟨w.heap.size + 1, 2, none⟩ (.slice Av ps.length cv) = w3 at HR3 HW3 HB3 HP3
      rcases HRX.out with ⟨hR, rfl⟩ | ⟨hR, -, -, hc⟩
      · have HRR := Lib.hid hR
        clear hR
        have HPF := Lib.hid (SlI.fit (T := fun b => w.heap.size ≤ b) prt_ok (SlI.still prt_ok HP3.out (W' := ((w3.setCell ⟨w.heap.size, 0, none⟩ (.int .i64 (st : Nat))).setCell ⟨w.heap.size, 1, none⟩ (.int .i64 1)).setCell ⟨w.heap.size, 2, none⟩ (.slice Av ps.length cv)) ⟨by simp [World.setCell], fun b hb _ => by rw [Below.heap_setCell _ _ _ _ (by show b ≠ w.heap.size; omega), Below.heap_setCell _ _ _ _ (by show b ≠ w.heap.size; omega), Below.heap_setCell _ _ _ _ (by show b ≠ w.heap.size; omega)]⟩) (fun b hb _ => by omega))
        by_cases hj : j < l.length
        · have q5 : decide ((j : Int) < (l.length : Int)) = true := decide_eq_true (by omega)
          obtain ⟨d, hd⟩ : ∃ d, l[j]? = some d := ⟨_, List.getElem?_eq_getElem hj⟩
          obtain ⟨hkd, hxd⟩ := str_at HL.out hd
          have HD := Lib.hid hd
          have HH : Hid (∀ W, Calls Try.prog 34 #[.string ⟨#[9, 32, 10, 59]⟩, .int .u8 (d : Nat)] W fun e w' => e = .returned (.bool (blankB d || endB d)) ∧ W = w') := Lib.hid fun W => HK.out d (HL.out d (List.mem_of_getElem? hd)) W
          clear hd
          cases hbd : (blankB d || endB d) with
          | true =>
            rw [hbd] at HH
            have HE : Hid (wordS (l.drop st) st = .ok (⟨st, 1, ps⟩, j)) := Lib.hid (by rw [HAS.out, HRR.out]; unfold wordR endR; dsimp only; rw [stops_at HD.out, hbd, if_pos rfl])
            clear hbd
            go_wp2_with fail
            refine (HH.out _).mono ?_
            rintro e w4 ⟨rfl, rfl⟩
            have r0 := HR3.out.cell 0
            have r1 := HR3.out.cell 1
            have r2 := HR3.out.cell 2
            have s0 := HW3.out.cell 0
            have s1 := HW3.out.cell 1
            have s2 := HW3.out.cell 2
            have g0 := HR3.out.frozen 0
            have g1 := HR3.out.frozen 1
            have g2 := HR3.out.frozen 2
            simp at r0 r1 r2 s0 s1 s2
            go_wp2_with fail
            refine bodyPost_ret (results_w3 (t := 4) (a := 5) (b := 6) (by kernel_rfl) rfl HR3.out.set3) rfl ?_
            exact ⟨((HB3.out.setCell (p := ⟨w.heap.size, 0, none⟩) (Nat.le_refl _) _).setCell (p := ⟨w.heap.size, 1, none⟩) (Nat.le_refl _) _).setCell (p := ⟨w.heap.size, 2, none⟩) (Nat.le_refl _) _, ⟨st, 1, ps⟩, .slice Av ps.length cv, j, 0, rfl, HPF.out, .inl ⟨HE.out, rfl⟩⟩
          | false =>
            rw [hbd] at HH
            have HE : Hid (wordS (l.drop st) st = .error (j, 4)) := Lib.hid (by rw [HAS.out, HRR.out]; unfold wordR endR; dsimp only; rw [stops_at HD.out, hbd]; rfl)
            clear hbd
            go_wp2_with fail
            refine (HH.out _).mono ?_
            rintro e w4 ⟨rfl, rfl⟩
            have r0 := HR3.out.cell 0
            have r1 := HR3.out.cell 1
            have r2 := HR3.out.cell 2
            have s0 := HW3.out.cell 0
            have s1 := HW3.out.cell 1
            have s2 := HW3.out.cell 2
            have g0 := HR3.out.frozen 0
            have g1 := HR3.out.frozen 1
            have g2 := HR3.out.frozen 2
            simp at r0 r1 r2 s0 s1 s2
            go_wp2_with fail
            refine bodyPost_ret (results_w3 (t := 4) (a := 5) (b := 6) (by kernel_rfl) rfl HR3.out.set3) rfl ?_
            exact ⟨((HB3.out.setCell (p := ⟨w.heap.size, 0, none⟩) (Nat.le_refl _) _).setCell (p := ⟨w.heap.size, 1, none⟩) (Nat.le_refl _) _).setCell (p := ⟨w.heap.size, 2, none⟩) (Nat.le_refl _) _, ⟨0, 0, []⟩, .slice none 0 0, j, 4, rfl, SlI.nil none 0, .inr ⟨HE.out, by omega⟩⟩
        · have q5 : decide ((j : Int) < (l.length : Int)) = false := decide_eq_false (by omega)
          have HE : Hid (wordS (l.drop st) st = .ok (⟨st, 1, ps⟩, j)) := Lib.hid (by rw [HAS.out, HRR.out]; unfold wordR endR; dsimp only; rw [stops_out (by omega), if_pos rfl])
          have r0 := HR3.out.cell 0
          have r1 := HR3.out.cell 1
          have r2 := HR3.out.cell 2
          have s0 := HW3.out.cell 0
          have s1 := HW3.out.cell 1
          have s2 := HW3.out.cell 2
          have g0 := HR3.out.frozen 0
          have g1 := HR3.out.frozen 1
          have g2 := HR3.out.frozen 2
          simp at r0 r1 r2 s0 s1 s2
          go_wp2_with fail
          refine bodyPost_ret (results_w3 (t := 4) (a := 5) (b := 6) (by kernel_rfl) rfl HR3.out.set3) rfl ?_
          exact ⟨((HB3.out.setCell (p := ⟨w.heap.size, 0, none⟩) (Nat.le_refl _) _).setCell (p := ⟨w.heap.size, 1, none⟩) (Nat.le_refl _) _).setCell (p := ⟨w.heap.size, 2, none⟩) (Nat.le_refl _) _, ⟨st, 1, ps⟩, .slice Av ps.length cv, j, 0, rfl, HPF.out, .inl ⟨HE.out, rfl⟩⟩
      · have q5 : ((c2 : Int) == 0) = false := beq_eq_false_iff_ne.2 (by omega)
        have q6 : ((c2 : Int) != 0) = true := by simp; omega
        have HE : Hid (wordS (l.drop st) st = .error (j, c2)) := Lib.hid (by rw [HAS.out, hR]; rfl)
        have HC2 := Lib.hid hc
        clear hR hc
        have r0 := HR3.out.cell 0
        have r1 := HR3.out.cell 1
        have r2 := HR3.out.cell 2
        have s0 := HW3.out.cell 0
        have s1 := HW3.out.cell 1
        have s2 := HW3.out.cell 2
        have g0 := HR3.out.frozen 0
        have g1 := HR3.out.frozen 1
        have g2 := HR3.out.frozen 2
        simp at r0 r1 r2 s0 s1 s2
        go_wp2_with fail
        refine bodyPost_ret (results_w3 (t := 4) (a := 5) (b := 6) (by kernel_rfl) rfl HR3.out.set3) rfl ?_
        exact ⟨((HB3.out.setCell (p := ⟨w.heap.size, 0, none⟩) (Nat.le_refl _) _).setCell (p := ⟨w.heap.size, 1, none⟩) (Nat.le_refl _) _).setCell (p := ⟨w.heap.size, 2, none⟩) (Nat.le_refl _) _, ⟨0, 0, []⟩, .slice none 0 0, j, c2, rfl, SlI.nil none 0, .inr ⟨HE.out, HC2.out⟩⟩
    · have q2 : ((c : Int) == 34) = false := beq_eq_false_iff_ne.2 (by omega)
      have HAS := Lib.hid (as_bare (l := l) (st := st) HC.out h123 h34)
      have HCT := Lib.hid HIT.out
      clear h123 h34
      go_wp2_with fail
      have h2 := two_blocks w (.int .i64 (st : Nat)) (.int .i64 0) (.slice none 0 0)
      dsimp only at h2
      generalize World.alloc (World.alloc w _) _ = w1 at *
      obtain ⟨hb1, hr1, hw1, hs1⟩ := h2
      refine (HCT.out _).mono ?_
      rintro e w2 ⟨hb2, v, ps, j, c2, rfl, hP, hR⟩
      obtain ⟨Av, cv, hv, -⟩ := hP.form
      have HRA := hr1.below hb2 hr1.lt
      have HWA := hw1.below hb2 hw1.lt
      have hB3 := (hb1.trans (hb2.mono hb1.size)).setCell (p := ⟨w.heap.size + 1, 2, none⟩) (show w.heap.size ≤ w.heap.size + 1 by omega) v
      have HPA := SlI.fit (T := fun b => w.heap.size + 2 ≤ b) prt_ok hP (fun b hb _ => by omega)
      have g0 := HWA.cell 2
      have g1 := HWA.frozen 2
      simp at g0
      have HPB := SlI.still prt_ok HPA (W' := w2.setCell ⟨w.heap.size + 1, 2, none⟩ v) ⟨by simp [World.setCell], fun b hb _ => Below.heap_setCell _ _ _ _ (by show b ≠ w.heap.size + 1; omega)⟩
      have HR3 := Lib.hid (HRA.far (p := ⟨w.heap.size + 1, 2, none⟩) (show w.heap.size ≠ w.heap.size + 1 by omega) v)
      have HW3 : Hid (Blk _ _ 44 #[.int .i64 (st : Nat), .int .i64 0, v]) := Lib.hid (HWA.set_ 2 v)
      have HB3 := Lib.hid hB3
      have HP3 := Lib.hid HPB
      have HRX := Lib.hid hR
      subst hv
      clear hb1 hr1 hw1 hs1 hb2 hP hB3 HPA HPB HRA HWA hR
      generalize hw3 : w2.setCell ⟨w.heap.size + 1, 2, none⟩ (.slice Av ps.length cv) = w3 at HR3 HW3 HB3 HP3
      rcases HRX.out with ⟨hR, rfl⟩ | ⟨hR, -, -, hc⟩
      · have HRR := Lib.hid hR
        clear hR
        have HPF := Lib.hid (SlI.fit (T := fun b => w.heap.size ≤ b) prt_ok (SlI.still prt_ok HP3.out (W' := ((w3.setCell ⟨w.heap.size, 0, none⟩ (.int .i64 (st : Nat))).setCell ⟨w.heap.size, 1, none⟩ (.int .i64 0)).setCell ⟨w.heap.size, 2, none⟩ (.slice Av ps.length cv)) ⟨by simp [World.setCell], fun b hb _ => by rw [Below.heap_setCell _ _ _ _ (by show b ≠ w.heap.size; omega), Below.heap_setCell _ _ _ _ (by show b ≠ w.heap.size; omega), Below.heap_setCell _ _ _ _ (by show b ≠ w.heap.size; omega)]⟩) (fun b hb _ => by omega))
        by_cases hj : j < l.length
        · have q5 : decide ((j : Int) < (l.length : Int)) = true := decide_eq_true (by omega)
          obtain ⟨d, hd⟩ : ∃ d, l[j]? = some d := ⟨_, List.getElem?_eq_getElem hj⟩
          obtain ⟨hkd, hxd⟩ := str_at HL.out hd
          have HD := Lib.hid hd
          have HH : Hid (∀ W, Calls Try.prog 34 #[.string ⟨#[9, 32, 10, 59]⟩, .int .u8 (d : Nat)] W fun e w' => e = .returned (.bool (blankB d || endB d)) ∧ W = w') := Lib.hid fun W => HK.out d (HL.out d (List.mem_of_getElem? hd)) W
          clear hd
          cases hbd : (blankB d || endB d) with
          | true =>
            rw [hbd] at HH
            have HE : Hid (wordS (l.drop st) st = .ok (⟨st, 0, ps⟩, j)) := Lib.hid (by rw [HAS.out, HRR.out]; unfold wordR endR; dsimp only; rw [stops_at HD.out, hbd, if_pos rfl])
            clear hbd
            go_wp2_with fail
            refine (HH.out _).mono ?_
            rintro e w4 ⟨rfl, rfl⟩
            have r0 := HR3.out.cell 0
            have r1 := HR3.out.cell 1
            have r2 := HR3.out.cell 2
            have s0 := HW3.out.cell 0
            have s1 := HW3.out.cell 1
            have s2 := HW3.out.cell 2
            have g0 := HR3.out.frozen 0
            have g1 := HR3.out.frozen 1
            have g2 := HR3.out.frozen 2
            simp at r0 r1 r2 s0 s1 s2
            go_wp2_with fail
            refine bodyPost_ret (results_w3 (t := 4) (a := 5) (b := 6) (by kernel_rfl) rfl HR3.out.set3) rfl ?_
            exact ⟨((HB3.out.setCell (p := ⟨w.heap.size, 0, none⟩) (Nat.le_refl _) _).setCell (p := ⟨w.heap.size, 1, none⟩) (Nat.le_refl _) _).setCell (p := ⟨w.heap.size, 2, none⟩) (Nat.le_refl _) _, ⟨st, 0, ps⟩, .slice Av ps.length cv, j, 0, rfl, HPF.out, .inl ⟨HE.out, rfl⟩⟩
          | false =>
            rw [hbd] at HH
            have HE : Hid (wordS (l.drop st) st = .error (j, 4)) := Lib.hid (by rw [HAS.out, HRR.out]; unfold wordR endR; dsimp only; rw [stops_at HD.out, hbd]; rfl)
            clear hbd
            go_wp2_with fail
            refine (HH.out _).mono ?_
            rintro e w4 ⟨rfl, rfl⟩
            have r0 := HR3.out.cell 0
            have r1 := HR3.out.cell 1
            have r2 := HR3.out.cell 2
            have s0 := HW3.out.cell 0
            have s1 := HW3.out.cell 1
            have s2 := HW3.out.cell 2
            have g0 := HR3.out.frozen 0
            have g1 := HR3.out.frozen 1
            have g2 := HR3.out.frozen 2
            simp at r0 r1 r2 s0 s1 s2
            go_wp2_with fail
            refine bodyPost_ret (results_w3 (t := 4) (a := 5) (b := 6) (by kernel_rfl) rfl HR3.out.set3) rfl ?_
            exact ⟨((HB3.out.setCell (p := ⟨w.heap.size, 0, none⟩) (Nat.le_refl _) _).setCell (p := ⟨w.heap.size, 1, none⟩) (Nat.le_refl _) _).setCell (p := ⟨w.heap.size, 2, none⟩) (Nat.le_refl _) _, ⟨0, 0, []⟩, .slice none 0 0, j, 4, rfl, SlI.nil none 0, .inr ⟨HE.out, by omega⟩⟩
        · have q5 : decide ((j : Int) < (l.length : Int)) = false := decide_eq_false (by omega)
          have HE : Hid (wordS (l.drop st) st = .ok (⟨st, 0, ps⟩, j)) := Lib.hid (by rw [HAS.out, HRR.out]; unfold wordR endR; dsimp only; rw [stops_out (by omega), if_pos rfl])
          have r0 := HR3.out.cell 0
          have r1 := HR3.out.cell 1
          have r2 := HR3.out.cell 2
          have s0 := HW3.out.cell 0
          have s1 := HW3.out.cell 1
          have s2 := HW3.out.cell 2
          have g0 := HR3.out.frozen 0
          have g1 := HR3.out.frozen 1
          have g2 := HR3.out.frozen 2
          simp at r0 r1 r2 s0 s1 s2
          go_wp2_with fail
          refine bodyPost_ret (results_w3 (t := 4) (a := 5) (b := 6) (by kernel_rfl) rfl HR3.out.set3) rfl ?_
          exact ⟨((HB3.out.setCell (p := ⟨w.heap.size, 0, none⟩) (Nat.le_refl _) _).setCell (p := ⟨w.heap.size, 1, none⟩) (Nat.le_refl _) _).setCell (p := ⟨w.heap.size, 2, none⟩) (Nat.le_refl _) _, ⟨st, 0, ps⟩, .slice Av ps.length cv, j, 0, rfl, HPF.out, .inl ⟨HE.out, rfl⟩⟩
      · have q5 : ((c2 : Int) == 0) = false := beq_eq_false_iff_ne.2 (by omega)
        have q6 : ((c2 : Int) != 0) = true := by simp; omega
        have HE : Hid (wordS (l.drop st) st = .error (j, c2)) := Lib.hid (by rw [HAS.out, hR]; rfl)
        have HC2 := Lib.hid hc
        clear hR hc
        have r0 := HR3.out.cell 0
        have r1 := HR3.out.cell 1
        have r2 := HR3.out.cell 2
        have s0 := HW3.out.cell 0
        have s1 := HW3.out.cell 1
        have s2 := HW3.out.cell 2
        have g0 := HR3.out.frozen 0
        have g1 := HR3.out.frozen 1
        have g2 := HR3.out.frozen 2
        simp at r0 r1 r2 s0 s1 s2
        go_wp2_with fail
        refine bodyPost_ret (results_w3 (t := 4) (a := 5) (b := 6) (by kernel_rfl) rfl HR3.out.set3) rfl ?_
        exact ⟨((HB3.out.setCell (p := ⟨w.heap.size, 0, none⟩) (Nat.le_refl _) _).setCell (p := ⟨w.heap.size, 1, none⟩) (Nat.le_refl _) _).setCell (p := ⟨w.heap.size, 2, none⟩) (Nat.le_refl _) _, ⟨0, 0, []⟩, .slice none 0 0, j, c2, rfl, SlI.nil none 0, .inr ⟨HE.out, HC2.out⟩⟩
end Go.Proofs.Ytphmhglebeapaaa
