/-
  tcl's has, between, closing; strings.Clone, IndexRune; tcl's name: their contracts.
  Conditions: those of each theorem.
-/
import Derived.Test.YtphmhglebeapaaaQCon
import Derived.Test.YtphmhglebeapaaaTRBr
import Derived.Test.YtphmhglebeapaaaTRPar
import Derived.Test.YtphmhglebeapaaaTclLs
import Derived.Laws.Runes
import Derived.Lib.OthersKept
import Derived.Laws.MakeOwn
import Derived.Lib.BufferWrite
import Derived.WalkMore
import Derived.Deep.QuietTactic
import Derived.BigQuiet
namespace Go.Proofs.Ytphmhglebeapaaa
open Go.RowKit

theorem str_list (l : List Nat) : (str l).data.toList = l.map fun c => UInt8.ofNat c := by
  rw [← str_toList]
theorem any_mem {m : List Nat} (hm : ∀ d ∈ m, d < 256) {c : Nat} (hc : c < 256) : (m.map fun c => UInt8.ofNat c).any (· == UInt8.ofNat c) = decide (c ∈ m) := by
  induction m with
  | nil => rfl
  | cons a m ih =>
    rw [List.map_cons, List.any_cons, ih fun d hd => hm d (List.mem_cons_of_mem _ hd), u8_beq (hm a (by simp)) hc, Bool.eq_iff_iff]
    simp only [Bool.or_eq_true, decide_eq_true_eq, List.mem_cons]
    exact or_congr eq_comm Iff.rfl
theorem idx_mem {m : List Nat} (hm : ∀ d ∈ m, d < 256) {c : Nat} (hc : c < 256) : decide (0 ≤ Lib.indexByte (str m).data.toList (UInt8.ofNat c)) = decide (c ∈ m) := by
  rw [str_list, ← any_mem hm hc]
  have h := idx_neg (m.map fun c => UInt8.ofNat c) (UInt8.ofNat c)
  by_cases h0 : Lib.indexByte (m.map fun c => UInt8.ofNat c) (UInt8.ofNat c) < 0
  · rw [decide_eq_true h0] at h
    rw [decide_eq_false (by omega)]
    generalize (m.map fun c => UInt8.ofNat c).any (· == UInt8.ofNat c) = x at *
    revert h; cases x <;> simp
  · rw [decide_eq_false h0] at h
    rw [decide_eq_true (by omega)]
    generalize (m.map fun c => UInt8.ofNat c).any (· == UInt8.ofNat c) = x at *
    revert h; cases x <;> simp
/-- A row of bytes as has goes through it. -/
def HasK (s : ByteArray) (K : Nat → Bool) : Prop := ∀ c : Nat, c < 256 → ∀ W : World, Calls Try.prog 34 #[.string s, .int .u8 (c : Nat)] W fun e w' => e = .returned (.bool (K c)) ∧ W = w'
set_option maxRecDepth 100000 in
set_option maxHeartbeats 1000000 in
theorem has_is (m : List Nat) (hm : ∀ d ∈ m, d < 256) : HasK (str m) (fun c => decide (c ∈ m)) := by
  intro c hc w
  have HI : Hid (Calls Try.prog 50 #[.string (str m), .int .u8 (c : Nat)] w fun e w' => e = .returned (.int .i64 (Lib.indexByte (str m).data.toList (UInt8.ofNat c))) ∧ w = w') := Lib.hid (IndexByte_is (str m) (c : Nat) w)
  have HM := Lib.hid (idx_mem hm hc)
  generalize Lib.indexByte (str m).data.toList (UInt8.ofNat c) = z at *
  generalize str m = s at *
  clear hm hc
  go_enter Try.func34, Try.ntmps34
  go_wp2_with fail
  refine HI.out.mono ?_
  rintro e w1 ⟨rfl, rfl⟩
  go_wp2_with fail
  go_ret
  exact ⟨by rw [← HM.out]; rfl, rfl⟩
theorem HasK.congr {s : ByteArray} {K L : Nat → Bool} (h : HasK s K) (e : ∀ c, K c = L c) : HasK s L := by
  rwa [show L = K from funext fun c => (e c).symm]
theorem has_parting : HasK ⟨#[9, 32, 10, 59]⟩ fun c => blankB c || endB c := HasK.congr (has_is [9, 32, 10, 59] (by simp)) fun c => by
  rw [Bool.eq_iff_iff]; simp [blankB, endB]; omega
theorem has_ends : HasK ⟨#[10, 59]⟩ endB := HasK.congr (has_is [10, 59] (by simp)) fun c => by rw [Bool.eq_iff_iff]; simp [endB]
theorem has_blanks : HasK ⟨#[9, 32]⟩ blankB := HasK.congr (has_is [9, 32] (by simp)) fun c => by rw [Bool.eq_iff_iff]; simp [blankB]
theorem has_quote : HasK ⟨#[34]⟩ fun c => decide (c = 34) := HasK.congr (has_is [34] (by simp)) fun c => by rw [Bool.eq_iff_iff]; simp

/-! ### Remarks -/
theorem idx_line {l : List Nat} (hl : ∀ c ∈ l, c < 256) : Lib.indexByte (str l).data.toList (UInt8.ofNat 10) = if 10 ∈ l then ((l.takeWhile (· != 10)).length : Int) else -1 := by
  rw [str_list]
  induction l with
  | nil => rfl
  | cons a l ih =>
    have ih := ih fun c hc => hl c (List.mem_cons_of_mem _ hc)
    rw [List.map_cons]
    unfold Lib.indexByte
    rw [u8_beq (hl a (by simp)) (by omega), ih]
    by_cases ha : a = 10
    · subst ha; simp
    · have ha' : (10 : Nat) ≠ a := fun e => ha e.symm
      simp only [decide_eq_false ha, Bool.false_eq_true, if_false, List.mem_cons, ha', false_or]
      by_cases hm : 10 ∈ l
      · simp only [if_pos hm]
        have : (((l.takeWhile (· != 10)).length : Int) == -1) = false := beq_eq_false_iff_ne.2 (by omega)
        rw [this, List.takeWhile_cons, show (a != 10) = true by simpa using ha]
        simp
      · simp [hm]
theorem no_line {l : List Nat} (h : 10 ∉ l) : l.takeWhile (· != 10) = l := by
  induction l with
  | nil => rfl
  | cons a l ih =>
    simp only [List.mem_cons, not_or] at h
    rw [List.takeWhile_cons, ih h.2, show (a != 10) = true by simpa using fun e => h.1 e.symm]
    rfl
theorem line_le (l : List Nat) : (l.takeWhile (· != 10)).length ≤ l.length := by
  induction l with
  | nil => simp
  | cons a l ih => rw [List.takeWhile_cons]; split <;> simp; exact ih
theorem drop_line (l : List Nat) (i : Nat) : (l.drop i).dropWhile (· != 10) = l.drop (i + ((l.drop i).takeWhile (· != 10)).length) := by
  rw [← List.drop_drop]
  generalize l.drop i = m
  have h := List.takeWhile_append_dropWhile (p := (· != 10)) (l := m)
  conv => rhs; arg 2; rw [← h]
  rw [List.drop_left]
set_option maxRecDepth 100000 in
set_option maxHeartbeats 1000000 in
theorem behindRemark_is (l : List Nat) (hl : ∀ c ∈ l, c < 256) (hn : l.length ≤ 281474976710656) (i : Nat) (hi : i ≤ l.length) (w : World) :
    Calls Try.prog 35 #[.string (str l), .int .i64 (i : Nat)] w fun e w' => e = .returned (.int .i64 (i + ((l.drop i).takeWhile (· != 10)).length : Nat)) ∧ w = w' := by
  have hsz := str_len l
  have hrun := fun W => run_from_str l i hi W
  have hd : ∀ c ∈ l.drop i, c < 256 := fun c hc => hl c (List.mem_of_mem_drop hc)
  have HI : Hid (Calls Try.prog 50 #[.string (str (l.drop i)), .int .u8 10] w fun e w' => e = .returned (.int .i64 (Lib.indexByte (str (l.drop i)).data.toList (UInt8.ofNat 10))) ∧ w = w') := Lib.hid (IndexByte_is (str (l.drop i)) 10 w)
  rw [idx_line hd] at HI
  have hle := line_le (l.drop i)
  have hdl : (l.drop i).length = l.length - i := List.length_drop
  by_cases hm : 10 ∈ l.drop i
  · rw [if_pos hm] at HI
    generalize ((l.drop i).takeWhile (· != 10)).length = n at *
    have q : decide ((0 : Int) ≤ (n : Int)) = true := decide_eq_true (by omega)
    have hb : i + n ≤ l.length := by omega
    generalize str (l.drop i) = sd at *
    clear hm hd hdl hle hl
    go_enter Try.func35, Try.ntmps35
    go_wp2_with fail
    refine HI.out.mono ?_
    rintro e w1 ⟨rfl, rfl⟩
    go_wp2_with fail
    go_ret
    exact ⟨by go_num, rfl⟩
  · rw [if_neg hm] at HI
    have hx : i + ((l.drop i).takeWhile (· != 10)).length = l.length := by rw [no_line hm, hdl]; omega
    rw [hx]
    generalize str (l.drop i) = sd at *
    clear hm hd hdl hle hl hx
    go_enter Try.func35, Try.ntmps35
    go_wp2_with fail
    refine HI.out.mono ?_
    rintro e w1 ⟨rfl, rfl⟩
    go_wp2_with fail
    go_ret
    exact ⟨rfl, rfl⟩

/-! ### Between commands -/
/-- From place i on the next command begins at j, or the text ends there. -/
def NextAt (l : List Nat) (i j : Nat) : Prop := i ≤ j ∧ j ≤ l.length ∧ (∀ cs, parseL (l.drop i) i cs = parseL (l.drop j) j cs) ∧ (j = l.length ∨ ∃ c, l[j]? = some c ∧ stops (l.drop j) = false ∧ c ≠ 35)
set_option maxRecDepth 100000 in
set_option maxHeartbeats 2000000 in
theorem between_is (l : List Nat) (hl : ∀ c ∈ l, c < 256) (hn : l.length ≤ 281474976710656) (st : Nat) (hst : st ≤ l.length) (w : World) :
    Calls Try.prog 20 #[.string (str l), .int .i64 (st : Nat)] w fun e w' => (∃ j : Nat, e = .returned (.int .i64 (j : Nat)) ∧ NextAt l st j) ∧ w = w' := by
  have hsz := str_len l
  have HL := Lib.hid hl
  have HB := Lib.hid fun i (hi : i ≤ l.length) => behindRemark_is l hl hn i hi w
  have HP : Hid (HasK ⟨#[9, 32, 10, 59]⟩ fun c => blankB c || endB c) := Lib.hid has_parting
  clear hl
  go_enter Try.func20, Try.ntmps20
  go_wp2_with fail
  go_loop [1] (fun a => ∃ i : Nat, a = .int .i64 (i : Nat) ∧ st ≤ i ∧ i ≤ l.length ∧ Hid (∀ cs, parseL (l.drop st) st cs = parseL (l.drop i) i cs)) (fun a => l.length - (intOf a).toNat)
  case atStart => exact ⟨st, rfl, by omega, hst, Lib.hid fun _ => rfl⟩
  case round =>
    obtain ⟨i, rfl, hs, hi, HE⟩ := hrel
    by_cases hlt : i < l.length
    · have q0 : decide ((i : Int) < (l.length : Int)) = true := decide_eq_true (by omega)
      obtain ⟨c, hc⟩ : ∃ c, l[i]? = some c := ⟨_, List.getElem?_eq_getElem hlt⟩
      obtain ⟨hks, hx⟩ := str_at HL.out hc
      have HC := Lib.hid hc
      have hc256 : c < 256 := HL.out c (List.mem_of_getElem? hc)
      by_cases h35 : c = 35
      · have q1 : ((c : Int) == 35) = true := beq_iff_eq.2 (by omega)
        have HR := Lib.hid (HB.out i hi)
        have hle := line_le (l.drop i)
        rw [List.length_drop] at hle
        have hpos : 0 < ((l.drop i).takeWhile (· != 10)).length := by rw [dropc hc, List.takeWhile_cons, h35]; simp
        have HN : Hid (∀ cs, parseL (l.drop i) i cs = parseL (l.drop (i + ((l.drop i).takeWhile (· != 10)).length)) (i + ((l.drop i).takeWhile (· != 10)).length) cs) := Lib.hid fun cs => by
          rw [← drop_line]
          conv => lhs; rw [dropc hc, h35, parseL_hash]
          rw [dropc hc, h35]
        generalize ((l.drop i).takeWhile (· != 10)).length = n at *
        clear hc h35
        go_wp2_with fail
        refine HR.out.mono ?_
        rintro e w1 ⟨rfl, rfl⟩
        go_wp2_with fail
        go_round
        case rel => exact ⟨i + n, by go_num, by omega, by omega, Lib.hid fun cs => (HE.out cs).trans (HN.out cs)⟩
        case measure => simp [intOf]; omega
      · have q1 : ((c : Int) == 35) = false := beq_eq_false_iff_ne.2 (by omega)
        have HH : Hid (Calls Try.prog 34 #[.string ⟨#[9, 32, 10, 59]⟩, .int .u8 (c : Nat)] w fun e w' => e = .returned (.bool (blankB c || endB c)) ∧ w = w') := Lib.hid (HP.out c hc256 w)
        have HD := Lib.hid h35
        clear h35 hc
        cases hb : (blankB c || endB c) with
        | true =>
          rw [hb] at HH
          have HN : Hid (∀ cs, parseL (l.drop i) i cs = parseL (l.drop (i + 1)) (i + 1) cs) := Lib.hid fun cs => by rw [dropc HC.out, parseL_stop hb]
          clear hb
          go_wp2_with fail
          refine HH.out.mono ?_
          rintro e w1 ⟨rfl, rfl⟩
          go_wp2_with fail
          go_round
          case rel => exact ⟨i + 1, by go_num, by omega, by omega, Lib.hid fun cs => (HE.out cs).trans (HN.out cs)⟩
          case measure => simp [intOf]; omega
        | false =>
          rw [hb] at HH
          have HN : Hid (stops (l.drop i) = false) := Lib.hid (by rw [dropc HC.out]; exact hb)
          clear hb
          go_wp2_with fail
          refine HH.out.mono ?_
          rintro e w1 ⟨rfl, rfl⟩
          go_wp2_with fail
          go_ret
          exact ⟨⟨i, rfl, hs, hi, HE.out, .inr ⟨c, HC.out, HN.out, HD.out⟩⟩, rfl⟩
    · have q0 : decide ((i : Int) < (l.length : Int)) = false := decide_eq_false (by omega)
      go_wp2_with fail
      go_ret
      exact ⟨⟨i, rfl, hs, hi, HE.out, .inl (by omega)⟩, rfl⟩

/-! ### Braces -/
/-- What closing tells. -/
def closeV : Except (Nat × Nat) Nat → Value
  | .ok j => .tuple #[.int .i64 (j - 1 : Nat), .int .i64 0]
  | .error (p, c) => .tuple #[.int .i64 (p : Nat), .int .i64 (c : Nat)]
set_option maxRecDepth 100000 in
set_option maxHeartbeats 2000000 in
theorem closing_is (l : List Nat) (hl : ∀ c ∈ l, c < 256) (hn : l.length ≤ 281474976710656) (st : Nat) (h0 : l[st]? = some 123) (w : World) :
    Calls Try.prog 66 #[.string (str l), .int .i64 (st : Nat)] w fun e w' => e = .returned (closeV (braceS st (l.drop st) st 0)) ∧ w = w' := by
  have hsz := str_len l
  have HL := Lib.hid hl
  have H0 := Lib.hid h0
  have hst := (List.getElem?_eq_some_iff.1 h0).1
  clear hl h0
  go_enter Try.func66, Try.ntmps66
  go_wp2_with fail
  go_loop [6, 7] (fun dv iv => ∃ d i : Nat, dv = .int .i64 (d : Nat) ∧ iv = .int .i64 (i : Nat) ∧ i ≤ l.length + 1 ∧ d ≤ 64 ∧ Hid (((i = st ∧ d = 0) ∨ (st < i ∧ 1 ≤ d)) ∧ braceS st (l.drop st) st 0 = braceS st (l.drop i) i d)) (fun _ iv => l.length + 2 - (intOf iv).toNat)
  case atStart => exact ⟨0, st, rfl, rfl, by omega, by omega, Lib.hid ⟨.inl ⟨rfl, rfl⟩, rfl⟩⟩
  case round =>
    obtain ⟨d, i, rfl, rfl, hi, hd, HR⟩ := hrel
    have HB := Lib.hid HR.out.2
    have HR1 := Lib.hid HR.out.1
    clear HR
    by_cases hlt : i < l.length
    · have q0 : decide ((i : Int) < (l.length : Int)) = true := decide_eq_true (by omega)
      obtain ⟨c, hc⟩ : ∃ c, l[i]? = some c := ⟨_, List.getElem?_eq_getElem hlt⟩
      obtain ⟨hks, hx⟩ := str_at HL.out hc
      have HC := Lib.hid hc
      clear hc
      by_cases h92 : c = 92
      · have q1 : ((c : Int) == 92) = true := beq_iff_eq.2 (by omega)
        have HN := Lib.hid (br_back (by rw [HC.out, h92]) st d)
        have hd1 : st < i ∧ 1 ≤ d := by
          rcases HR1.out with ⟨h1, _⟩ | h1
          · have := HC.out; rw [h1, H0.out] at this; injection this with this; omega
          · exact h1
        clear h92
        go_wp2_with fail
        go_round
        case rel => exact ⟨d, i + 2, rfl, by go_num, by omega, hd, Lib.hid ⟨.inr ⟨by omega, by omega⟩, HB.out.trans HN.out⟩⟩
        case measure => simp [intOf]; omega
      · have q1 : ((c : Int) == 92) = false := beq_eq_false_iff_ne.2 (by omega)
        by_cases h123 : c = 123
        · have q2 : ((c : Int) == 123) = true := beq_iff_eq.2 (by omega)
          have hsi : st ≤ i := by rcases HR1.out with h1 | h1 <;> omega
          by_cases hdp : 64 < d + 1
          · have q5 : decide ((64 : Int) < (d : Int) + 1) = true := decide_eq_true (by omega)
            have HN := Lib.hid (br_deep (by rw [HC.out, h123]) st hdp)
            clear h92 h123 hdp
            go_wp2_with fail
            go_ret2
            rw [HB.out, HN.out]
            exact ⟨rfl, rfl⟩
          · have q5 : decide ((64 : Int) < (d : Int) + 1) = false := decide_eq_false (by omega)
            have HN := Lib.hid (br_open (by rw [HC.out, h123]) st hdp)
            have hd65 : d + 1 ≤ 64 := by omega
            clear h92 h123 hdp
            go_wp2_with fail
            go_round
            case rel => exact ⟨d + 1, i + 1, by go_num, by go_num, by omega, hd65, Lib.hid ⟨.inr ⟨by omega, by omega⟩, HB.out.trans HN.out⟩⟩
            case measure => simp [intOf]; omega
        · have q2 : ((c : Int) == 123) = false := beq_eq_false_iff_ne.2 (by omega)
          have hd1 : st < i ∧ 1 ≤ d := by
            rcases HR1.out with ⟨h1, _⟩ | h1
            · have := HC.out; rw [h1, H0.out] at this; injection this with this; omega
            · exact h1
          by_cases h125 : c = 125
          · have q3 : ((c : Int) == 125) = true := beq_iff_eq.2 (by omega)
            by_cases hd1' : d = 1
            · subst hd1'
              have HN := Lib.hid (HB.out.trans (br_end (by rw [HC.out, h125]) st))
              clear h92 h123 h125
              go_wp2_with fail
              go_ret2
              rw [HN.out]
              exact ⟨rfl, rfl⟩
            · have q4 : ((d : Int) - 1 == 0) = false := beq_eq_false_iff_ne.2 (by omega)
              have e4 : ((d - 1 : Nat) : Int) = (d : Int) - 1 := by omega
              have HN := Lib.hid (br_shut (by rw [HC.out, h125]) st hd1')
              have HD4 := Lib.hid e4
              clear h92 h123 h125 e4
              go_wp2_with fail
              go_round
              case rel => exact ⟨d - 1, i + 1, by rw [HD4.out], by go_num, by omega, by omega, Lib.hid ⟨.inr ⟨by omega, by omega⟩, HB.out.trans HN.out⟩⟩
              case measure => simp [intOf]; omega
          · have q3 : ((c : Int) == 125) = false := beq_eq_false_iff_ne.2 (by omega)
            have HN := Lib.hid (br_other HC.out h92 h123 h125 st d)
            clear h92 h123 h125
            go_wp2_with fail
            go_round
            case rel => exact ⟨d, i + 1, rfl, by go_num, by omega, hd, Lib.hid ⟨.inr ⟨by omega, by omega⟩, HB.out.trans HN.out⟩⟩
            case measure => simp [intOf]; omega
    · have q0 : decide ((i : Int) < (l.length : Int)) = false := decide_eq_false (by omega)
      have HN := Lib.hid (HB.out.trans (br_out (by omega) st d))
      go_wp2_with fail
      go_ret2
      rw [HN.out]
      exact ⟨rfl, rfl⟩
end Go.Proofs.Ytphmhglebeapaaa
namespace Go.Proofs.Ytphmhglebeapaaa
open Go.RowKit

theorem byte_cells_str {l : List Nat} (hl : ∀ c ∈ l, c < 256) : Lib.byteCells (str l).data.toList = bv l := by
  rw [str_list]
  unfold Lib.byteCells bv
  rw [List.map_map]
  refine List.map_congr_left fun c hc => ?_
  have := hl c hc
  simp; omega
set_option maxRecDepth 100000 in
set_option maxHeartbeats 2000000 in
theorem slClone_is (l : List Nat) (hl : ∀ c ∈ l, c < 256) (hn : l.length ≤ 140737488351232) (w : World) :
    Calls Try.prog 77 #[.string (str l)] w fun e w' => e = .returned (.string (str l)) ∧ Below w.heap.size w w' := by
  have hsz := str_len l
  by_cases h0 : l.length = 0
  · obtain rfl := List.length_eq_zero_iff.1 h0
    rw [str_nil] at *
    clear h0
    go_enter Try.func77, Try.ntmps77
    go_wp2
    go_ret
    exact ⟨rfl, Below.refl _ _⟩
  · obtain ⟨i0, hi, hz0, hz1, hz2⟩ := info_parts byte_info
    have hinfo : (Try.prog.info? 5).map (·.size) = some 1 := by rw [hi]; simp [hz1]
    have hbc := byte_cells_str hl
    have hL := str_list l
    obtain ⟨n, hn'⟩ : ∃ n, n = l.length := ⟨_, rfl⟩
    rw [← hn'] at hsz h0 hn
    obtain ⟨M, hM⟩ : ∃ M, M = madeCells (Value.int .u8 0).cells (((n : Nat) : Int).toNat * i0.size) := ⟨_, rfl⟩
    have hMs : M.size = n := by rw [hM, size_madeCells, hz1]; simp
    have hmk : ∀ W : World, (Instr.makeSlice 41 (.int .i64 (n : Int)) (.int .i64 (n : Int))).run Try.prog W = .ok (.slice (some ⟨W.heap.size, 0, none⟩) n n) (W.alloc (.cells M 5)) := fun W => by
      have h := run_make (P := Try.prog) W 41 5 i0 (.int .u8 0) Try.underlying41 hi hz0 .i64 .i64 (n : Int) (n : Int) (by omega) (by omega) (by rw [hz2]; omega) (by omega)
      rw [← hM] at h
      simpa using h
    clear hM
    have hcp := Lib.run_copy_row_string (P := Try.prog) (w.alloc (.cells M 5)) 41 9 3 5 w.heap.size 0 n n (str l) M 5 Try.underlying41 hinfo (heap_alloc_new w _) (by omega) (by omega)
    rw [hbc, hsz, List.take_zero, List.nil_append, List.drop_of_length_le (by rw [Array.length_toList]; omega), List.append_nil] at hcp
    have hgY : ((w.alloc (.cells M 5)).setRow w.heap.size (bv l).toArray).heap[w.heap.size]? = some (.cells (bv l).toArray 5 (0, 0)) := setRow_heap _ _ M _ 5 (0, 0) (heap_alloc_new w _)
    have hUS : (Builtin.unsafeString_ #[83, 3] 9 #[.pointer (some ⟨w.heap.size, 0, none⟩), .int .i64 (n : Nat)]).run Try.prog ((w.alloc (.cells M 5)).setRow w.heap.size (bv l).toArray) = .ok (.string (str l)) (((w.alloc (.cells M 5)).setRow w.heap.size (bv l).toArray).freeze ⟨w.heap.size, 0, none⟩ n) := by
      have := run_uString (P := Try.prog) ((w.alloc (.cells M 5)).setRow w.heap.size (bv l).toArray) 83 3 9 5 Try.underlying83 byte_cells w.heap.size 0 (bv l).toArray.size (by unfold World.shape?; rw [hgY]) (l.map fun c => UInt8.ofNat c) (by intro e; simp at e; rw [e] at hn'; exact h0 hn') (by simp [bv]) (by rw [List.length_map]; omega) (fun j x hj => by
        rw [List.getElem?_map] at hj
        obtain ⟨d, hd, rfl⟩ := Option.map_eq_some_iff.1 hj
        rw [add_eq, cell_of_row _ w.heap.size (0 + j) _ _ (0, 0) hgY, Nat.zero_add, ← Array.getElem?_toList, List.toList_toArray, bv_at, hd]
        have := hl d (List.mem_of_getElem? hd)
        simp; omega)
      rw [List.length_map, str_toList, ← hn'] at this
      exact this
    have hb1 : Below w.heap.size w (w.alloc (.cells M 5)) := (Below.refl _ w).alloc (Nat.le_refl _) _
    have hb2 : Below w.heap.size (w.alloc (.cells M 5)) ((w.alloc (.cells M 5)).setRow w.heap.size (bv l).toArray) := ⟨rfl, rfl, rfl, by simp, fun k hk => setRow_other _ _ _ _ (by omega)⟩
    have HB := Lib.hid (Lib.below_freeze (hb1.trans hb2) (p := ⟨w.heap.size, 0, none⟩) (Nat.le_refl _) n)
    clear hbc hL hn' hl hb1 hb2 hgY hMs hz0 hz1 hz2 hi hinfo
    generalize World.setRow (w.alloc (.cells M 5)) w.heap.size (bv l).toArray = W2 at *
    generalize str l = s at *
    have h1 : ((n : Int) == 0) = false := beq_eq_false_iff_ne.2 (by omega)
    have h2 : (n = 0) = False := eq_false h0
    have h3 : 0 < n := by omega
    go_enter Try.func77, Try.ntmps77
    go_wp2
    go_ret
    exact ⟨rfl, HB.out⟩
set_option maxRecDepth 100000 in
set_option maxHeartbeats 2000000 in
theorem strClone_is (l : List Nat) (hl : ∀ c ∈ l, c < 256) (hn : l.length ≤ 140737488351232) (w : World) :
    Calls Try.prog 67 #[.string (str l)] w fun e w' => e = .returned (.string (str l)) ∧ Below w.heap.size w w' := by
  have HC := Lib.hid (slClone_is l hl hn w)
  generalize str l = s at *
  clear hl hn
  go_enter Try.func67, Try.ntmps67
  go_wp2_with fail
  refine HC.out.mono ?_
  rintro e w1 ⟨rfl, hb⟩
  have HB := Lib.hid hb
  clear hb
  go_wp2_with fail
  go_ret
  exact ⟨rfl, HB.out⟩

/-! ### Runes that are looked for among ASCII bytes -/
set_option maxRecDepth 100000 in
set_option maxHeartbeats 1000000 in
theorem ValidRune_is (r : Int) (h0 : 0 ≤ r) (w : World) : Calls Try.prog 88 #[.int .i32 r] w fun e w' => e = .returned (.bool (Utf8.valid r)) ∧ w = w' := by
  have HV := Lib.hid (validRune_eq r)
  have q0 : decide (0 ≤ r) = true := decide_eq_true h0
  by_cases h1 : r < 55296
  · have q1 : decide (r < 55296) = true := decide_eq_true h1
    have HT : Hid (Utf8.valid r = true) := Lib.hid (by rw [HV.out]; unfold validRune; simp; omega)
    clear h1
    go_enter Try.func88, Try.ntmps88
    go_wp2
    go_ret
    exact ⟨by rw [HT.out]; rfl, rfl⟩
  · have q1 : decide (r < 55296) = false := decide_eq_false h1
    by_cases h2 : 57343 < r
    · have q2 : decide (57343 < r) = true := decide_eq_true h2
      by_cases h3 : r ≤ 1114111
      · have q3 : decide (r ≤ 1114111) = true := decide_eq_true h3
        have HT : Hid (Utf8.valid r = true) := Lib.hid (by rw [HV.out]; unfold validRune; simp; omega)
        clear h1 h2 h3
        go_enter Try.func88, Try.ntmps88
        go_wp2
        go_ret
        exact ⟨by rw [HT.out]; rfl, rfl⟩
      · have q3 : decide (r ≤ 1114111) = false := decide_eq_false h3
        have HT : Hid (Utf8.valid r = false) := Lib.hid (by rw [HV.out]; unfold validRune; simp; omega)
        clear h1 h2 h3
        go_enter Try.func88, Try.ntmps88
        go_wp2
        go_ret
        exact ⟨by rw [HT.out]; rfl, rfl⟩
    · have q2 : decide (57343 < r) = false := decide_eq_false h2
      have HT : Hid (Utf8.valid r = false) := Lib.hid (by rw [HV.out]; unfold validRune; simp; omega)
      clear h1 h2
      go_enter Try.func88, Try.ntmps88
      go_wp2
      go_ret
      exact ⟨by rw [HT.out]; rfl, rfl⟩
/-- A string of ASCII bytes. -/
def Asc (s : ByteArray) : Prop := ∀ b ∈ s.data.toList, b.toNat < 128
theorem Asc.at_ {s : ByteArray} (h : Asc s) {k : Nat} (hk : k < s.size) : (s[k]'hk).toNat < 128 := h _ (Array.getElem_mem_toList (xs := s.data) hk)
theorem idx_asc {s : ByteArray} (h : Asc s) (k : Nat) {c : UInt8} (hc : 128 ≤ c.toNat) : Lib.indexByte (s.extract k s.size).data.toList c = -1 := by
  have hx : ∀ b ∈ (s.extract k s.size).data.toList, b.toNat < 128 := fun b hb => h b (mem_extract hb)
  generalize (s.extract k s.size).data.toList = m at *
  induction m with
  | nil => rfl
  | cons a m ih =>
    have ha := hx a (by simp)
    have hne : (a == c) = false := by
      rw [beq_eq_false_iff_ne]; rintro rfl; omega
    unfold Lib.indexByte
    rw [hne, ih fun b hb => hx b (List.mem_cons_of_mem _ hb)]
    rfl
/-- Where a rune stands. -/
def runeAt (s : ByteArray) (r : Int) : Int := if r < 128 then Lib.indexByte s.data.toList r.toNat.toUInt8 else -1
set_option maxRecDepth 100000 in
set_option maxHeartbeats 4000000 in
theorem IndexRune_is (s : ByteArray) (hs : Asc s) (h4 : 4 ≤ s.size) (hn : s.size ≤ 281474976710656) (r : Int) (h0 : 0 ≤ r) (w : World) :
    Calls Try.prog 87 #[.string s, .int .i32 r] w fun e w' => e = .returned (.int .i64 (runeAt s r)) ∧ Below w.heap.size w w' := by
  have q0 : decide (0 ≤ r) = true := decide_eq_true h0
  by_cases h1 : r < 128
  · have q1 : decide (r < 128) = true := decide_eq_true h1
    have hw : IntKind.u8.wrap r = r := by unfold IntKind.wrap; simp [IntKind.bits, IntKind.signed]; omega
    have hm : r % 256 = r := by omega
    have HI : Hid (Calls Try.prog 50 #[.string s, .int .u8 r] w fun e w' => e = .returned (.int .i64 (runeAt s r)) ∧ w = w') := Lib.hid (by unfold runeAt; rw [if_pos h1]; exact IndexByte_is s r w)
    clear h1 hs
    go_enter Try.func87, Try.ntmps87
    go_wp2_with fail
    refine HI.out.mono ?_
    rintro e w1 ⟨rfl, rfl⟩
    go_wp2_with fail
    go_ret
    exact ⟨rfl, Below.refl _ _⟩
  · have q1 : decide (r < 128) = false := decide_eq_false h1
    have HR : Hid (runeAt s r = -1) := Lib.hid (by unfold runeAt; rw [if_neg h1])
    have HA := Lib.hid hs
    by_cases h2 : r = 65533
    · have q2 : (r == 65533) = true := beq_iff_eq.2 h2
      clear h1 hs h2
      go_enter Try.func87, Try.ntmps87
      go_wp2_with fail
      go_loopw [] (fun wr => ∃ i : Nat, i ≤ s.size ∧ wr.heap[w.heap.size]? = some (.stringIter s i) ∧ Hid (Below w.heap.size w wr)) (fun wr => s.size - wr.iterPos w.heap.size)
      case atStart => exact ⟨0, by omega, World.iter_heap w s 0, Lib.hid ((Below.refl _ w).alloc (Nat.le_refl _) _)⟩
      case round =>
        obtain ⟨i, hi, hit, HB⟩ := hrel
        have hpos : wr.iterPos w.heap.size = i := by simp [World.iterPos, hit]
        by_cases hlt : i < s.size
        · have ha := HA.out.at_ hlt
          have hnx := fun ty => Lib.run_next_ascii_at (P := Try.prog) wr w.heap.size s i ty hit hlt ha
          obtain ⟨d, hd⟩ : ∃ d : Nat, d = (s[i]'hlt).toNat := ⟨_, rfl⟩
          rw [← hd] at hnx ha
          have q3 : ((d : Int) == 65533) = false := beq_eq_false_iff_ne.2 (by omega)
          have hit2 := Lib.iterAt_heap wr w.heap.size s i (i + 1) hit
          have HB2 := Lib.hid (Lib.below_iterAt HB.out (Nat.le_refl _) s (i + 1))
          have hpos2 : (wr.iterAt w.heap.size s (i + 1)).iterPos w.heap.size = i + 1 := by simp [World.iterPos, hit2]
          clear hd
          go_wp2_with fail
          go_roundw
          case rel => exact ⟨i + 1, by omega, hit2, HB2⟩
          case measure => rw [hpos, hpos2]; omega
        · have hnx := fun ty => Lib.run_next_end_at (P := Try.prog) wr w.heap.size s i ty hit hlt
          go_wp2_with fail
          go_ret
          exact ⟨by rw [HR.out]; rfl, HB.out⟩
    · have q2 : (r == 65533) = false := beq_eq_false_iff_ne.2 h2
      have HV := Lib.hid (ValidRune_is r h0 w)
      cases hv : Utf8.valid r with
      | false =>
        rw [hv] at HV
        clear h1 hs h2 hv
        go_enter Try.func87, Try.ntmps87
        go_wp2_with fail
        refine HV.out.mono ?_
        rintro e w1 ⟨rfl, rfl⟩
        go_wp2_with fail
        go_ret
        exact ⟨by rw [HR.out]; rfl, Below.refl _ _⟩
      | true =>
        rw [hv] at HV
        obtain ⟨e1, e2, e3⟩ := encode_facts r hv (by omega)
        have hconv : ∀ W, (convert 21 9 (.int .i32 r)).run Try.prog W = .ok (.string (Utf8.encode r)) W := fun W => run_convert_int_string (P := Try.prog) W 21 9 .i32 r (by rw [Try.underlying21]; rfl) Try.underlying9
        generalize Utf8.encode r = rs at *
        obtain ⟨m, hm⟩ : ∃ m, rs.size = m + 1 := ⟨rs.size - 1, by omega⟩
        have hml : m < rs.size := by omega
        have hms : m < s.size := by omega
        have hx : 128 ≤ (rs[m]'hml).toNat := by
          have := e3 (by omega)
          simpa [hm] using this
        have hy := hs.at_ hms
        have HI : Hid (∀ W, Calls Try.prog 50 #[.string (s.extract (m + 1) s.size), .int .u8 ((rs[m]'hml).toNat : Nat)] W fun e w' => e = .returned (.int .i64 (-1)) ∧ W = w') := Lib.hid fun W => by
          have := IndexByte_is (s.extract (m + 1) s.size) ((rs[m]'hml).toNat : Nat) W
          rw [show ((((rs[m]'hml).toNat : Nat) : Int).toNat.toUInt8) = rs[m]'hml by simp, idx_asc hs _ hx] at this
          exact this
        obtain ⟨dx, hdx⟩ : ∃ d : Nat, (rs[m]'hml).toNat = d := ⟨_, rfl⟩
        obtain ⟨dy, hdy⟩ : ∃ d : Nat, (s[m]'hms).toNat = d := ⟨_, rfl⟩
        rw [hdx] at HI hx
        rw [hdy] at hy
        have q3 : ((dy : Int) != (dx : Int)) = true := by simp; omega
        have hrun : ∀ W, (Instr.slice 9 (.string s) (some (.int .i64 ((m : Int) + 1))) none none).run Try.prog W = .ok (.string (s.extract (m + 1) s.size)) W := fun W => by
          have := run_slice_string_l (P := Try.prog) W 9 s Try.underlying9 .i64 ((m : Int) + 1) (by omega) (by omega)
          simpa using this
        generalize s.extract (m + 1) s.size = sx at *
        clear h1 hs h2 hv e3
        go_enter Try.func87, Try.ntmps87
        go_wp2_with fail
        refine HV.out.mono ?_
        rintro e w1 ⟨rfl, rfl⟩
        go_wp2_with fail
        go_step3
        go_wp2_with fail
        go_loop [9, 10] (fun i f => i = .int .i64 (m : Nat) ∧ f = .int .i64 0) (fun _ _ => 0)
        case atStart => exact ⟨by go_num, rfl⟩
        case round =>
          obtain ⟨rfl, rfl⟩ := hrel
          go_wp2_with fail
          go_step3
          go_wp2_with fail
          go_quiet (fail)
          have HB2 := Lib.hid (drewN_below w nq)
          generalize hw2 : w.drewN nq = w2 at *
          have HI2 : Hid (∀ n, Calls Try.prog 50 #[.string sx, .int .u8 (dx : Nat)] (w2.drewN n) fun e w' => e = .returned (.int .i64 (-1)) ∧ ∃ m, w' = w2.drewN m) := Lib.hid fun n => (HI.out _).mono fun _ _ h => ⟨h.1, n, h.2.symm⟩
          go_wp2_with fail
          go_quiet ((go_at_call 50; exact HI2.out _))
          have HB3 := Lib.hid (HB2.out.trans ((drewN_below w2 nq).mono HB2.out.size))
          generalize w2.drewN _ = w3 at *
          go_wp2_with fail
          rw [Exit.noGoto_ret]
          go_wp2_with fail
          try rw [Exit.noGoto_ret]
          go_ret
          exact ⟨by rw [HR.out]; rfl, HB3.out⟩

/-! ### A name -/
theorem named_data : (⟨#[65, 66, 67, 68, 69, 70, 71, 72, 73, 74, 75, 76, 77, 78, 79, 80, 81, 82, 83, 84, 85, 86, 87, 88, 89, 90, 97, 98, 99, 100, 101, 102, 103, 104, 105, 106, 107, 108, 109, 110, 111, 112, 113, 114, 115, 116, 117, 118, 119, 120, 121, 122, 48, 49, 50, 51, 52, 53, 54, 55, 56, 57, 95]⟩ : ByteArray) = str ((List.range 26).map (65 + ·) ++ (List.range 26).map (97 + ·) ++ (List.range 10).map (48 + ·) ++ [95]) := rfl
theorem named_mem (c : Nat) : decide (c ∈ (List.range 26).map (65 + ·) ++ (List.range 26).map (97 + ·) ++ (List.range 10).map (48 + ·) ++ [95]) = nameB c := by
  rw [Bool.eq_iff_iff]
  simp only [nameB, List.mem_append, List.mem_map, List.mem_range, List.mem_singleton, decide_eq_true_eq]
  constructor
  · rintro (((⟨a, h, rfl⟩ | ⟨a, h, rfl⟩) | ⟨a, h, rfl⟩) | rfl) <;> omega
  · rintro (h | h | h | h)
    · exact .inl (.inl (.inl ⟨c - 65, by omega, by omega⟩))
    · exact .inl (.inl (.inr ⟨c - 97, by omega, by omega⟩))
    · exact .inl (.inr ⟨c - 48, by omega, by omega⟩)
    · exact .inr h
theorem named_lt : ∀ d ∈ (List.range 26).map (65 + ·) ++ (List.range 26).map (97 + ·) ++ (List.range 10).map (48 + ·) ++ [95], d < 128 := by
  intro d hd
  have : nameB d = true := by rw [← named_mem, decide_eq_true hd]
  simp only [nameB, decide_eq_true_eq] at this
  omega
theorem named_asc : Asc ⟨#[65, 66, 67, 68, 69, 70, 71, 72, 73, 74, 75, 76, 77, 78, 79, 80, 81, 82, 83, 84, 85, 86, 87, 88, 89, 90, 97, 98, 99, 100, 101, 102, 103, 104, 105, 106, 107, 108, 109, 110, 111, 112, 113, 114, 115, 116, 117, 118, 119, 120, 121, 122, 48, 49, 50, 51, 52, 53, 54, 55, 56, 57, 95]⟩ := by
  rw [named_data]
  intro b hb
  rw [str_list] at hb
  obtain ⟨d, hd, rfl⟩ := List.mem_map.1 hb
  have := named_lt d hd
  simp; omega
/-- A rune that may stand in a name. -/
def runeB (r : Int) : Bool := decide (r < 128) && nameB r.toNat
theorem named_at (r : Int) (h0 : 0 ≤ r) : decide (0 ≤ runeAt ⟨#[65, 66, 67, 68, 69, 70, 71, 72, 73, 74, 75, 76, 77, 78, 79, 80, 81, 82, 83, 84, 85, 86, 87, 88, 89, 90, 97, 98, 99, 100, 101, 102, 103, 104, 105, 106, 107, 108, 109, 110, 111, 112, 113, 114, 115, 116, 117, 118, 119, 120, 121, 122, 48, 49, 50, 51, 52, 53, 54, 55, 56, 57, 95]⟩ r) = runeB r := by
  unfold runeAt runeB
  by_cases h : r < 128
  · rw [if_pos h, named_data, decide_eq_true h, Bool.true_and, ← named_mem]
    exact idx_mem (fun d hd => by have := named_lt d hd; omega) (by omega)
  · rw [if_neg h, decide_eq_false h]; rfl
set_option maxRecDepth 100000 in
set_option maxHeartbeats 1000000 in
theorem isNamed_is (r : Int) (h0 : 0 ≤ r) (w : World) : Calls Try.prog 79 #[.int .i32 r] w fun e w' => e = .returned (.bool (runeB r)) ∧ Below w.heap.size w w' := by
  have HR := Lib.hid (named_at r h0)
  have HI := Lib.hid (IndexRune_is _ named_asc (show 4 ≤ 63 by omega) (show 63 ≤ 281474976710656 by omega) r h0 w)
  have HC : Hid (Calls Try.prog 86 #[.string ⟨#[65, 66, 67, 68, 69, 70, 71, 72, 73, 74, 75, 76, 77, 78, 79, 80, 81, 82, 83, 84, 85, 86, 87, 88, 89, 90, 97, 98, 99, 100, 101, 102, 103, 104, 105, 106, 107, 108, 109, 110, 111, 112, 113, 114, 115, 116, 117, 118, 119, 120, 121, 122, 48, 49, 50, 51, 52, 53, 54, 55, 56, 57, 95]⟩, .int .i32 r] w fun e w' => e = .returned (.bool (runeB r)) ∧ Below w.heap.size w w') := Lib.hid (by
    generalize runeAt _ r = z at *
    go_enter Try.func86, Try.ntmps86
    go_wp2_with fail
    refine HI.out.mono ?_
    rintro e w1 ⟨rfl, hb⟩
    have HB := Lib.hid hb
    clear hb
    go_wp2_with fail
    go_ret
    exact ⟨by rw [← HR.out]; rfl, HB.out⟩)
  clear HI HR
  go_enter Try.func79, Try.ntmps79
  go_wp2_with fail
  refine HC.out.mono ?_
  rintro e w1 ⟨rfl, hb⟩
  have HB := Lib.hid hb
  clear hb
  go_wp2_with fail
  go_ret
  exact ⟨rfl, HB.out⟩
theorem nameRun_take {l : List Nat} {i : Nat} (h : ∀ c ∈ l.take i, nameB c = true) (hs : nameNext (l.drop i) = false) : nameRun l = l.take i := by
  have := nameRun_stop h hs
  rwa [List.take_append_drop] at this
theorem run_till_str (l : List Nat) (k : Nat) (hk : k ≤ l.length) (W : World) : (Instr.slice 9 (.string (str l)) none (some (.int .i64 (k : Nat))) none).run Try.prog W = .ok (.string (str (l.take k))) W := by
  have hs := str_len l
  rw [run_slice_string_h (P := Try.prog) W 9 (str l) Try.underlying9 .i64 (k : Nat) (by omega) (by omega), Int.toNat_natCast]
  exact congrArg (fun s => Result.ok (Value.string s) W) (str_take l k)
set_option maxRecDepth 100000 in
set_option maxHeartbeats 4000000 in
theorem name_is (l : List Nat) (hl : ∀ c ∈ l, c < 256) (hn : l.length ≤ 281474976710656) (w : World) :
    Calls Try.prog 69 #[.string (str l)] w fun e w' => e = .returned (.string (str (nameRun l))) ∧ Below w.heap.size w w' := by
  have hsz := str_len l
  have HL := Lib.hid hl
  clear hl
  go_enter Try.func69, Try.ntmps69
  go_wp2_with fail
  go_loopw [] (fun wr => ∃ i : Nat, i ≤ l.length ∧ wr.heap[w.heap.size]? = some (.stringIter (str l) i) ∧ Hid (Below w.heap.size w wr ∧ ∀ c ∈ l.take i, nameB c = true)) (fun wr => l.length - wr.iterPos w.heap.size)
  case atStart => exact ⟨0, by omega, World.iter_heap w (str l) 0, Lib.hid ⟨(Below.refl _ w).alloc (Nat.le_refl _) _, by simp⟩⟩
  case round =>
    obtain ⟨i, hi, hit, HB⟩ := hrel
    have hpos : wr.iterPos w.heap.size = i := by simp [World.iterPos, hit]
    have hnil : wr.heap.size > w.heap.size := lt_of_heap hit
    by_cases hlt : i < l.length
    · obtain ⟨c, hc⟩ : ∃ c, l[i]? = some c := ⟨_, List.getElem?_eq_getElem hlt⟩
      obtain ⟨hks, hx⟩ := str_at HL.out hc
      have hcb := HL.out c (List.mem_of_getElem? hc)
      have HC := Lib.hid hc
      have HT := Lib.hid (run_till_str l i hi)
      by_cases ha : c < 128
      · have hnx := fun ty => Lib.run_next_ascii_at (P := Try.prog) wr w.heap.size (str l) i ty hit hks (by omega)
        rw [hx] at hnx
        have hit2 := Lib.iterAt_heap wr w.heap.size (str l) i (i + 1) hit
        have HB2 := Lib.hid (Lib.below_iterAt HB.out.1 (Nat.le_refl _) (str l) (i + 1))
        have hb := HB.out.2
        generalize wr.iterAt w.heap.size (str l) (i + 1) = w2 at *
        have HN := Lib.hid (isNamed_is (c : Nat) (by omega) w2)
        have hrb : runeB (c : Nat) = nameB c := by unfold runeB; rw [decide_eq_true (by omega), Bool.true_and, Int.toNat_natCast]
        rw [hrb] at HN
        have HBX := Lib.hid hb
        clear hc hb hrb
        cases hnb : nameB c with
        | true =>
          rw [hnb] at HN
          have HNB := Lib.hid hnb
          clear hnb
          go_wp2_with fail
          refine HN.out.mono ?_
          rintro e w3 ⟨rfl, hb3⟩
          have hit3 : w3.heap[w.heap.size]? = some (.stringIter (str l) (i + 1)) := (hb3.block _ (lt_of_heap hit2)).trans hit2
          have hpos3 : w3.iterPos w.heap.size = i + 1 := by simp [World.iterPos, hit3]
          have HB3 := Lib.hid (HB2.out.trans (hb3.mono HB2.out.size))
          clear hb3
          go_wp2_with fail
          go_roundw
          case rel => exact ⟨i + 1, by omega, hit3, Lib.hid ⟨HB3.out, by
            intro d hd
            rw [List.take_add_one, HC.out] at hd
            rcases List.mem_append.1 hd with hd | hd
            · exact HBX.out d hd
            · simp at hd; rw [hd]; exact HNB.out⟩⟩
          case measure => rw [hpos, hpos3]; omega
        | false =>
          rw [hnb] at HN
          have HE : Hid (nameRun l = l.take i) := Lib.hid (nameRun_take HBX.out (by rw [nameNext_drop HC.out, hnb]))
          clear hnb
          go_wp2_with fail
          refine HN.out.mono ?_
          rintro e w3 ⟨rfl, hb3⟩
          have HB3 := Lib.hid (HB2.out.trans (hb3.mono HB2.out.size))
          have hT := HT.out
          clear hb3
          go_wp2_with fail
          go_ret
          exact ⟨by rw [HE.out]; rfl, HB3.out⟩
      · have hnx := fun ty => Lib.run_next_any_at (P := Try.prog) wr w.heap.size (str l) i ty hit hks
        obtain ⟨hd1, -⟩ := decode_high (str l) i hks (by omega)
        have HNB : Hid (nameB c = false) := Lib.hid (by unfold nameB; rw [decide_eq_false]; omega)
        generalize hdec : Utf8.decode (str l) i = dec at *
        obtain ⟨r, m⟩ := dec
        dsimp only at hnx hd1
        have HB2 := Lib.hid (Lib.below_iterAt HB.out.1 (Nat.le_refl _) (str l) (i + m))
        have HE : Hid (nameRun l = l.take i) := Lib.hid (nameRun_take HB.out.2 (by rw [nameNext_drop HC.out, HNB.out]))
        generalize wr.iterAt w.heap.size (str l) (i + m) = w2 at *
        have HN := Lib.hid (isNamed_is (r : Nat) (by omega) w2)
        have hrb : runeB (r : Nat) = false := by unfold runeB; rw [decide_eq_false (by omega), Bool.false_and]
        rw [hrb] at HN
        clear hc hrb hdec hd1
        go_wp2_with fail
        refine HN.out.mono ?_
        rintro e w3 ⟨rfl, hb3⟩
        have HB3 := Lib.hid (HB2.out.trans (hb3.mono HB2.out.size))
        have hT := HT.out
        clear hb3
        go_wp2_with fail
        go_ret
        exact ⟨by rw [HE.out]; rfl, HB3.out⟩
    · have hnx := fun ty => Lib.run_next_end_at (P := Try.prog) wr w.heap.size (str l) i ty hit (by rw [hsz]; exact hlt)
      have hil : i = l.length := by omega
      have HE : Hid (nameRun l = l) := Lib.hid (by
        have h := nameRun_take HB.out.2 (by rw [List.drop_of_length_le (by omega)]; rfl)
        rwa [List.take_of_length_le (by omega)] at h)
      clear hil
      go_wp2_with fail
      go_ret
      exact ⟨by rw [HE.out]; rfl, HB.out.1⟩
end Go.Proofs.Ytphmhglebeapaaa
