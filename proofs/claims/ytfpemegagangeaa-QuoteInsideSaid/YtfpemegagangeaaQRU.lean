/-
  The document's Unquote.
  Conditions: at most 140737488351232 bytes.
-/
import Derived.Test.YtfpemegagangeaaQRQ
namespace Go.Proofs.Ytfpemegagangeaa
open Go.RowKit

/-- What Unquote tells. -/
def UnqTo (w : World) (l : List Nat) (e : Ending) (w' : World) : Prop :=
  ∃ A n c, e = .returned (.tuple #[.slice A n c, .int .i64 ((unquoteL l).2.1 : Nat), .int .i64 ((unquoteL l).2.2 : Nat)]) ∧ Rd w' (.slice A n c) (bv (unquoteL l).1) ∧ n = (unquoteL l).1.length ∧ Below w.heap.size w w'
theorem UnqTo.bad {w w' : World} {l : List Nat} {p e : Nat} (h : unquoteL l = ([], p, e)) (hb : Below w.heap.size w w') : UnqTo w l (.returned (.tuple #[.slice none 0 0, .int .i64 (p : Nat), .int .i64 (e : Nat)])) w' :=
  ⟨none, 0, 0, by rw [h], by rw [h]; exact (Row.nil w' 5).rd, by rw [h]; rfl, hb⟩
theorem UnqTo.good {w w' : World} {l out : List Nat} {A : Option Addr} {c : Nat} {g : Option Nat} (h : unquoteL l = (out, 0, 0)) (hr : RowAt w w' A c g out) : UnqTo w l (.returned (.tuple #[.slice A out.length c, .int .i64 0, .int .i64 0])) w' :=
  ⟨A, out.length, c, by rw [h]; rfl, by rw [h]; exact hr.1.rd, by rw [h], hr.2.2⟩

/-! ### One step of what is told -/
theorem unS_end {l : List Nat} {i : Nat} (hi : i = l.length) (out : List Nat) : unS (l.drop i) i out = ([], 0, 5) := by
  rw [hi, List.drop_length, unS]
theorem drop_cons {l : List Nat} {i c : Nat} (h : l[i]? = some c) : l.drop i = c :: l.drop (i + 1) := by
  have hlt := (List.getElem?_eq_some_iff.1 h).1
  rw [List.drop_eq_getElem_cons hlt, (List.getElem?_eq_some_iff.1 h).2]
theorem drop_nil {l : List Nat} {i : Nat} : l.drop (i + 1) = [] ↔ l.length ≤ i + 1 := List.drop_eq_nil_iff
theorem unS_close {l : List Nat} {i : Nat} (h : l[i]? = some 34) (out : List Nat) : unS (l.drop i) i out = if i + 1 = l.length then (out, 0, 0) else ([], i + 1, 4) := by
  have hlt := (List.getElem?_eq_some_iff.1 h).1
  rw [drop_cons h, unS, if_pos rfl]
  by_cases he : i + 1 = l.length
  · rw [if_pos (drop_nil.2 (by omega)), if_pos he]
  · rw [if_neg (fun e => by have := drop_nil.1 e; omega), if_neg he]
theorem unS_open {l : List Nat} {i : Nat} (h : l[i]? = some 91) (out : List Nat) : unS (l.drop i) i out = ([], i, 4) := by
  rw [drop_cons h, unS, if_neg (by omega), if_pos rfl]
theorem unS_name {l : List Nat} {i : Nat} (h : l[i]? = some 36) {d : Nat} (hd : l[i + 1]? = some d) (hn : nameB d = true) (out : List Nat) : unS (l.drop i) i out = ([], i, 4) := by
  rw [drop_cons h, unS, if_neg (by omega), if_neg (by omega), if_pos ⟨rfl, by rw [drop_cons hd]; exact hn⟩]
theorem unS_short {l : List Nat} {i : Nat} (h : l[i]? = some 92) (he : i + 1 = l.length) (out : List Nat) : unS (l.drop i) i out = ([], 0, 5) := by
  rw [drop_cons h, unS, if_neg (by omega), if_neg (by omega), if_neg (fun e => by omega), if_pos rfl, if_pos (drop_nil.2 (by omega))]
theorem unS_esc {l : List Nat} {i : Nat} (h : l[i]? = some 92) (he : i + 1 < l.length) (out : List Nat) : unS (l.drop i) i out = unS (l.drop (i + 1 + (escL (l.drop (i + 1))).2)) (i + 1 + (escL (l.drop (i + 1))).2) (out ++ [(escL (l.drop (i + 1))).1]) := by
  rw [drop_cons h, unS, if_neg (by omega), if_neg (by omega), if_neg (fun e => by omega), if_pos rfl, if_neg (fun e => by have := drop_nil.1 e; omega), List.drop_drop]
theorem unS_self {l : List Nat} {i c : Nat} (h : l[i]? = some c) (h1 : c ≠ 34) (h2 : c ≠ 91) (h3 : c ≠ 36 ∨ ∀ d, l[i + 1]? = some d → nameB d = false) (h4 : c ≠ 92) (out : List Nat) : unS (l.drop i) i out = unS (l.drop (i + 1)) (i + 1) (out ++ [c]) := by
  rw [drop_cons h, unS, if_neg h1, if_neg h2, if_neg, if_neg h4]
  rintro ⟨e, hn⟩
  rcases h3 with h3 | h3
  · exact h3 e
  · cases hd : l[i + 1]? with
    | none =>
      have : l.drop (i + 1) = [] := drop_nil.2 (by simpa using hd)
      rw [this] at hn; cases hn
    | some d =>
      rw [drop_cons hd] at hn
      have := h3 d hd
      simp [nameNext, this] at hn
theorem unq_start {l : List Nat} (h : l[0]? = some 34) : unquoteL l = unS (l.drop 1) 1 [] := by
  cases l with
  | nil => simp at h
  | cons c r => simp at h; subst h; rfl
theorem unq_other {l : List Nat} (h : l[0]? ≠ some 34) : unquoteL l = ([], 0, 4) := by
  cases l with
  | nil => rfl
  | cons c r => simp at h; simp [unquoteL, h]
set_option maxRecDepth 100000 in
set_option maxHeartbeats 4000000 in
theorem RUnquote_is (l : List Nat) (hl : ∀ c ∈ l, c < 256) (hn : l.length ≤ 140737488351232) (w : World) : Calls Try.prog 17 #[.string (str l)] w (UnqTo w l) := by
  have hsz := str_len l
  have HL := Lib.hid hl
  clear hl
  by_cases h0 : l[0]? = some 34
  case neg =>
    have HU := Lib.hid (unq_other h0)
    cases hl0 : l[0]? with
    | none =>
      have hz : l.length = 0 := by have := List.getElem?_eq_none_iff.1 hl0; omega
      have hsz0 : (str l).size = 0 := by rw [hsz, hz]
      clear hsz hz hn h0 hl0
      go_enter Try.func17, Try.ntmps17
      go_wp2_with fail
      go_ret3
      exact UnqTo.bad HU.out (Below.refl _ _)
    | some x =>
      obtain ⟨hks, hx⟩ := str_at HL.out hl0
      have hne : x ≠ 34 := fun e => h0 (by rw [hl0, e])
      have e34 : ((x : Int) != 34) = true := by simp; omega
      have hlt := (List.getElem?_eq_some_iff.1 hl0).1
      have ez : decide (l.length = 0) = false := decide_eq_false (by omega)
      have ez2 : ((l.length : Int) == 0) = false := beq_eq_false_iff_ne.2 (by omega)
      clear h0 hl0 hne
      go_enter Try.func17, Try.ntmps17
      go_wp2_with fail
      go_ret3
      exact UnqTo.bad HU.out (Below.refl _ _)
  case pos =>
    have HU := Lib.hid (unq_start h0)
    obtain ⟨hks, hx⟩ := str_at HL.out h0
    have hlt0 := (List.getElem?_eq_some_iff.1 h0).1
    obtain ⟨x0, hx0⟩ : ∃ x0 : Nat, x0 = 34 := ⟨_, rfl⟩
    rw [← hx0] at hx
    have e34 : ((x0 : Int) != 34) = false := by simp [hx0]
    have ez : decide (l.length = 0) = false := decide_eq_false (by omega)
    have ez2 : ((l.length : Int) == 0) = false := beq_eq_false_iff_ne.2 (by omega)
    clear h0 hx0
    go_enter Try.func17, Try.ntmps17
    go_wp2_with fail
    go_loopw [5, 6] (fun o a wr => ∃ (i : Nat) (out : List Nat) (A : Option Addr) (c : Nat) (g : Option Nat), 1 ≤ i ∧ i ≤ l.length ∧ a = .int .i64 i ∧ o = .slice A out.length c ∧ Hid (RowAt w wr A c g out ∧ unquoteL l = unS (l.drop i) i out ∧ out.length ≤ i)) (fun _ a _ => l.length - (intOf a).toNat)
    case atStart => exact ⟨1, [], none, 0, none, by omega, by omega, rfl, rfl, Lib.hid ⟨RowAt.nil w, HU.out, by simp⟩⟩
    case round =>
      obtain ⟨i, out, A, c, g, hi1, hi, rfl, rfl, HI⟩ := hrel
      have HR := Lib.hid HI.out.1
      have HB : Hid (Below wr.heap.size wr wr) := Lib.hid (Below.refl _ _)
      have hol := HI.out.2.2
      by_cases hlt : i < l.length
      · obtain ⟨x, hx1⟩ : ∃ x, l[i]? = some x := ⟨_, List.getElem?_eq_getElem hlt⟩
        have HXX := Lib.hid hx1
        obtain ⟨hks1, hxi⟩ := str_at HL.out hx1
        have hx6 := HL.out x (List.mem_of_getElem? hx1)
        clear hx1
        by_cases h34 : x = 34
        · have e34' : ((x : Int) == 34) = true := beq_iff_eq.2 (by omega)
          have HU2 := Lib.hid (HI.out.2.1.trans (unS_close (by rw [HXX.out, h34]) out))
          clear h34
          by_cases hlast : i + 1 = l.length
          · have q1 : ((i : Int) + 1 != (l.length : Int)) = false := by simp; omega
            have HU3 : Hid (unquoteL l = (out, 0, 0)) := Lib.hid (by rw [HU2.out, if_pos hlast])
            clear hlast
            go_wp2_with fail
            go_ret3
            exact UnqTo.good HU3.out HR.out
          · have q1 : ((i : Int) + 1 != (l.length : Int)) = true := by simp; omega
            have HU3 : Hid (unquoteL l = ([], i + 1, 4)) := Lib.hid (by rw [HU2.out, if_neg hlast])
            clear hlast
            go_wp2_with fail
            go_ret3
            exact UnqTo.bad HU3.out HR.out.2.2
        · have e34' : ((x : Int) == 34) = false := beq_eq_false_iff_ne.2 (by omega)
          by_cases h91 : x = 91
          · have e91 : ((x : Int) == 91) = true := beq_iff_eq.2 (by omega)
            have HU3 := Lib.hid (HI.out.2.1.trans (unS_open (by rw [HXX.out, h91]) out))
            clear h91 h34
            go_wp2_with fail
            go_ret3
            exact UnqTo.bad HU3.out HR.out.2.2
          · have e91 : ((x : Int) == 91) = false := beq_eq_false_iff_ne.2 (by omega)
            by_cases h36 : x = 36
            · have e36 : ((x : Int) == 36) = true := beq_iff_eq.2 (by omega)
              have e92 : ((x : Int) == 92) = false := beq_eq_false_iff_ne.2 (by omega)
              by_cases hn1 : i + 1 < l.length
              · have q1 : decide ((i : Int) + 1 < (l.length : Int)) = true := decide_eq_true (by omega)
                have q2 : decide (i + 1 < l.length) = true := decide_eq_true (by omega)
                obtain ⟨d, hd⟩ : ∃ d, l[i + 1]? = some d := ⟨_, List.getElem?_eq_getElem hn1⟩
                obtain ⟨hks2, hdi⟩ := str_at HL.out hd
                have HC := Lib.hid (RName_is d (HL.out d (List.mem_of_getElem? hd)) wr)
                by_cases hnm : nameB d = true
                · have HU3 := Lib.hid (HI.out.2.1.trans (unS_name (by rw [HXX.out, h36]) hd hnm out))
                  rw [hnm] at HC
                  clear h36 h34 h91 hd hnm
                  go_wp2_with fail
                  refine HC.out.mono ?_
                  rintro e w1 ⟨rfl, rfl⟩
                  go_wp2_with fail
                  go_ret3
                  exact UnqTo.bad HU3.out HR.out.2.2
                · have hnf : nameB d = false := by simpa using hnm
                  have HU2 := Lib.hid (HI.out.2.1.trans (unS_self HXX.out h34 h91 (.inr fun d' hd' => by rw [hd] at hd'; cases hd'; exact hnf) (by omega) out))
                  rw [hnf] at HC
                  clear h36 h34 h91 hd hnm hnf
                  go_wp2_with fail
                  refine HC.out.mono ?_
                  rintro e w1 ⟨rfl, rfl⟩
                  go_wp2_with (at_builtin; refine RowAt.wp HR.out (HB.out.alloc (Nat.le_refl _) _) rfl (.tmp 68) (.tmp 70) rfl rfl _ rfl [x] (Rd.ofBlk (al_at rfl) [x] rfl) (by simp; omega) ?_; intro A2 c2 W2 g2 X2 HX2 HR2)
                  have HX3 : Hid (X2.length = out.length + 1) := Lib.hid (by rw [HX2.out]; simp)
                  go_roundw
                  case rel => exact ⟨i + 1, X2, A2, c2, g2, by omega, by omega, by go_num, rfl, Lib.hid ⟨HR2.out, by rw [HX2.out]; exact HU2.out, by have := HX3.out; omega⟩⟩
                  case measure => simp [intOf]; omega
              · have q1 : decide ((i : Int) + 1 < (l.length : Int)) = false := decide_eq_false (by omega)
                have q2 : decide (i + 1 < l.length) = false := decide_eq_false (by omega)
                have HU2 := Lib.hid (HI.out.2.1.trans (unS_self HXX.out h34 h91 (.inr fun d' hd' => by have := (List.getElem?_eq_some_iff.1 hd').1; omega) (by omega) out))
                clear h36 h34 h91
                go_wp2_with (at_builtin; refine RowAt.wp HR.out (HB.out.alloc (Nat.le_refl _) _) rfl (.tmp 68) (.tmp 70) rfl rfl _ rfl [x] (Rd.ofBlk (al_at rfl) [x] rfl) (by simp; omega) ?_; intro A2 c2 W2 g2 X2 HX2 HR2)
                have HX3 : Hid (X2.length = out.length + 1) := Lib.hid (by rw [HX2.out]; simp)
                go_roundw
                case rel => exact ⟨i + 1, X2, A2, c2, g2, by omega, by omega, by go_num, rfl, Lib.hid ⟨HR2.out, by rw [HX2.out]; exact HU2.out, by have := HX3.out; omega⟩⟩
                case measure => simp [intOf]; omega
            · have e36 : ((x : Int) == 36) = false := beq_eq_false_iff_ne.2 (by omega)
              by_cases h92 : x = 92
              · have e92 : ((x : Int) == 92) = true := beq_iff_eq.2 (by omega)
                have HC := Lib.hid (REscape_is l HL.out (by omega) (i : Int) wr)
                by_cases hlast : i + 1 = l.length
                · have HU3 := Lib.hid (HI.out.2.1.trans (unS_short (by rw [HXX.out, h92]) hlast out))
                  have HE : Hid (escape l (i : Int) = (0, 0, 5)) := Lib.hid (by unfold escape; rw [Int.toNat_natCast, if_pos ⟨by omega, by omega, by rw [HXX.out, h92]⟩, if_pos hlast])
                  clear h36 h34 h91 h92 hlast
                  go_wp2_with fail
                  refine HC.out.mono ?_
                  rintro e w1 ⟨rfl, rfl⟩
                  rw [HE.out]
                  go_wp2_with fail
                  go_ret3
                  exact UnqTo.bad HU3.out HR.out.2.2
                · have hn1 : i + 1 < l.length := by omega
                  have HU0 := Lib.hid (HI.out.2.1.trans (unS_esc (by rw [HXX.out, h92]) hn1 out))
                  have HE := Lib.hid (escape_at hn1 (show l[i]? = some 92 by rw [HXX.out, h92]))
                  have hfit := escL_fits (r := l.drop (i + 1)) (fun e => by have := drop_nil.1 e; omega)
                  have hpos := escL_pos (l.drop (i + 1))
                  have hvb := escL_byte (r := l.drop (i + 1)) (fun c hc => HL.out c (List.mem_of_mem_drop hc))
                  rw [List.length_drop] at hfit
                  generalize (escL (l.drop (i + 1))).1 = v at *
                  generalize hm : (escL (l.drop (i + 1))).2 = m at *
                  have HU2 : Hid (unquoteL l = unS (l.drop (i + 1 + m)) (i + 1 + m) (out ++ [v])) := HU0
                  clear h36 h34 h91 h92 hlast hm
                  go_wp2_with fail
                  refine HC.out.mono ?_
                  rintro e w1 ⟨rfl, rfl⟩
                  rw [HE.out]
                  go_wp2_with (at_builtin; refine RowAt.wp HR.out (HB.out.alloc (Nat.le_refl _) _) rfl (.tmp 68) (.tmp 70) rfl rfl _ rfl [v] (Rd.ofBlk (al_at rfl) [v] rfl) (by simp; omega) ?_; intro A2 c2 W2 g2 X2 HX2 HR2)
                  have HX3 : Hid (X2.length = out.length + 1) := Lib.hid (by rw [HX2.out]; simp)
                  go_roundw
                  case rel => exact ⟨i + 1 + m, X2, A2, c2, g2, by omega, by omega, by go_num, rfl, Lib.hid ⟨HR2.out, by rw [HX2.out]; exact HU2.out, by have := HX3.out; omega⟩⟩
                  case measure => simp [intOf]; omega
              · have e92 : ((x : Int) == 92) = false := beq_eq_false_iff_ne.2 (by omega)
                have HU2 := Lib.hid (HI.out.2.1.trans (unS_self HXX.out h34 h91 (.inl h36) h92 out))
                clear h36 h34 h91 h92
                go_wp2_with (at_builtin; refine RowAt.wp HR.out (HB.out.alloc (Nat.le_refl _) _) rfl (.tmp 68) (.tmp 70) rfl rfl _ rfl [x] (Rd.ofBlk (al_at rfl) [x] rfl) (by simp; omega) ?_; intro A2 c2 W2 g2 X2 HX2 HR2)
                have HX3 : Hid (X2.length = out.length + 1) := Lib.hid (by rw [HX2.out]; simp)
                go_roundw
                case rel => exact ⟨i + 1, X2, A2, c2, g2, by omega, by omega, by go_num, rfl, Lib.hid ⟨HR2.out, by rw [HX2.out]; exact HU2.out, by have := HX3.out; omega⟩⟩
                case measure => simp [intOf]; omega
      · have hie : i = l.length := by omega
        have HU3 := Lib.hid (HI.out.2.1.trans (unS_end hie out))
        clear hie
        go_wp2_with fail
        go_ret3
        exact UnqTo.bad HU3.out HR.out.2.2
end Go.Proofs.Ytfpemegagangeaa
