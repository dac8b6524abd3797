/-
  The document's Print.
  Conditions: bytes, commands, words, parts and bytes of at most 4000 in all (12001 as weighed).
-/
import Derived.Test.YtphmhglebeapaaaTRPWord
import Derived.Test.YtphmhglebeapaaaTclLs
namespace Go.Proofs.Ytphmhglebeapaaa
open Go.RowKit

/-! ### How much there is -/
theorem weight_has : ∀ (ps : List Prt), ps.length ≤ weight ps ∧ ∀ p ∈ ps, p.s.length ≤ weight ps
  | [] => ⟨by simp, fun p h => by simp at h⟩
  | a :: ps => by
    have ih := weight_has ps
    rw [weight_cons, List.length_cons]
    refine ⟨by omega, fun p hp => ?_⟩
    rcases List.mem_cons.1 hp with h | h
    · rw [h]; omega
    · have := ih.2 p h; omega
theorem weightW_has : ∀ (ws : List Wrd), ws.length ≤ weightW ws ∧ ∀ x ∈ ws, weight x.parts ≤ weightW ws
  | [] => ⟨by simp, fun p h => by simp at h⟩
  | a :: ws => by
    have ih := weightW_has ws
    rw [weightW_cons, List.length_cons]
    refine ⟨by omega, fun p hp => ?_⟩
    rcases List.mem_cons.1 hp with h | h
    · rw [h]; omega
    · have := ih.2 p h; omega
theorem weightC_cons (c : Cmd) (l : List Cmd) : weightC (c :: l) = 1 + weightW c.words + weightC l := by simp [weightC]
theorem weightC_has : ∀ (l : List Cmd), l.length ≤ weightC l ∧ ∀ c ∈ l, weightW c.words ≤ weightC l
  | [] => ⟨by simp, fun p h => by simp at h⟩
  | a :: l => by
    have ih := weightC_has l
    rw [weightC_cons, List.length_cons]
    refine ⟨by omega, fun p hp => ?_⟩
    rcases List.mem_cons.1 hp with h | h
    · rw [h]; omega
    · have := ih.2 p h; omega
theorem weightW_take : ∀ (ws : List Wrd) (k : Nat), weightW (ws.take k) ≤ weightW ws
  | [], k => by simp
  | a :: ws, 0 => by simp [weightW]
  | a :: ws, k + 1 => by rw [List.take_succ_cons, weightW_cons, weightW_cons]; have := weightW_take ws k; omega
theorem weightC_take : ∀ (l : List Cmd) (k : Nat), weightC (l.take k) ≤ weightC l
  | [], k => by simp
  | a :: l, 0 => by simp [weightC]
  | a :: l, k + 1 => by rw [List.take_succ_cons, weightC_cons, weightC_cons]; have := weightC_take l k; omega
theorem wordsT_snoc (x : Wrd) : ∀ ws : List Wrd, wordsT (ws ++ [x]) = wordsT ws ++ (if 0 < ws.length then [32] else []) ++ wordT x
  | [] => by simp [wordsT]
  | [a] => by simp [wordsT]
  | a :: b :: ws => by
    have ih := wordsT_snoc x (b :: ws)
    rw [if_pos (by simp)] at ih ⊢
    rw [List.cons_append, List.cons_append, wordsT, ← List.cons_append, ih, wordsT]
    simp
theorem wordsT_take {ws : List Wrd} {k : Nat} {x : Wrd} (h : ws[k]? = some x) : wordsT (ws.take (k + 1)) = wordsT (ws.take k) ++ (if 0 < k then [32] else []) ++ wordT x := by
  have hk := (List.getElem?_eq_some_iff.1 h).1
  rw [List.take_succ_eq_append_getElem hk, (List.getElem?_eq_some_iff.1 h).2, wordsT_snoc, List.length_take, Nat.min_eq_left (by omega)]
theorem printT_take {l : List Cmd} {i : Nat} {c : Cmd} (h : l[i]? = some c) : printT (l.take (i + 1)) = printT (l.take i) ++ wordsT c.words ++ [10] := by
  have hi := (List.getElem?_eq_some_iff.1 h).1
  rw [List.take_succ_eq_append_getElem hi, (List.getElem?_eq_some_iff.1 h).2]
  simp [printT, cmdT]
/-- What may be printed. -/
def printOk (l : List Cmd) : Prop := ∀ c ∈ l, cmdOk c
/-- What prints commands: the text, or that it may not be. -/
def PrintTo (w : World) (l : List Cmd) (e : Ending) (w' : World) : Prop :=
  ∃ (t : List Nat) (r : Int), e = .returned (.tuple #[.string (str t), .int .i64 r]) ∧ (printOk l → r = 0 ∧ t = printT l) ∧ (¬ printOk l → r = 2 ∧ t = []) ∧ Below w.heap.size w w'
theorem PrintTo.no {w w' : World} {l : List Cmd} (h : ¬ printOk l) (hb : Below w.heap.size w w') : PrintTo w l (.returned (.tuple #[.string ⟨#[]⟩, .int .i64 2])) w' :=
  ⟨[], 2, by rw [str_nil], fun k => absurd k h, fun _ => ⟨rfl, rfl⟩, hb⟩
/-- What is small enough to be looked at. -/
def smallC (l : List Cmd) : Prop := weightC l ≤ 12001 ∧ ∀ c ∈ l, bytesC c

set_option maxRecDepth 100000 in
set_option maxHeartbeats 4000000 in
theorem RPrint_is {S : Nat → Prop} {w : World} (l : List Cmd) {va : Value} (hx : Cmds S w va l) (hf : smallC l) :
    Calls Try.prog 18 #[va] w (PrintTo w l) := by
  obtain ⟨A, ca, rfl, hca⟩ := hx.form
  have HX := Lib.hid hx
  have HF := Lib.hid hf
  have hl1 : l.length ≤ 12001 := by have := (weightC_has l).1; have := hf.1; omega
  have HLN : Hid (∀ i, (printT (l.take i)).length ≤ 48005) := Lib.hid fun i => by have := printT_len (l.take i); have := weightC_take l i; have := hf.1; omega
  clear hx hf
  go_enter Try.func18, Try.ntmps18
  go_wp2_with fail
  go_loopw [4, 5] (fun sv iv wr => ∃ i : Nat, i ≤ l.length ∧ iv = .int .i64 (i : Nat) ∧ sv = .string (str (printT (l.take i))) ∧ Hid (Below w.heap.size w wr) ∧ Hid (∀ j c, j < i → l[j]? = some c → cmdOk c)) (fun _ iv _ => l.length - (intOf iv).toNat)
  case atStart => exact ⟨0, by omega, rfl, rfl, Lib.hid (Below.refl _ w), Lib.hid fun j c h => by omega⟩
  case round =>
    obtain ⟨i, hi, rfl, rfl, HW, HE⟩ := hrel
    by_cases hlt : i < l.length
    · have r1 : decide ((i : Int) < (l.length : Int)) = true := decide_eq_true (by omega)
      have r1n : decide (i < l.length) = true := decide_eq_true hlt
      have HXI := Lib.hid (List.getElem?_eq_getElem hlt)
      have hmem := List.getElem_mem hlt
      obtain ⟨b1, o1, v1, rfl, _, x1, X1⟩ := cmds_at (SlI.below cmd_ok HX.out HW.out) hlt
      obtain ⟨A1, k1, rfl, _⟩ := X1.form
      have i1 : (i : Int) < (l.length : Int) := by omega
      generalize l[i] = x at *
      have HX1 := Lib.hid X1
      have hwx : weightW x.words ≤ 12001 := by have := (weightC_has l).2 x hmem; have := HF.out.1; omega
      have hnx : x.words.length ≤ 12001 := by have := (weightW_has x.words).1; omega
      have HBX := Lib.hid (HF.out.2 x hmem)
      have HWX := Lib.hid hwx
      have HPT := Lib.hid (printT_take HXI.out)
      have hzl := HLN.out i
      have hz2 := HLN.out (i + 1)
      clear X1 hmem hwx
      obtain ⟨Z, hZ⟩ : ∃ Z, Z = printT (l.take i) := ⟨_, rfl⟩
      rw [← hZ] at HPT hzl ⊢
      obtain ⟨Z', hZ'⟩ : ∃ Z', Z' = printT (l.take (i + 1)) := ⟨_, rfl⟩
      rw [← hZ'] at HPT hz2
      have HZ := Lib.hid hZ'
      clear hZ hZ'
      by_cases h0 : x.words.length = 0
      · have q3 : ((x.words.length : Int) == 0) = true := beq_iff_eq.2 (by omega)
        have HS : Hid (¬ printOk l) := Lib.hid fun h => (h x (List.mem_of_getElem? HXI.out)).1 (List.length_eq_zero_iff.1 h0)
        clear h0
        go_wp2_with fail
        go_ret2
        exact PrintTo.no HS.out HW.out
      · have q3 : ((x.words.length : Int) == 0) = false := beq_eq_false_iff_ne.2 (by omega)
        have HN0 := Lib.hid h0
        clear h0
        have HC1 := Lib.hid x1
        generalize wr = w2 at *
        go_wp2_with fail
        go_loopw [4, 6] (fun sv kv wi => ∃ k : Nat, k ≤ x.words.length ∧ kv = .int .i64 (k : Nat) ∧ sv = .string (str (Z ++ wordsT (x.words.take k))) ∧ Hid (Below w.heap.size w wi ∧ Below w2.heap.size w2 wi) ∧ Hid (∀ j p, j < k → x.words[j]? = some p → wordOk p)) (fun _ kv _ => x.words.length - (intOf kv).toNat)
        case atStart => exact ⟨0, by omega, rfl, by simp [wordsT], Lib.hid ⟨HW.out, Below.refl _ w2⟩, Lib.hid fun j p h => by omega⟩
        case round =>
          obtain ⟨k, hk, rfl, rfl, HWI, HEK⟩ := hrel
          have x2 := (HWI.out.2.cell (p := ⟨b1, o1 + i * 2 + 1, none⟩) (World.block_lt_of_cell? _ _ HC1.out)).trans HC1.out
          by_cases hkt : k < x.words.length
          · have r2 : decide ((k : Int) < (x.words.length : Int)) = true := decide_eq_true (by omega)
            have r2n : decide (k < x.words.length) = true := decide_eq_true hkt
            have HPI := Lib.hid (List.getElem?_eq_getElem hkt)
            have hmk := List.getElem_mem hkt
            obtain ⟨b3, o3, v3, e3, p0, p1, p2, P3⟩ := words_at (SlI.below wrd_ok HX1.out HWI.out.2) hkt
            subst e3
            have i3 : (k : Int) < (x.words.length : Int) := by omega
            have HTT := Lib.hid (wordsT_take HPI.out)
            generalize x.words[k] = p at *
            have hwp : weight p.parts ≤ 12001 := by have := (weightW_has x.words).2 p hmk; have := HWX.out; omega
            have HSW := Lib.hid (Rpword_is p P3 (by have := (weight_has p.parts).1; omega) (HBX.out p hmk) (fun y hy => by have := (weight_has p.parts).2 y hy; omega))
            have hzk : (wordsT (x.words.take k)).length ≤ 48005 := by have := wordsT_len (x.words.take k); have := weightW_take x.words k; have := HWX.out; omega
            have hzp := wordT_len p
            clear P3 hmk
            obtain ⟨Y, hY⟩ : ∃ Y, Y = wordsT (x.words.take k) := ⟨_, rfl⟩
            rw [← hY] at HTT hzk ⊢
            obtain ⟨Y', hY'⟩ : ∃ Y', Y' = wordsT (x.words.take (k + 1)) := ⟨_, rfl⟩
            rw [← hY'] at HTT
            have HY := Lib.hid hY'
            clear hY hY'
            go_wp2_with fail
            refine HSW.out.mono ?_
            rintro r w5 ⟨t, rb, rfl, hok, hT, hb5⟩
            have HW5 : Hid (Below w.heap.size w w5 ∧ Below w2.heap.size w2 w5) := Lib.hid ⟨HWI.out.1.trans (hb5.mono HWI.out.1.size), HWI.out.2.trans (hb5.mono HWI.out.2.size)⟩
            clear hb5 HSW HWI p0 p1 p2 x2
            cases rb with
            | false =>
              have HS : Hid (¬ printOk l) := Lib.hid fun h => by
                have h1 := (h x (List.mem_of_getElem? HXI.out)).2 p (List.mem_of_getElem? HPI.out)
                have h2 := hok.2 h1
                cases h2
              clear hok hT
              go_wp2_with fail
              go_ret2
              exact PrintTo.no HS.out HW5.out.1
            | true =>
              have HOK := Lib.hid (hok.1 rfl)
              have ht := hT rfl
              subst ht
              clear hok hT
              have HEN : Hid (∀ j q, j < k + 1 → x.words[j]? = some q → wordOk q) := Lib.hid fun j q hj hq => by
                rcases Nat.lt_or_ge j k with h | h
                · exact HEK.out j q h hq
                · have e : j = k := by omega
                  rw [e, HPI.out] at hq
                  injection hq with hq
                  rw [← hq]; exact HOK.out
              generalize wordT p = t at *
              by_cases hk0 : k = 0
              · have r3 : decide ((0 : Int) < (k : Int)) = false := decide_eq_false (by omega)
                have r3n : decide (0 < k) = false := decide_eq_false (by omega)
                have HQ : Hid (Y ++ t = Y') := Lib.hid (by rw [HTT.out, if_neg (by omega)]; simp)
                have hcat : str (Z ++ Y) ++ str t = str (Z ++ Y') := by rw [str_app, List.append_assoc, HQ.out]
                have hz : (str (Z ++ Y)).size + (str t).size ≤ 9223372036854775807 := by rw [str_len, str_len, List.length_append]; omega
                clear hk0
                go_wp2_with fail
                go_roundw
                case rel => exact ⟨k + 1, by omega, by go_num, by rw [HY.out], HW5, HEN⟩
                case measure => simp [intOf]; omega
              · have r3 : decide ((0 : Int) < (k : Int)) = true := decide_eq_true (by omega)
                have r3n : decide (0 < k) = true := decide_eq_true (by omega)
                have HQ : Hid (Y ++ [32] ++ t = Y') := Lib.hid (by rw [HTT.out, if_pos (by omega)])
                have hcat1 : str (Z ++ Y) ++ ⟨#[32]⟩ = str (Z ++ Y ++ [32]) := str_app (Z ++ Y) [32]
                have hz : (str (Z ++ Y)).size + (⟨#[32]⟩ : ByteArray).size ≤ 9223372036854775807 := by rw [str_len, List.length_append]; show Z.length + Y.length + 1 ≤ _; omega
                obtain ⟨V, hV⟩ : ∃ V, V = Z ++ Y ++ [32] := ⟨_, rfl⟩
                rw [← hV] at hcat1
                have hcat2 : str V ++ str t = str (Z ++ Y') := by rw [hV, str_app, ← HQ.out]; simp
                have hz1 : (str V).size + (str t).size ≤ 9223372036854775807 := by rw [hV, str_len, str_len]; simp; omega
                clear hk0 hV
                go_wp2_with fail
                go_roundw
                case rel => exact ⟨k + 1, by omega, by go_num, by rw [HY.out], HW5, HEN⟩
                case measure => simp [intOf]; omega
          · have r2 : decide ((k : Int) < (x.words.length : Int)) = false := decide_eq_false (by omega)
            have r2n : decide (k < x.words.length) = false := decide_eq_false hkt
            have HSX : Hid (cmdOk x) := Lib.hid ⟨fun e => HN0.out (by rw [e]; rfl), fun p hp => by
              obtain ⟨j, hj⟩ := List.getElem?_of_mem hp
              exact HEK.out j p (by have := (List.getElem?_eq_some_iff.1 hj).1; omega) hj⟩
            have htk : x.words.take k = x.words := List.take_of_length_le (by omega)
            have hzk : (wordsT x.words).length ≤ 48005 := by have := wordsT_len x.words; have := HWX.out; omega
            rw [htk]
            have hcat : str (Z ++ wordsT x.words) ++ ⟨#[10]⟩ = str Z' := by rw [HPT.out]; exact str_app (Z ++ wordsT x.words) [10]
            have hz : (str (Z ++ wordsT x.words)).size + (⟨#[10]⟩ : ByteArray).size ≤ 9223372036854775807 := by rw [str_len, List.length_append]; show Z.length + (wordsT x.words).length + 1 ≤ _; omega
            have HEN : Hid (∀ j q, j < i + 1 → l[j]? = some q → cmdOk q) := Lib.hid fun j q hj hq => by
              rcases Nat.lt_or_ge j i with h | h
              · exact HE.out j q h hq
              · have e : j = i := by omega
                rw [e, HXI.out] at hq
                injection hq with hq
                rw [← hq]; exact HSX.out
            clear hkt htk
            generalize Z ++ wordsT x.words = V at *
            go_wp2_with fail
            go_roundw
            case rel => exact ⟨i + 1, by omega, by go_num, by rw [HZ.out], Lib.hid HWI.out.1, HEN⟩
            case measure => simp [intOf]; omega
    · have r1 : decide ((i : Int) < (l.length : Int)) = false := decide_eq_false (by omega)
      have r1n : decide (i < l.length) = false := decide_eq_false hlt
      have htk : l.take i = l := List.take_of_length_le (by omega)
      have hz0 := HLN.out i
      have HS : Hid (printOk l) := Lib.hid fun c hc => by
        obtain ⟨j, hj⟩ := List.getElem?_of_mem hc
        exact HE.out j c (by have := (List.getElem?_eq_some_iff.1 hj).1; omega) hj
      rw [htk] at hz0 ⊢
      clear hlt htk
      obtain ⟨Z, hZ⟩ : ∃ Z, Z = printT l := ⟨_, rfl⟩
      rw [← hZ] at hz0 ⊢
      have HZ := Lib.hid hZ
      have hsz := str_len Z
      have q5 : decide ((16777216 : Int) < (Z.length : Int)) = false := decide_eq_false (by omega)
      have q5n : decide (16777216 < Z.length) = false := decide_eq_false (by omega)
      clear hZ
      go_wp2_with fail
      go_ret2
      exact ⟨_, 0, rfl, fun _ => ⟨rfl, HZ.out⟩, fun h => absurd HS.out h, HW.out⟩
end Go.Proofs.Ytphmhglebeapaaa
