/-
  The laws' alive; what fits; what is printed is parsed as it was.
  Conditions: those of each theorem.
-/
import Derived.Test.YtphmhglebeapaaaTclCon
import Derived.Test.YtphmhglebeapaaaTclGrt
import Derived.Test.YtphmhglebeapaaaTRPrint
import Derived.Test.YtphmhglebeapaaaTclLs
import Derived.Test.YtphmhglebeapaaaTcByt
namespace Go.Proofs.Ytphmhglebeapaaa
open Go.RowKit

def egT : List Nat := [115, 101, 110, 100, 32, 34, 97, 92, 110, 36, 120, 34, 32, 59, 32, 35, 32, 110, 111]
def egL : List Cmd := [⟨0, [⟨0, 0, [⟨false, [115, 101, 110, 100]⟩]⟩, ⟨5, 1, [⟨false, [97, 10]⟩, ⟨true, [120]⟩]⟩]⟩]
theorem egT_parse : parseR egT = (egL, 0, 0) := by
  simp [egT, egL, parseR, parseL, parseF, wordsF, wordS, quotS, bareS, oneS, escL, digs, octd, letter, nameRun, nameB, blankB, endB, stops, addP]
theorem egS_parse : parseR [123, 97] = ([], 0, 5) := by
  simp [parseR, parseL, parseF, wordsF, wordS, braceS, blankB, endB]
theorem egF_parse : parseR [34, 97, 34, 98] = ([], 3, 4) := by
  simp [parseR, parseL, parseF, wordsF, wordS, quotS, oneS, nameRun, nameB, blankB, endB, stops, addP]

set_option maxRecDepth 100000 in
set_option maxHeartbeats 4000000 in
theorem alive_true (w : World) : Calls Try.prog 13 #[] w fun e w' => e = .returned (.bool true) ∧ Below w.heap.size w w' := by
  have H1 : Hid (∀ W, Calls Try.prog 11 #[.string ⟨#[115, 101, 110, 100, 32, 34, 97, 92, 110, 36, 120, 34, 32, 59, 32, 35, 32, 110, 111]⟩] W fun r w' => ∃ v, r = .returned (.tuple #[v, .int .i64 0, .int .i64 0]) ∧ Cmds all w' v egL ∧ Below W.heap.size W w') := Lib.hid fun W => by
    have h := Parse_is (w := W) egT (by simp [egT]) (by simp [egT])
    rw [show str egT = ⟨#[115, 101, 110, 100, 32, 34, 97, 92, 110, 36, 120, 34, 32, 59, 32, 35, 32, 110, 111]⟩ from rfl] at h
    refine h.mono ?_
    rintro r w' ⟨v, hr, hc, hb⟩
    rw [egT_parse] at hr hc
    exact ⟨v, hr, hc, hb⟩
  have H2 : Hid (∀ W, Calls Try.prog 11 #[.string ⟨#[123, 97]⟩] W fun r w' => ∃ v, r = .returned (.tuple #[v, .int .i64 0, .int .i64 5]) ∧ Below W.heap.size W w') := Lib.hid fun W => by
    have h := Parse_is (w := W) [123, 97] (by simp) (by simp)
    rw [show str [123, 97] = ⟨#[123, 97]⟩ from rfl] at h
    refine h.mono ?_
    rintro r w' ⟨v, hr, hc, hb⟩
    rw [egS_parse] at hr
    exact ⟨v, hr, hb⟩
  have H3 : Hid (∀ W, Calls Try.prog 11 #[.string ⟨#[34, 97, 34, 98]⟩] W fun r w' => ∃ v, r = .returned (.tuple #[v, .int .i64 3, .int .i64 4]) ∧ Below W.heap.size W w') := Lib.hid fun W => by
    have h := Parse_is (w := W) [34, 97, 34, 98] (by simp) (by simp)
    rw [show str [34, 97, 34, 98] = ⟨#[34, 97, 34, 98]⟩ from rfl] at h
    refine h.mono ?_
    rintro r w' ⟨v, hr, hc, hb⟩
    rw [egF_parse] at hr
    exact ⟨v, hr, hb⟩
  go_enter Try.func13, Try.ntmps13
  go_wp2_with fail
  refine (H1.out w).mono ?_
  rintro r w1 ⟨v1, rfl, hc1, hb1⟩
  have X1 := Lib.hid (And.intro hc1 hb1)
  clear hc1 hb1 H1
  go_wp2_with fail
  refine (H2.out w1).mono ?_
  rintro r w2 ⟨v2, rfl, hb2⟩
  have X2 := Lib.hid (And.intro (SlI.below cmd_ok X1.out.1 hb2) (X1.out.2.trans (hb2.mono X1.out.2.size)))
  clear hb2 H2 X1
  go_wp2_with fail
  refine (H3.out w2).mono ?_
  rintro r w3 ⟨v3, rfl, hb3⟩
  have X3 := Lib.hid (And.intro (SlI.below cmd_ok X2.out.1 hb3) (X2.out.2.trans (hb3.mono X2.out.2.size)))
  clear hb3 H3 X2
  obtain ⟨A1, c1, rfl, _⟩ := X3.out.1.form
  obtain ⟨b1, o1, u1, rfl, _, x1, Y1⟩ := cmds_at (k := 0) X3.out.1 (by simp [egL])
  obtain ⟨A2, c2, rfl, _⟩ := Y1.form
  obtain ⟨b2, o2, u2, rfl, y0, y1, y2, Z1⟩ := words_at (k := 1) Y1 (by simp [egL])
  obtain ⟨A3, c3, rfl, _⟩ := Z1.form
  obtain ⟨b3, o3, rfl, p0, p1⟩ := parts_at (k := 0) Z1 (by simp [egL])
  obtain ⟨b4, o4, e4, q0, q1⟩ := parts_at (k := 1) Z1 (by simp [egL])
  cases e4
  have s1 : str [97, 10] = ⟨#[97, 10]⟩ := rfl
  have s2 : str [120] = ⟨#[120]⟩ := rfl
  simp only [egL, List.getElem_cons_zero, List.getElem_cons_succ, List.length_cons, List.length_nil] at x1 y0 y1 y2 p0 p1 q0 q1 ⊢
  rw [s1] at p1
  rw [s2] at q1
  simp at x1 y0 y1 y2 p0 p1 q0 q1
  have HB := Lib.hid X3.out.2
  clear X3 Y1 Z1 s1 s2
  go_upto_region 7 with (fail)
  have hb5 : Below w3.heap.size w3 (w3.alloc (.cells #[.int .i64 5, .int .i64 1, .slice (some ⟨b3, o3, none⟩) 2 c3] 44)) := (Below.refl _ w3).alloc (Nat.le_refl _) _
  have HC5 := Lib.hid (Blk.new w3 44 #[.int .i64 5, .int .i64 1, .slice (some ⟨b3, o3, none⟩) 2 c3])
  have HB5 := Lib.hid (HB.out.trans (hb5.mono HB.out.size))
  have k0 := (hb5.cell (World.block_lt_of_cell? _ _ p0)).trans p0
  have k1 := (hb5.cell (World.block_lt_of_cell? _ _ p1)).trans p1
  have k2 := (hb5.cell (World.block_lt_of_cell? _ _ q0)).trans q0
  have k3 := (hb5.cell (World.block_lt_of_cell? _ _ q1)).trans q1
  clear hb5 p0 p1 q0 q1 x1 y0 y1 y2 HB
  generalize w3.alloc _ = w5 at *
  generalize w3.heap.size = z5 at *
  have d0 := HC5.out.cell 0
  have d1 := HC5.out.cell 1
  have d2 := HC5.out.cell 2
  simp at d0 d1 d2
  go_wp2_with fail
  go_ret
  exact ⟨rfl, HB5.out⟩
end Go.Proofs.Ytphmhglebeapaaa
namespace Go.Proofs.Ytphmhglebeapaaa
open Go.RowKit

theorem fit_of {l : List Cmd} (h : weightC l ≤ 1048576000) (hb : ∀ c ∈ l, bytesC c) : fitC l := by
  refine ⟨by have := (weightC_has l).1; omega, fun c hc => ?_⟩
  have h1 := (weightC_has l).2 c hc
  have h2 := weightW_has c.words
  refine ⟨by omega, fun x hx => ⟨?_, hb c hc x hx⟩⟩
  have h3 := h2.2 x hx
  have h4 := (weight_has x.parts).1
  omega
theorem parseR_small (l : List Nat) (hl : ∀ c ∈ l, c < 256) (hn : l.length ≤ 16777216) : weightC (parseR l).1 ≤ 6 * l.length ∧ (∀ c ∈ (parseR l).1, bytesC c) ∧ printOk (parseR l).1 := by
  unfold parseR
  rw [if_neg (by omega)]
  cases hp : parseL l 0 [] with
  | error e => exact ⟨by simp [weightC], (fun c hc => by cases hc), (fun c hc => by cases hc)⟩
  | ok cs =>
    have h := parse_ok _ l (Nat.le_refl _) hl 0 [] cs hp (fun c hc => by cases hc)
    refine ⟨?_, fun c hc => (h.1 c hc).2, fun c hc => (h.1 c hc).1⟩
    have := h.2
    simp only [weightC, List.map_nil, List.sum_nil] at this ⊢
    omega
theorem samesC_refl (l : List Cmd) : samesC l l := by
  rw [samesC_iff]
  refine ⟨rfl, fun j x y hx hy => ?_⟩
  rw [hx] at hy; injection hy with hy; subst hy
  show samesW x.words x.words
  rw [samesW_iff]
  refine ⟨rfl, fun k p q hp hq => ?_⟩
  rw [hp] at hq; injection hq with hq; subst hq
  exact ⟨rfl, rfl⟩
theorem placesC_refl (l : List Cmd) : placesC l l := by
  refine ⟨rfl, fun i x y hx hy => ?_⟩
  rw [hx] at hy; injection hy with hy; subst hy
  refine ⟨rfl, rfl, fun k p q hp hq => ?_⟩
  rw [hp] at hq; injection hq with hq; subst hq; rfl
theorem run_upto_str (l : List Nat) (k : Nat) (hk : k ≤ l.length) (W : World) : (Instr.slice 9 (.string (str l)) none (some (.int .i64 (k : Nat))) none).run Try.prog W = .ok (.string (str (l.take k))) W := by
  have hs := str_len l
  rw [run_slice_string_h (P := Try.prog) W 9 (str l) Try.underlying9 .i64 (k : Nat) (by omega) (by omega), Int.toNat_natCast, str_mid, List.drop_zero]
/-- What prints commands tells one thing. -/
theorem print_det (l : List Cmd) : ∃ (T : List Nat) (R : Int), (printOk l → R = 0 ∧ T = printT l) ∧ (¬ printOk l → R = 2 ∧ T = []) ∧ ∀ w e w', PrintTo w l e w' → e = .returned (.tuple #[.string (str T), .int .i64 R]) ∧ Below w.heap.size w w' := by
  rcases Classical.em (printOk l) with h | h
  · refine ⟨printT l, 0, fun _ => ⟨rfl, rfl⟩, fun k => absurd h k, ?_⟩
    rintro w e w' ⟨t, r, rfl, h1, _, hb⟩
    obtain ⟨rfl, rfl⟩ := h1 h
    exact ⟨rfl, hb⟩
  · refine ⟨[], 2, fun k => absurd k h, fun _ => ⟨rfl, rfl⟩, ?_⟩
    rintro w e w' ⟨t, r, rfl, _, h1, hb⟩
    obtain ⟨rfl, rfl⟩ := h1 h
    exact ⟨rfl, hb⟩
/-- A call that tells true, only where it holds. -/
theorem Asks.yes {w w' : World} {p : Prop} {e : Ending} (h : Asks w p e w') (hp : p) : e = .returned (.bool true) ∧ Below w.heap.size w w' := by
  obtain ⟨⟨r, rfl, hr⟩, hb⟩ := h
  rw [hr.2 hp]
  exact ⟨rfl, hb⟩
end Go.Proofs.Ytphmhglebeapaaa
namespace Go.Proofs.Ytphmhglebeapaaa

/-- What is printed is parsed as it was. -/
theorem back_of {l : List Cmd} (h : printOk l) (hb : ∀ c ∈ l, bytesC c) (hw : weightC l ≤ 262144) : ∃ l', parseR (printT l) = (l', 0, 0) ∧ samesC l l' ∧ fitC l' := by
  have hlen := printT_len l
  obtain ⟨l', h1, h2⟩ := parse_print l (fun c hc => ⟨h c hc, hb c hc⟩) [] 0 []
  rw [List.append_nil, parseL_nil, List.nil_append] at h2
  have h3 := parseR_ok (l := printT l) (by omega) h2
  have h4 := parseR_small (printT l) (printT_bytes hb) (by omega)
  rw [h3] at h4
  exact ⟨l', h3, h1, fit_of (by have := h4.1; dsimp only at this; omega) h4.2.1⟩
end Go.Proofs.Ytphmhglebeapaaa
