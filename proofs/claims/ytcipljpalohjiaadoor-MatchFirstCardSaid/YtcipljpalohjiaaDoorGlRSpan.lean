/-
  The document's Span.
  Conditions: a text of at most 140737488355328 bytes, at most 1048576 things.
-/
import Derived.Test.YtcipljpalohjiaaDoorGlRLk
namespace Go.Proofs.YtcipljpalohjiaaDoor
open Go.RowKit

theorem spanFrom_none {l : List Thg} {t : List Nat} {most : Int} : ∀ {n i : Nat}, (∀ j, i ≤ j → j < i + n → ¬ ((t.length : Int) - j ≤ most ∧ likeS l (t.drop j) = true)) → spanFrom l t most n i = none
  | 0, i, _ => rfl
  | n + 1, i, h => by
    rw [spanFrom, if_neg (h i (Nat.le_refl _) (by omega))]
    exact spanFrom_none fun j h1 h2 => h j (by omega) (by omega)
/-- What a place, or none, is told as. -/
def spanV : Option Nat → Value
  | some k => .tuple #[.int .i64 (k : Nat), .bool true]
  | none => .tuple #[.int .i64 0, .bool false]

set_option maxRecDepth 100000 in
set_option maxHeartbeats 4000000 in
theorem RSpan_is (v : Value) (l : List Thg) (t : List Nat) (ht : ∀ c ∈ t, c < 256) (hn : t.length ≤ 140737488355328) (hl : l.length ≤ 1048576) (most : Int) (w : World) (h : ThR w v l) :
    Calls Tryd.prog 32 #[v, .string (str t), .int .i64 most] w (fun r w' => r = .returned (spanV (spanS l t most)) ∧ Below w.heap.size w w') := by
  have hsz := str_len t
  have HT := Lib.hid h
  have HC : Hid (∀ i, i ≤ t.length → ∀ W, Below w.heap.size w W → Calls Tryd.prog 48 #[v, .string (str (t.drop i))] W (fun r w' => r = .returned (.bool (likeS l (t.drop i))) ∧ Below W.heap.size W w')) :=
    Lib.hid fun i hi W hb => RLike_is v l (t.drop i) (fun c hc => ht c (List.mem_of_mem_drop hc)) (by simp; omega) hl W (h.kept hb)
  clear h ht HT
  go_enter Tryd.func32, Tryd.ntmps32
  go_wp2_with fail
  go_loopw [8] (fun u wr => ∃ i : Nat, i ≤ t.length + 1 ∧ u = .int .i64 i ∧ Hid (Below w.heap.size w wr) ∧ Hid (∀ j, j < i → ¬ ((t.length : Int) - j ≤ most ∧ likeS l (t.drop j) = true))) (fun u _ => t.length + 1 - (intOf u).toNat)
  case atStart => exact ⟨0, by omega, rfl, Lib.hid (Below.refl _ _), Lib.hid (fun j hj => by omega)⟩
  case round =>
    obtain ⟨i, hi, rfl, HB, HN⟩ := hrel
    by_cases hil : i ≤ t.length
    · by_cases hm : (t.length : Int) - i ≤ most
      · go_wp2_with fail
        rw [strg_mid, List.take_of_length_le (Nat.le_refl _)]
        refine (HC.out i hil wr HB.out).mono ?_
        rintro e w1 ⟨rfl, hb1⟩
        have HB1 := Lib.hid (HB.out.trans (hb1.mono HB.out.size))
        clear hb1 HB
        cases hb : likeS l (t.drop i) with
        | true =>
          go_wp2_with fail
          go_ret2
          refine ⟨?_, HB1.out⟩
          rw [spanS, spanFrom_first (k := i) (by omega) (by omega) ⟨hm, hb⟩ (fun j _ hj => HN.out j hj)]
          rfl
        | false =>
          have HF := Lib.hid hb
          clear hb
          go_wp2_with fail
          go_roundw
          case rel => exact ⟨i + 1, by omega, by go_num, HB1, Lib.hid (fun j hj => by
            rcases Nat.lt_or_ge j i with h1 | h1
            · exact HN.out j h1
            · obtain rfl : j = i := by omega
              rw [HF.out]; simp)⟩
          case measure => simp [intOf]; omega
      · go_wp2_with fail
        go_roundw
        case rel => exact ⟨i + 1, by omega, by go_num, HB, Lib.hid (fun j hj => by
            rcases Nat.lt_or_ge j i with h1 | h1
            · exact HN.out j h1
            · obtain rfl : j = i := by omega
              exact fun h => hm h.1)⟩
        case measure => simp [intOf]; omega
    · obtain rfl : i = t.length + 1 := by omega
      go_wp2_with fail
      go_ret2
      refine ⟨?_, HB.out⟩
      rw [spanS, spanFrom_none (fun j _ hj => HN.out j (by omega))]
      rfl
end Go.Proofs.YtcipljpalohjiaaDoor
