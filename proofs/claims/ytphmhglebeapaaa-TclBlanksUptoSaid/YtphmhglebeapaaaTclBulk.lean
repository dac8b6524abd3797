/-
  Lists of commands that come in are no more than the bulk of what is read.
  Conditions: none.
-/
import Derived.Test.YtphmhglebeapaaaRows
import Derived.Test.YtphmhglebeapaaaTclArgs
import Derived.Test.YtphmhglebeapaaaTclGrt
import Derived.Test.YtphmhglebeapaaaTclLs
namespace Go.Proofs.Ytphmhglebeapaaa
open Go.RowKit

theorem bulk_ls {H α : Type} {R : DataW H → α → Prop} {f : α → Nat} (k : ∀ d x, R d x → f x ≤ Rows.uptoBulk d) {d : DataW H} {l : List α} (h : LsRead R d l) : (l.map f).sum ≤ Rows.uptoBulk d := by
  rcases h with ⟨_, rfl⟩ | ⟨D, r, rfl, h⟩
  · simp
  · have key : ∀ (m : List α) (i : Nat), (∀ j (hj : j < m.length), R (D (i + j)) m[j]) → (m.map f).sum ≤ Rows.uptoBulkAll ((List.range' i m.length).map D) := by
      intro m
      induction m with
      | nil => intro i _; simp
      | cons a m ih =>
        intro i hm
        have h1 := ih (i + 1) (fun j hj => by
          have := hm (j + 1) (by simpa using hj)
          rw [show i + 1 + j = i + (j + 1) by omega]
          simpa using this)
        have h2 := k _ _ (hm 0 (by simp))
        rw [List.map_cons, List.sum_cons, List.length_cons, List.range'_succ, List.map_cons, Rows.uptoBulkAll]
        simp only [Nat.add_zero, List.getElem_cons_zero] at h2
        omega
    have h0 := key l 0 (fun j hj => by rw [Nat.zero_add]; exact h j hj)
    rw [← List.range_eq_range'] at h0
    simp only [Rows.uptoBulk]; omega
theorem countP_sum (ps : List Prt) : ps.length + countP ps = (ps.map fun p => 1 + p.s.length).sum := by
  induction ps with
  | nil => simp [countP]
  | cons p ps ih => simp only [countP, List.map_cons, List.sum_cons, List.length_cons]; omega
theorem countW_sum (ws : List Wrd) : ws.length + countW ws = (ws.map fun x => 1 + (x.parts.length + countP x.parts)).sum := by
  induction ws with
  | nil => simp [countW]
  | cons p ps ih => simp only [countW, List.map_cons, List.sum_cons, List.length_cons]; omega
theorem countC_sum (l : List Cmd) : countC l = (l.map fun c => 1 + (c.words.length + countW c.words)).sum := by
  induction l with
  | nil => simp [countC]
  | cons p ps ih => simp only [countC, List.map_cons, List.sum_cons]; omega
theorem cmds_bulk {H : Type} {d : DataW H} {l : List Cmd} (h : LsRead CmdRead d l) : countC l ≤ Rows.uptoBulk d := by
  rw [countC_sum]
  refine bulk_ls (fun d c hc => ?_) h
  obtain ⟨a, b, rfl, hb⟩ := hc
  have h1 : c.words.length + countW c.words ≤ Rows.uptoBulk b := by
    rw [countW_sum]
    refine bulk_ls (fun d x hx => ?_) hb
    obtain ⟨a, b, e, rfl, he⟩ := hx
    have h2 : x.parts.length + countP x.parts ≤ Rows.uptoBulk e := by
      rw [countP_sum]
      refine bulk_ls (fun d p hp => ?_) he
      obtain ⟨a, t, rfl, ht⟩ := hp
      simp only [Rows.uptoBulk, Rows.uptoBulkAll]; omega
    simp only [Rows.uptoBulk, Rows.uptoBulkAll]; omega
  simp only [Rows.uptoBulk, Rows.uptoBulkAll]; omega
/-- A list that isn't great is small enough to be looked at. -/
theorem weightC_count (l : List Cmd) : weightC l ≤ 3 * countC l := by
  have hp : ∀ ps : List Prt, weight ps = ps.length + countP ps := fun ps => by
    induction ps with
    | nil => simp [weight, countP]
    | cons p ps ih => simp only [weight, List.map_cons, List.sum_cons, countP, List.length_cons] at ih ⊢; omega
  have hw : ∀ ws : List Wrd, weightW ws ≤ 3 * (ws.length + countW ws) := fun ws => by
    induction ws with
    | nil => simp [weightW, countW]
    | cons x ws ih => have := hp x.parts; simp only [weightW, List.map_cons, List.sum_cons, countW, List.length_cons] at ih ⊢; omega
  induction l with
  | nil => simp [weightC, countC]
  | cons c l ih => have := hw c.words; simp only [weightC, List.map_cons, List.sum_cons, countC] at ih ⊢; omega
end Go.Proofs.Ytphmhglebeapaaa
