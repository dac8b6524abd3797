/-
  What the document's event appends: bytes in a row of their own, and an event more.
  Conditions: at most 65536 bytes, at most 4096 events.
-/
import Derived.Test.YtbaibabnfbjdeaaTrRHead
import Derived.Test.YtbaibabnfbjdeaaAppRun
namespace Go.Proofs.Ytbaibabnfbjdeaa
open Go.RowKit

theorem ref_ev {w V : World} {g : Option Nat} {B : Option Addr} {cB : Nat} {acc : List Ev} (d t : Int) {Ab : Option Addr} {cb : Nat} {ds : List Nat} (h : EL (fun _ => False) (fun b => w.heap.size ≤ b) V g (.slice B acc.length cB) acc) (hbel : Below w.heap.size w V) (hrd : Rd V (.slice Ab ds.length cb) (bv ds)) (hby : ∀ x ∈ ds, x < 256) (hds : ds.length ≤ 65536) (hl : acc.length ≤ 4096) :
    ∃ A5 c5 w5 A7 c7 w7 g7, (Builtin.append_ #[25, 25] 25 #[.slice (some ⟨V.heap.size, 0, none⟩) 0 0, .slice Ab ds.length cb]).run Try.prog (V.drew.alloc (.cells #[] 5)) = .ok (.slice A5 ds.length c5) w5 ∧
      (Builtin.append_ #[22, 22] 22 #[.slice B acc.length cB, .slice (some ⟨w5.heap.size, 0, none⟩) 1 1]).run Try.prog (w5.alloc (.cells #[.int .i64 d, .int .i64 t, .slice A5 ds.length c5] 43)) = .ok (.slice A7 (acc.length + 1) c7) w7 ∧
      Below V.heap.size V w5 ∧ (∀ b, b < V.heap.size → g ≠ some b → w7.heap[b]? = V.heap[b]?) ∧ Below w.heap.size w w7 ∧ EL (fun _ => False) (fun b => w.heap.size ≤ b) w7 g7 (.slice A7 (acc.length + 1) c7) (acc ++ [⟨d, t, A5, c5, ds⟩]) := by
  have h0 : RowAt V (V.drew.alloc (.cells #[] 5)) (some ⟨V.heap.size, 0, none⟩) 0 none [] := ⟨Row.empty _ _ _, by simp, (Below.refl V.heap.size V).drew.alloc (Nat.le_refl _) _⟩
  obtain ⟨A5, c5, w5, g5, hrun5, hr5, -⟩ := BA.run (.inl h0) (m := ds) rfl ((Rd.drew hrd).alloc _) (by simp) (by omega) (.inl h0) 25
  simp only [List.length_nil, Nat.zero_add, List.nil_append] at hrun5 hr5
  have hb5 := hr5.2.2
  have h5 := h.below hb5
  have hle5 := hbel.trans (hb5.mono hbel.size)
  have hok : EvOk (fun b => False ∨ (w.heap.size ≤ b ∧ ∃ cs, w5.heap[b]? = some (.cells cs 5 (0, 0)))) w5 ⟨d, t, A5, c5, ds⟩ := EvOk.ofRow hr5.1 hby (by omega) (fun b e hc => .inr ⟨by have := hr5.2.1 b e; have := hbel.size; omega, hc⟩)
  obtain ⟨A7, c7, w7, g7, hrun7, hr7, hgr7, hg7⟩ := append_ev (w := w5) 22 ⟨d, t, A5, c5, ds⟩ (h5.row.alloc _) (by omega)
  have hb6 : Below w5.heap.size w5 (w5.alloc (.cells #[.int .i64 d, .int .i64 t, .slice A5 ds.length c5] 43)) := (Below.refl _ w5).alloc (Nat.le_refl _) _
  have hok6 := hok.tkeep (D := fun _ => False) (T := fun b => w.heap.size ≤ b) (W' := w5.alloc (.cells #[.int .i64 d, .int .i64 t, .slice A5 ds.length c5] 43)) (fun b _ hlt => Below.heap_alloc w5 _ b hlt)
  have h7 := (h5.below hb6).snoc hok6 hr7 hgr7 (by rw [World.size_alloc]; exact hg7) ⟨by have := hle5.size; simp; omega, id⟩
  refine ⟨A5, c5, w5, A7, c7, w7, g7, hrun5, hrun7, hb5, fun b hlt hne => ?_, ?_, h7⟩
  · have h1 : b < w5.heap.size := Nat.lt_of_lt_of_le hlt hb5.size
    rw [hgr7.block b (by simp; omega) (fun e => hne e.symm), Below.heap_alloc w5 _ b h1, hb5.block b hlt]
  · exact (hle5.trans (hb6.mono hle5.size)).grown hgr7 (by have := hle5.size; simp; omega) (fun b e => (h.fresh b e).1)
end Go.Proofs.Ytbaibabnfbjdeaa
