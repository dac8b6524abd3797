/-
  Contracts of bytes.Clone and event.copied.
  Conditions: at most 4194304 bytes.
-/
import Derived.Test.YtchfiiiippnigaaClone4
import Derived.Test.YtchfiiiippnigaaEvRef
namespace Go.Proofs.Ytchfiiiippnigaa
open Go.RowKit

/-- What copied leaves: the event, its bytes in a row of their own. -/
def CopTo (w : World) (d t : Int) (bs : List Nat) (e : Ending) (w' : World) : Prop :=
  ∃ A c g, e = .returned (.agg #[.int .i64 d, .int .i64 t, .slice A bs.length c]) ∧ Row w' 5 g (.slice A bs.length c) (bv bs) ∧ (∀ b, g = some b → w.heap.size ≤ b) ∧ Below w.heap.size w w'

set_option maxRecDepth 100000 in
theorem copied_any (d t : Int) (A : Option Addr) (c : Nat) (bs : List Nat) (w : World) (h : Rd w (.slice A bs.length c) (bv bs)) (hn : bs.length ≤ 4194304) :
    Calls Try.prog 28 #[.agg #[.int .i64 d, .int .i64 t, .slice A bs.length c]] w (CopTo w d t bs) := by
  have H := Lib.hid h
  clear h
  go_enter Try.func28, Try.ntmps28
  go_wp2_with fail
  refine (Clone_any _ _ _ bs _ ((H.out.alloc _).alloc _) hn).mono ?_
  rintro e w1 ⟨A', c', g, rfl, hrow, hfr, hb⟩
  have b1 := ((Blk.new w 44 #[.int .i64 d, .int .i64 t, .slice A bs.length c]).alloc (.cells #[.int .i64 0, .int .i64 0, .slice none 0 0] 44)).below hb (by simp; omega)
  have b2 := (Blk.new (w.alloc (.cells #[.int .i64 d, .int .i64 t, .slice A bs.length c] 44)) 44 #[.int .i64 0, .int .i64 0, .slice none 0 0]).below hb (by simp)
  rw [World.size_alloc] at b2
  have n1 : g ≠ some w.heap.size := fun e => by have := hfr _ e; simp at this; omega
  have n2 : g ≠ some (w.heap.size + 1) := fun e => by have := hfr _ e; simp at this; omega
  have hbw : Below w.heap.size w w1 := (((Below.refl _ w).alloc (Nat.le_refl _) _).alloc (by simp) _).trans (hb.mono (by simp; omega))
  have hfr' : ∀ b, g = some b → w.heap.size ≤ b := fun b e => by have := hfr b e; simp at this; omega
  have x0 : w1.cell? ⟨w.heap.size, 0, none⟩ = some (.int .i64 d) := b1.cell 0
  have x1 : w1.cell? ⟨w.heap.size, 1, none⟩ = some (.int .i64 t) := b1.cell 1
  have x2 : w1.cell? ⟨w.heap.size, 2, none⟩ = some (.slice A bs.length c) := b1.cell 2
  have fx := b1.frozen 2
  have y0 : w1.cell? ⟨w.heap.size + 1, 0, none⟩ = some (.int .i64 0) := b2.cell 0
  have y1 : w1.cell? ⟨w.heap.size + 1, 1, none⟩ = some (.int .i64 0) := b2.cell 1
  have y2 : w1.cell? ⟨w.heap.size + 1, 2, none⟩ = some (.slice none 0 0) := b2.cell 2
  have f0 := b2.frozen 0
  have f1 := b2.frozen 1
  have f2 := b2.frozen 2
  have X := Lib.hid (And.intro hrow (And.intro n1 (And.intro n2 (And.intro hbw hfr'))))
  clear hrow hfr hb b1 b2 n1 n2 hbw hfr'
  go_wp2
  obtain ⟨hrow, n1, n2, hbw, hfr'⟩ := X.out
  refine bodyPost_ret (v := .agg #[.int .i64 d, .int .i64 t, .slice A' bs.length c']) (by simp [results, Try.results28, go_sem, y0, y1, y2]) rfl ⟨A', c', g, rfl, ?_, hfr', ?_⟩
  · exact (((hrow.far (p := ⟨w.heap.size, 2, none⟩) n1 _).far (p := ⟨w.heap.size + 1, 0, none⟩) n2 _).far (p := ⟨w.heap.size + 1, 1, none⟩) n2 _).far (p := ⟨w.heap.size + 1, 2, none⟩) n2 _
  · exact (((hbw.setCell (p := ⟨w.heap.size, 2, none⟩) (by simp) _).setCell (p := ⟨w.heap.size + 1, 0, none⟩) (by simp) _).setCell (p := ⟨w.heap.size + 1, 1, none⟩) (by simp) _).setCell (p := ⟨w.heap.size + 1, 2, none⟩) (by simp) _
end Go.Proofs.Ytchfiiiippnigaa
