/-
  turn.All and the closure that it hands out.
  Conditions: events and bytes together at most 4194304.
-/
import Derived.Test.YtchfiiiippnigaaTnFirst
import Derived.Test.YtchfiiiippnigaaToldP
import Derived.Shelf.RegionOpen
namespace Go.Proofs.Ytchfiiiippnigaa
open Go.RowKit Go.Shelf

/-- What All hands out. -/
def AllTo (w : World) (ps : List PE) (e : Ending) (w' : World) : Prop :=
  ∃ Bo v l, e = .returned (.func (.func 25) #[] #[.pointer (some ⟨Bo, 0, none⟩)]) ∧ Blk w' Bo 22 #[v] ∧ EvsIn (fun b => w.heap.size ≤ b) w' v l ∧ pes l = mrg (spk ps) ∧ Below w.heap.size w w' ∧ w.heap.size ≤ Bo

theorem All_is (v : Value) (L : List Ev) (w : World) (h : Evs w v L) (hw : L.length + whole (pes L) ≤ 4194304) : Calls Try.prog 13 #[v] w (AllTo w (pes L)) := by
  have H := Lib.hid h
  have HS : Hid ((spk (pes L)).length + whole (spk (pes L)) ≤ 4194304) := Lib.hid (by have := spk_len (pes L); have := spk_whole (pes L); rw [pes_len] at *; omega)
  clear h
  go_enter Try.func13, Try.ntmps13
  go_wp2_with fail
  refine (spoken_is _ L _ H.out (by omega)).mono ?_
  rintro e w1 ⟨A1, c1, l1, rfl, hE1, hp1, hb1⟩
  have X := Lib.hid (And.intro hE1 (And.intro hp1 hb1))
  clear hE1 hp1 hb1
  go_wp2_with fail
  refine (Merge_any _ l1 _ X.out.1 (by have := HS.out; rw [← X.out.2.1, pes_len] at this; exact this)).mono ?_
  rintro e w2 ⟨A2, c2, g2, l2, rfl, hM, hp2, hb2⟩
  have hm : l2.length ≤ 9223372036854775807 := by
    have h1 := congrArg List.length hp2
    rw [pes_len, X.out.2.1] at h1
    have := mrg_len (spk (pes L)); have := HS.out; omega
  have hE2 : EvsIn (fun b => w.heap.size ≤ b) w2 (.slice A2 l2.length c2) l2 := (hM.evsIn hm).mono fun b _ hb => Nat.le_trans X.out.2.2.size hb
  have Y := Lib.hid (And.intro hE2 (And.intro hp2 (X.out.2.2.trans (hb2.mono X.out.2.2.size))))
  clear hE2 hp2 hb2 hM hm
  go_wp2
  go_ret
  obtain ⟨hE2, hp2, hB⟩ := Y.out
  exact ⟨w2.heap.size, .slice A2 l2.length c2, l2, rfl, Blk.new w2 _ _, hE2.keep fun b _ hlt => Below.heap_alloc w2 _ b hlt, by rw [hp2, X.out.2.1], hB.alloc hB.size _, hB.size⟩
end Go.Proofs.Ytchfiiiippnigaa
