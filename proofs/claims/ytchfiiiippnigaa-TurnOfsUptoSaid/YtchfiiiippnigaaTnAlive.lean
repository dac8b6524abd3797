/-
  cuecardlaw10.alive answers true.
  Conditions: none.
-/
import Derived.Test.YtchfiiiippnigaaTnTurn
namespace Go.Proofs.Ytchfiiiippnigaa
open Go.RowKit

/-- The document's example. -/
def egT (N : Nat) : List Ev := [⟨0, 0, some ⟨N, 0, none⟩, 1, [97]⟩, ⟨0, 0, some ⟨N + 1, 0, none⟩, 1, [98]⟩, ⟨1, 0, some ⟨N + 1 + 1, 0, none⟩, 1, [120]⟩, ⟨0, 0, some ⟨N + 1 + 1 + 1, 0, none⟩, 1, [99]⟩]
def egU : List Tn := [⟨[97, 98], [120]⟩, ⟨[99], []⟩]
theorem egT_turns (N : Nat) : turns (pes (egT N)) = egU := by simp [turns, turnsF, egT, pes, Ev.pe, tput, egU]
theorem tn_block {W : World} {b p q r : Nat} {z z0 z1 z2 : Nat × Nat} (h0 : W.heap[p]? = some (.cells #[.int .u8 97, .int .u8 98] 5 z0)) (h1 : W.heap[q]? = some (.cells #[.int .u8 120] 5 z1)) (h2 : W.heap[r]? = some (.cells #[.int .u8 99] 5 z2))
    (h : W.heap[b]? = some (.cells #[.slice (some ⟨p, 0, none⟩) 2 2, .slice (some ⟨q, 0, none⟩) 1 1, .slice (some ⟨r, 0, none⟩) 1 1, .slice none 0 0] 33 z)) : Tns W (.slice (some ⟨b, 0, none⟩) 2 2) egU := by
  refine ⟨_, 2, rfl, Nat.le_refl _, fun _ => ⟨b, 0, rfl, trivial, fun j x hj => ?_⟩⟩
  have tr : ∀ {v : Value} {xs : List Value}, Rd W v xs → RdT (fun _ => True) W v xs := fun h => ⟨h, fun _ _ _ _ _ _ => trivial⟩
  match j, hj with
  | 0, hj =>
    cases hj
    exact ⟨_, 2, _, 1, (cell_of_row W b _ _ _ _ h).trans rfl, (cell_of_row W b _ _ _ _ h).trans rfl, tr (Rd.ofBlk h0 [97, 98] rfl), tr (Rd.ofBlk h1 [120] rfl)⟩
  | 1, hj =>
    cases hj
    exact ⟨_, 1, none, 0, (cell_of_row W b _ _ _ _ h).trans rfl, (cell_of_row W b _ _ _ _ h).trans rfl, tr (Rd.ofBlk h2 [99] rfl), tr (Row.nil W 5).rd⟩
  | j + 2, hj => simp [egU] at hj

set_option maxRecDepth 100000 in
set_option maxHeartbeats 1000000 in
theorem alive_true (w : World) : Calls Try.prog 9 #[] w fun e w' => e = .returned (.bool true) ∧ Below w.heap.size w w' := by
  have kc := run_const
  go_enter Try.func9, Try.ntmps9
  go_wp2_with fail
  obtain ⟨W, hW⟩ : ∃ W, (((((w.alloc (.cells #[.int .u8 97] 5 (1, 2))).alloc (.cells #[.int .u8 98] 5 (1, 2))).alloc (.cells #[.int .u8 120] 5 (1, 2))).alloc (.cells #[.int .u8 99] 5 (1, 2))).alloc (.cells #[.int .i64 0, .int .i64 0, .slice (some ⟨w.heap.size, 0, none⟩) 1 1, .int .i64 0, .int .i64 0, .slice (some ⟨w.heap.size + 1, 0, none⟩) 1 1, .int .i64 1, .int .i64 0, .slice (some ⟨w.heap.size + 1 + 1, 0, none⟩) 1 1, .int .i64 0, .int .i64 0, .slice (some ⟨w.heap.size + 1 + 1 + 1, 0, none⟩) 1 1] 44)) = W := ⟨_, rfl⟩
  rw [hW]
  have hE : Evs W (.slice (some ⟨w.heap.size + 1 + 1 + 1 + 1, 0, none⟩) 4 4) (egT w.heap.size) := by
    rw [← hW]
    refine Evs.ofBlk (al_at (by simp)) (egT w.heap.size) rfl ?_ (by simp [egT])
    intro a ha
    simp only [egT, List.mem_cons, List.not_mem_nil, or_false] at ha
    rcases ha with rfl | rfl | rfl | rfl
    · exact EvOk.ofBlk (al_old (al_old (al_old (al_old (al_at rfl))))) 0 0 [97] rfl (by simp) (by simp)
    · exact EvOk.ofBlk (al_old (al_old (al_old (al_at (by simp))))) 0 0 [98] rfl (by simp) (by simp)
    · exact EvOk.ofBlk (al_old (al_old (al_at (by simp)))) 1 0 [120] rfl (by simp) (by simp)
    · exact EvOk.ofBlk (al_old (al_at (by simp))) 0 0 [99] rfl (by simp) (by simp)
  have hbel : Below w.heap.size w W := by
    rw [← hW]
    exact ((((((Below.refl _ w).alloc (Nat.le_refl _) _).alloc (by simp) _).alloc (by simp; omega) _).alloc (by simp; omega) _).alloc (by simp; omega) _)
  have HB := Lib.hid hbel
  have HO := Lib.hid (Of_is _ _ W hE (by simp [egT, pes, Ev.pe, whole]))
  rw [egT_turns] at HO
  clear hE hbel hW
  refine HO.out.mono ?_
  rintro e w1 ⟨A1, c1, rfl, ht, hb1⟩
  have X1 := Lib.hid (And.intro (HB.out.trans (hb1.mono HB.out.size)) ht)
  clear ht hb1 HO HB
  go_wp2_with fail
  obtain ⟨V, hV⟩ : ∃ V, ((((w1.alloc (.cells #[.int .u8 97, .int .u8 98] 5 (2, 3))).alloc (.cells #[.int .u8 120] 5 (1, 2))).alloc (.cells #[.int .u8 99] 5 (1, 2))).alloc (.cells #[.slice (some ⟨w1.heap.size, 0, none⟩) 2 2, .slice (some ⟨w1.heap.size + 1, 0, none⟩) 1 1, .slice (some ⟨w1.heap.size + 1 + 1, 0, none⟩) 1 1, .slice none 0 0] 33)) = V := ⟨_, rfl⟩
  rw [hV]
  have hb2 : Below w1.heap.size w1 V := by
    rw [← hV]
    exact (((((Below.refl _ w1).alloc (Nat.le_refl _) _).alloc (by simp) _).alloc (by simp; omega) _).alloc (by simp; omega) _)
  have hU : Tns V (.slice (some ⟨w1.heap.size + 1 + 1 + 1, 0, none⟩) 2 2) egU := by
    rw [← hV]
    exact tn_block (al_old (al_old (al_old (al_at rfl)))) (al_old (al_old (al_at (by simp)))) (al_old (al_at (by simp))) (al_at (by simp))
  have SM := Lib.hid (RSame_eq egU _ _ V (X1.out.2.below hb2) hU (by simp [egU]))
  have X2 := Lib.hid (X1.out.1.trans (hb2.mono X1.out.1.size))
  clear hV hb2 hU
  refine SM.out.mono ?_
  rintro e w2 ⟨rfl, hb3⟩
  have X3 := Lib.hid (X2.out.trans (hb3.mono X2.out.size))
  clear hb3
  go_wp2
  go_ret
  exact ⟨rfl, X3.out⟩
end Go.Proofs.Ytchfiiiippnigaa
