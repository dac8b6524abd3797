/-
  cuecardlaw09.alive: the document's examples hold.
  Conditions: none.
-/
import Derived.Test.YtialecghpekcnaaTLTail
import Derived.Test.YtialecghpekcnaaConst
namespace Go.Proofs.Ytialecghpekcnaa
open Go.RowKit

set_option maxRecDepth 100000 in
set_option maxHeartbeats 2000000 in
theorem alive_true (w : World) : Calls Try.prog 12 #[] w fun e w' => e = .returned (.bool true) ∧ Below w.heap.size w w' := by
  have HC1 : Hid (∀ W : World, Calls Try.prog 9 #[.slice (some ⟨W.heap.size, 0, none⟩) 4 4, .int .i64 3] (W.alloc (.cells #[.int .u8 97, .int .u8 97, .int .u8 97, .int .u8 97] 5 (4, 5))) (PiecesTo (W.alloc (.cells #[.int .u8 97, .int .u8 97, .int .u8 97, .int .u8 97] 5 (4, 5))) [97, 97, 97, 97] 3)) :=
    Lib.hid fun W => Pieces_is _ 4 4 [97, 97, 97, 97] 3 (by omega) _ (Rd.const W #[.int .u8 97, .int .u8 97, .int .u8 97, .int .u8 97] (4, 5) [97, 97, 97, 97] 4 rfl rfl) (by simp) (by omega)
  have HC2 : Hid (∀ W : World, Calls Try.prog 10 #[.slice (some ⟨W.heap.size, 0, none⟩) 7 7] (W.alloc (.cells #[.int .u8 108, .int .u8 111, .int .u8 103, .int .u8 105, .int .u8 110, .int .u8 58, .int .u8 32] 5 (7, 8))) fun e w' => e = .returned (.int .i64 1) ∧ Below (W.alloc (.cells #[.int .u8 108, .int .u8 111, .int .u8 103, .int .u8 105, .int .u8 110, .int .u8 58, .int .u8 32] 5 (7, 8))).heap.size (W.alloc (.cells #[.int .u8 108, .int .u8 111, .int .u8 103, .int .u8 105, .int .u8 110, .int .u8 58, .int .u8 32] 5 (7, 8))) w') := Lib.hid fun W => by
    have := Shortest_is _ 7 7 [108, 111, 103, 105, 110, 58, 32] (by omega) _ (Rd.const W #[.int .u8 108, .int .u8 111, .int .u8 103, .int .u8 105, .int .u8 110, .int .u8 58, .int .u8 32] (7, 8) [108, 111, 103, 105, 110, 58, 32] 7 rfl rfl) (by simp)
    rwa [show shortest [108, 111, 103, 105, 110, 58, 32] = 1 by decide] at this
  have HC3 : Hid (∀ W : World, Calls Try.prog 10 #[.slice (some ⟨W.heap.size, 0, none⟩) 4 4] (W.alloc (.cells #[.int .u8 97, .int .u8 98, .int .u8 97, .int .u8 98] 5 (4, 5))) fun e w' => e = .returned (.int .i64 3) ∧ Below (W.alloc (.cells #[.int .u8 97, .int .u8 98, .int .u8 97, .int .u8 98] 5 (4, 5))).heap.size (W.alloc (.cells #[.int .u8 97, .int .u8 98, .int .u8 97, .int .u8 98] 5 (4, 5))) w') := Lib.hid fun W => by
    have := Shortest_is _ 4 4 [97, 98, 97, 98] (by omega) _ (Rd.const W #[.int .u8 97, .int .u8 98, .int .u8 97, .int .u8 98] (4, 5) [97, 98, 97, 98] 4 rfl rfl) (by simp)
    rwa [show shortest [97, 98, 97, 98] = 3 by decide] at this
  have HC4 : Hid (∀ W : World, Calls Try.prog 10 #[.slice (some ⟨W.heap.size, 0, none⟩) 3 3] (W.alloc (.cells #[.int .u8 97, .int .u8 97, .int .u8 97] 5 (3, 4))) fun e w' => e = .returned (.int .i64 3) ∧ Below (W.alloc (.cells #[.int .u8 97, .int .u8 97, .int .u8 97] 5 (3, 4))).heap.size (W.alloc (.cells #[.int .u8 97, .int .u8 97, .int .u8 97] 5 (3, 4))) w') := Lib.hid fun W => by
    have := Shortest_is _ 3 3 [97, 97, 97] (by omega) _ (Rd.const W #[.int .u8 97, .int .u8 97, .int .u8 97] (3, 4) [97, 97, 97] 3 rfl rfl) (by simp)
    rwa [show shortest [97, 97, 97] = 3 by decide] at this
  have kc := fun (W : World) (C : Array Value) (n c : Nat) => Lib.run_convert_bytes_const (P := Try.prog) W 22 5 C n c Try.underlying22 Try.underlying5
  go_enter Try.func12, Try.ntmps12
  go_wp2_with fail
  refine (HC1.out w).mono ?_
  rintro e w1 ⟨A, c, ll, er, rfl, hl, -, hg⟩
  obtain ⟨rfl, rfl⟩ := hg (by omega)
  have hp : pieces [97, 97, 97, 97] (3 : Int).toNat = [[97, 97, 97], [97]] := by decide
  rw [hp] at hl ⊢
  have X1 : Hid (Below w.heap.size w w1) := Lib.hid (((Below.refl _ w).alloc (Nat.le_refl _) _).trans (hl.bel.mono (by simp)))
  have HL := Lib.hid hl.lists
  clear hl hp hg HC1
  go_wp2_with fail
  refine (HC2.out w1).mono ?_
  rintro e w2 ⟨rfl, hb⟩
  have X2 : Hid (Below w.heap.size w w2) := Lib.hid ((X1.out.alloc X1.out.size _).trans (hb.mono (by have := X1.out.size; simp; omega)))
  have HL2 := Lib.hid (HL.out.kept (((Below.refl _ w1).alloc (Nat.le_refl _) _).trans (hb.mono (by simp))))
  clear hb HC2 X1 HL
  go_wp2_with fail
  refine (HC3.out w2).mono ?_
  rintro e w3 ⟨rfl, hb⟩
  have X3 : Hid (Below w.heap.size w w3) := Lib.hid ((X2.out.alloc X2.out.size _).trans (hb.mono (by have := X2.out.size; simp; omega)))
  have HL3 := Lib.hid (HL2.out.kept (((Below.refl _ w2).alloc (Nat.le_refl _) _).trans (hb.mono (by simp))))
  clear hb HC3 X2 HL2
  go_wp2_with fail
  refine (HC4.out w3).mono ?_
  rintro e w4 ⟨rfl, hb⟩
  have X4 : Hid (Below w.heap.size w w4) := Lib.hid ((X3.out.alloc X3.out.size _).trans (hb.mono (by have := X3.out.size; simp; omega)))
  have HL4 := Lib.hid (HL3.out.kept (((Below.refl _ w3).alloc (Nat.le_refl _) _).trans (hb.mono (by simp))))
  clear hb HC4 X3 HL3
  obtain ⟨b, o, A0, c0, rfl, y0, r0⟩ := HL4.out.at_ (k := 0) (by simp)
  obtain ⟨b', o', A1, c1, eA, y1, r1⟩ := HL4.out.at_ (k := 1) (by simp)
  injection eA with eA
  injection eA with e1 e2 e3
  subst e1 e2
  simp only [List.getElem_cons_zero, List.getElem_cons_succ, List.length_cons, List.length_nil, Nat.zero_add, Nat.reduceAdd, Nat.add_zero] at y0 y1 r0 r1
  have s0 := run_str r0
  have s1 := run_str r1
  rw [show str [97, 97, 97] = ⟨#[97, 97, 97]⟩ from rfl] at s0
  rw [show str [97] = ⟨#[97]⟩ from rfl] at s1
  clear r0 r1 kc
  go_wp2_with fail
  go_ret
  exact ⟨rfl, X4.out⟩
end Go.Proofs.Ytialecghpekcnaa
