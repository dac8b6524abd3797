/-
  A slice that is read, out of a block of T; over no program.
  Conditions: none.
-/
import Derived.Test.YtcipljpalohjiaaDoorBy
import Derived.Test.YtcipljpalohjiaaDoorSeqT
namespace Go.Proofs.YtcipljpalohjiaaDoor
open Go.RowKit

/-- A slice that is read, out of a block of T. -/
def RdT (T : Nat → Prop) (w : World) (v : Value) (xs : List Value) : Prop := Rd w v xs ∧ ∀ b o n c, v = .slice (some ⟨b, o, none⟩) n c → 0 < xs.length → T b
theorem RdT.still {T : Nat → Prop} {w w' : World} {v : Value} {xs : List Value} (h : RdT T w v xs) (hs : Still T w w') : RdT T w' v xs := by
  obtain ⟨⟨A, c, rfl, hle, h1, hr⟩, ht⟩ := h
  refine ⟨⟨A, c, rfl, hle, h1, fun hp => ?_⟩, ht⟩
  obtain ⟨b, o, rfl, hx⟩ := hr hp
  exact ⟨b, o, rfl, fun j u hu => (World.cell?_of_block (hs.same b (ht b o _ c rfl hp) (World.block_lt_of_cell? w _ (hx j u hu)))).trans (hx j u hu)⟩
theorem RdT.mono {S T : Nat → Prop} {w : World} {v : Value} {xs : List Value} (h : RdT T w v xs) (hs : ∀ b, T b → S b) : RdT S w v xs := ⟨h.1, fun b o n c e hp => hs b (h.2 b o n c e hp)⟩
theorem RdT.below {T : Nat → Prop} {w w' : World} {v : Value} {xs : List Value} (h : RdT T w v xs) (hb : Below w.heap.size w w') : RdT T w' v xs := h.still ⟨hb.size, fun b _ hl => hb.block b hl⟩
theorem Rd.old {w : World} {v : Value} {xs : List Value} (h : Rd w v xs) : RdT (fun b => b < w.heap.size) w v xs := by
  refine ⟨h, fun b o n c e hp => ?_⟩
  obtain ⟨A, c', rfl, hle, h1, hr⟩ := h
  obtain ⟨b', o', rfl, hx⟩ := hr hp
  cases e
  exact World.block_lt_of_cell? w _ (hx 0 _ (List.getElem?_eq_getElem hp))

theorem RdT.bound {T : Nat → Prop} {w : World} {v : Value} {xs : List Value} (h : RdT T w v xs) : RdT (fun b => T b ∧ b < w.heap.size) w v xs :=
  ⟨h.1, fun b o n c e hp => ⟨h.2 b o n c e hp, h.1.old.2 b o n c e hp⟩⟩
end Go.Proofs.YtcipljpalohjiaaDoor
