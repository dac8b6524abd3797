/-
  Rows of numbers as values: iv, and what is read of a slice of them; over no program.
  Conditions: none.
-/
import Derived.Test.YtcipljpalohjiaaDoorMem
import Derived.Test.YtcipljpalohjiaaDoorBy
namespace Go.Proofs.YtcipljpalohjiaaDoor
open Go.RowKit

/-- Numbers as values. -/
abbrev iv (zs : List Int) : List Value := zs.map (Value.int .i64)
theorem iv_one (zs : List Int) : ∀ u ∈ iv zs, u.oneCell' = true := by
  intro u hu
  obtain ⟨z, _, rfl⟩ := List.mem_map.1 hu
  rfl
theorem iv_len (zs : List Int) : (iv zs).length = zs.length := List.length_map _
theorem iv_append (a b : List Int) : iv (a ++ b) = iv a ++ iv b := List.map_append

/-- Natural numbers as numbers. -/
def ni (l : List Nat) : List Int := l.map fun n : Nat => (n : Int)
theorem ni_len (l : List Nat) : (ni l).length = l.length := by simp [ni]
theorem ni_snoc (l : List Nat) (x : Nat) : ni (l ++ [x]) = ni l ++ [(x : Int)] := by simp [ni]

/-- What is read of a slice of numbers that holds any. -/
theorem Rd.ints {w : World} {A : Option Addr} {n c : Nat} {zs : List Int} (h : Rd w (.slice A n c) (iv zs)) :
    n = zs.length ∧ zs.length ≤ c ∧ (0 < zs.length → ∃ b o, A = some ⟨b, o, none⟩ ∧ ∀ j, j < zs.length → w.cell? ⟨b, o + j, none⟩ = some (.int .i64 (zs[j]?.getD 0))) := by
  obtain ⟨A', c', hv, hle, _, hr⟩ := h
  injection hv with e1 e2 e3
  subst e1 e2 e3
  rw [List.length_map] at hle hr ⊢
  refine ⟨rfl, hle, fun hp => ?_⟩
  obtain ⟨b, o, rfl, hx⟩ := hr hp
  refine ⟨b, o, rfl, fun j hj => hx j _ ?_⟩
  simp [hj]

/-- A new slice of the call's own, written out. -/
theorem Rd.lit (w : World) (e : TypeId) (cs : Array Value) (n : Nat) (hn : n = cs.size) (hp : 0 < n) (hm : n ≤ 65536) (h1 : ∀ u ∈ cs.toList, u.oneCell' = true) :
    Rd (w.alloc (.cells cs e)) (.slice (some ⟨w.heap.size, 0, none⟩) n n) cs.toList := (Row.new w e cs n hn (by simp only [maxLen]; omega) hp h1).rd
end Go.Proofs.YtcipljpalohjiaaDoor
