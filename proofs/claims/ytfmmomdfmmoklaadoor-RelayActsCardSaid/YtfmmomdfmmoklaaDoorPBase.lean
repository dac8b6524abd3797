/-
  Slices of numbers as the model has them (iv), beside a queue of bytes.
  Conditions: none.
-/
import Derived.Test.YtfmmomdfmmoklaaDoorQbPut
import Derived.Deep.RegionHeld3
namespace Go.Proofs.YtfmmomdfmmoklaaDoor
open Go.RowKit

/-- Numbers as values. -/
abbrev iv (zs : List Int) : List Value := zs.map (Value.int .i64)

theorem iv_one (zs : List Int) : ∀ u ∈ iv zs, u.oneCell' = true := by
  intro u hu
  obtain ⟨z, _, rfl⟩ := List.mem_map.1 hu
  rfl

/-- What is read of a slice of numbers that holds any. -/
theorem Rd.ints {w : World} {A : Option Addr} {n c : Nat} {zs : List Int} (h : Rd w (.slice A n c) (iv zs)) :
    n = zs.length ∧ zs.length ≤ c ∧ (0 < zs.length → ∃ b o, A = some ⟨b, o, none⟩ ∧ ∀ j, j < zs.length → w.cell? ⟨b, o + j, none⟩ = some (.int .i64 (zs[j]?.getD 0))) := by
  obtain ⟨A', c', hv, hle, _, hr⟩ := h
  injection hv with e1 e2 e3
  subst e1 e2 e3
  rw [List.length_map] at hle hr ⊢
  refine ⟨rfl, hle, fun hp => ?_⟩
  obtain ⟨b, o, rfl, hx⟩ := hr hp
  refine ⟨b, o, rfl, fun j hj => hx j _ ?_⟩
  simp [hj]

/-- A new slice of the call's own, written out. -/
theorem Rd.lit (w : World) (e : TypeId) (cs : Array Value) (n : Nat) (hn : n = cs.size) (hp : 0 < n) (hm : n ≤ 65536) (h1 : ∀ u ∈ cs.toList, u.oneCell' = true) :
    Rd (w.alloc (.cells cs e)) (.slice (some ⟨w.heap.size, 0, none⟩) n n) cs.toList := (Row.new w e cs n hn (by simp only [maxLen]; omega) hp h1).rd

theorem int_info : (Tryd.prog.info? 3).map (fun i => (i.zero, i.size, i.bytes)) = some (some (.int .i64 0), 1, 8) := by kernel_rfl

theorem take_next (zs : List Int) (k : Nat) (h : k < zs.length) : zs.take (k + 1) = zs.take k ++ [zs[k]?.getD 0] := by
  rw [List.take_succ_eq_append_getElem h]; simp [h]

/-- What is read of a row of numbers that holds any. -/
theorem Row.ints {w : World} {g : Option Nat} {A : Option Addr} {n c : Nat} {zs : List Int} (h : Row w 3 g (.slice A n c) (iv zs)) :
    n = zs.length ∧ (0 < zs.length → ∃ b o, A = some ⟨b, o, none⟩ ∧ ∀ j, j < zs.length → w.cell? ⟨b, o + j, none⟩ = some (.int .i64 (zs[j]?.getD 0))) := by
  obtain ⟨h1, _, h2⟩ := h.rd.ints
  exact ⟨h1, h2⟩
end Go.Proofs.YtfmmomdfmmoklaaDoor
