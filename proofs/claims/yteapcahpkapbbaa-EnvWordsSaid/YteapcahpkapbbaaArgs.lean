/-
  Arguments that are slices of numbers, as they are read; over no program.
  Conditions: none.
-/
import Derived.Test.YteapcahpkapbbaaMem
import Derived.ChangeSame
import Derived.ChangeSlices
import Derived.ProofKit
namespace Go.Proofs.Yteapcahpkapbbaa
open Go.RowKit

section
open Go.ChangeShapes Go.WideShapes
variable {H : Type} {enc : TypeId × Value → H} {P : Program} {W : World} {base : Nat} {sp : Nat → Bool} {held : Bool}

/-- Numbers behind a slice: their cells, that each is one of its kind, and what is read of them. -/
theorem nums_of_trod {t e : TypeId} {k : IntKind} (ht : P.underlying t = some (.slice e)) (he : P.underlying e = some (.int k)) (hc1 : P.cellsOf e = 1) {fuel : Nat} {v : Value} {y : DataW H × List MemPlace}
    (h : DataW.trod enc P W base sp held fuel t [v] = some y) :
    ∃ A n c zs, v = .slice A n c ∧ n = List.length zs ∧ n ≤ maxLen ∧ Rd W (.slice A n c) (zs.map (Value.int k)) ∧ (∀ z ∈ zs, (Lit.int k z).wf = true) ∧
      ((y.1 = .nil ∧ zs = []) ∨ ∃ r, y.1 = .slice (lits k zs) r) := by
  rcases open_ints ht he hc1 h with ⟨hcs, hx⟩ | ⟨a, len', cap', zs, hcs, _, hl, hm, hz, hx, hcell, hwz⟩
  · injection hcs with hv _
    exact ⟨none, 0, 0, [], hv, rfl, Nat.zero_le _, ⟨none, 0, rfl, Nat.le_refl _, by simp, fun h => absurd h (by simp)⟩, by simp, .inl ⟨by rw [hx], rfl⟩⟩
  · injection hcs with hv _
    have hzl : len' ≤ zs.length := by
      rw [hz]; split <;> omega
    have hlen : (zs.take len').length = len' := by simp; omega
    refine ⟨some a, len', cap', zs.take len', hv, hlen.symm, by omega, ⟨some a, cap', by simp; omega, by simp; omega, ?_, fun hp => ?_⟩, fun z hz' => hwz z (List.mem_of_mem_take hz'), .inr ⟨_, by rw [hx]⟩⟩
    · intro u hu
      obtain ⟨z, _, rfl⟩ := List.mem_map.1 hu
      rfl
    have hp' : 0 < len' := by simp at hp; omega
    have key : ∀ j, j < len' → W.cell? (a.add j) = some (.int k (zs.getD j 0)) := fun j hj => hcell j (by omega)
    have ha0 := key 0 hp'
    obtain ⟨b, o, s⟩ := a
    have hs : s = none := by
      cases s with
      | none => rfl
      | some _ => simp [World.cell?, Addr.add] at ha0; split at ha0 <;> simp_all
    subst hs
    refine ⟨b, o, rfl, fun j u hu => ?_⟩
    rw [List.getElem?_map] at hu
    have hj : j < len' := by
      rcases Nat.lt_or_ge j len' with h | h
      · exact h
      · rw [List.getElem?_eq_none (by omega)] at hu; cases hu
    rw [← add_eq, key j hj]
    rw [List.getElem?_take, if_pos hj, List.getElem?_eq_getElem (by omega)] at hu
    rw [← hu]
    simp [List.getD, show j < zs.length by omega]
/-- The same, of a slice that is known to be one. -/
theorem nums_at {t e : TypeId} {k : IntKind} (ht : P.underlying t = some (.slice e)) (he : P.underlying e = some (.int k)) (hc1 : P.cellsOf e = 1) {fuel : Nat} {A : Option Addr} {n c : Nat} {y : DataW H × List MemPlace}
    (h : DataW.trod enc P W base sp held fuel t [.slice A n c] = some y) :
    ∃ zs, n = List.length zs ∧ n ≤ maxLen ∧ Rd W (.slice A n c) (zs.map (Value.int k)) ∧ (∀ z ∈ zs, (Lit.int k z).wf = true) ∧ ((y.1 = .nil ∧ zs = []) ∨ ∃ r, y.1 = .slice (lits k zs) r) := by
  obtain ⟨A', n', c', zs, hv, h1, h2, h3, h4, h5⟩ := nums_of_trod ht he hc1 h
  injection hv with e1 e2 e3
  subst e1 e2 e3
  exact ⟨zs, h1, h2, h3, h4, h5⟩
end

theorem wf_u8 {z : Int} (h : (Lit.int .u8 z).wf = true) : 0 ≤ z ∧ z < 256 := by
  simp [Lit.wf, IntKind.min, IntKind.max, IntKind.signed, IntKind.bits] at h; omega
theorem wf_u64 {z : Int} (h : (Lit.int .u64 z).wf = true) : 0 ≤ z ∧ z < 18446744073709551616 := by
  simp [Lit.wf, IntKind.min, IntKind.max, IntKind.signed, IntKind.bits] at h; omega
theorem wf_i64 {z : Int} (h : (Lit.int .i64 z).wf = true) : -9223372036854775808 ≤ z ∧ z ≤ 9223372036854775807 := by
  simp [Lit.wf, IntKind.min, IntKind.max, IntKind.signed, IntKind.bits] at h; omega

/-- Numbers that aren't below 0, as naturals. -/
theorem nums_nat (k : IntKind) : ∀ {zs : List Int}, (∀ z ∈ zs, 0 ≤ z) → zs.map (Value.int k) = (zs.map Int.toNat).map fun c : Nat => Value.int k (c : Int)
  | [], _ => rfl
  | z :: zs, h => by
    have h0 : ((z.toNat : Nat) : Int) = z := Int.toNat_of_nonneg (h z (by simp))
    rw [List.map_cons, List.map_cons, List.map_cons, nums_nat k (fun z' hz => h z' (List.mem_cons_of_mem _ hz)), h0]
end Go.Proofs.Yteapcahpkapbbaa
