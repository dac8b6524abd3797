/-
  Lists of turns, read out of the arguments.
  Conditions: none.
-/
import Derived.Test.YtchfiiiippnigaaTnIn
import Derived.Test.YtchfiiiippnigaaArgs
import Derived.Deep.Slices
import Derived.Deep.Fields
import Derived.Deep.Strs
import Derived.ChangeSame
import Derived.ChangeSlices
namespace Go.Proofs.Ytchfiiiippnigaa
open Go.RowKit

theorem choose_tn {α : Type} {P : Nat → α → Prop} : ∀ {n : Nat}, (∀ i, i < n → ∃ x, P i x) → ∃ l : List α, l.length = n ∧ ∀ i (h : i < l.length), P i l[i]
  | 0, _ => ⟨[], rfl, fun i h => by simp at h⟩
  | n + 1, h => by
    obtain ⟨l, hl, hp⟩ := choose_tn (n := n) fun i hi => h i (by omega)
    obtain ⟨x, hx⟩ := h n (by omega)
    refine ⟨l ++ [x], by simp [hl], fun i hi => ?_⟩
    rw [List.length_append, List.length_singleton] at hi
    by_cases e : i < l.length
    · rw [List.getElem_append_left e]; exact hp i e
    · obtain rfl : i = n := by omega
      rw [List.getElem_append_right (by omega)]
      simpa [hl] using hx

section
open Go.ChangeShapes Go.WideShapes Go.Deep
variable {H : Type} {enc : TypeId × Value → H} {W : World} {base : Nat} {sp : Nat → Bool} {held : Bool}

theorem tn_fields : ∃ f0 f1, Try.prog.underlying 33 = some (.struct #[f0, f1]) ∧ f0.offset = 0 ∧ f1.offset = 1 ∧ f0.type = 31 ∧ f1.type = 31 :=
  ⟨_, _, Try.underlying33, rfl, rfl, rfl, rfl⟩
theorem tn_cells : Try.prog.cellsOf 33 = 2 := by kernel_rfl
theorem tnb_cells : Try.prog.cellsOf 31 = 1 := by kernel_rfl

/-- How a row is read, a turn, a list of them. -/
def TbRead (d : DataW H) (l : List Nat) : Prop := l = [] ∨ ∃ zs r, d = .slice zs r ∧ zs.length = l.length
def TnRead (d : DataW H) (x : Tn) : Prop := ∃ y z, d = .agg [y, z] ∧ TbRead y x.out ∧ TbRead z x.inn
def TnsRead (d : DataW H) (t : List Tn) : Prop := (d = .nil ∧ t = []) ∨ ∃ D r, d = .slice ((List.range t.length).map D) r ∧ ∀ i (h : i < t.length), TnRead (D i) t[i]

set_option maxRecDepth 100000 in
theorem tns_of_trod {fuel : Nat} {v : Value} {y : DataW H × List MemPlace} (h : DataW.trod enc Try.prog W base sp held fuel 24 [v] = some y) :
    ∃ t, Tns W v t ∧ TnBytes t ∧ TnsRead y.1 t := by
  rcases open_slice Try.underlying24 h with ⟨hcs, hx⟩ | ⟨a, len, cap, m, n, D, Pl, hcs, hb, hl, hm, hmm, hx, hi⟩
  · injection hcs with hv _
    subst hv
    exact ⟨[], TnsIn.nil W _ _, (fun x hx => by cases hx), .inl ⟨by rw [hx], rfl⟩⟩
  · injection hcs with hv _
    have hlm : len ≤ m := by rw [hmm]; split <;> omega
    obtain ⟨f0, f1, hf, o0, o1, t0, t1⟩ := tn_fields
    have key : ∀ i, i < len → ∃ x : Tn, (∃ A1 c1 A2 c2, W.cell? (a.add (i * 2)) = some (.slice A1 x.out.length c1) ∧ W.cell? (a.add (i * 2 + 1)) = some (.slice A2 x.inn.length c2) ∧ Rd W (.slice A1 x.out.length c1) (bv x.out) ∧ Rd W (.slice A2 x.inn.length c2) (bv x.inn)) ∧
        ((∀ b ∈ x.out, b < 256) ∧ ∀ b ∈ x.inn, b < 256) ∧ TnRead (D i) x := by
      intro i hil
      obtain ⟨cs', hc, ht⟩ := hi i (by omega)
      rw [tn_cells] at hc
      obtain ⟨_, hcl, hat⟩ := World.cells?_some hc
      obtain ⟨ys, n', _, hy, hlen, hyl, hg⟩ := DataW.trod_struct hf ht
      have g0 := hg 0 f0 rfl
      have g1 := hg 1 f1 rfl
      rw [o0, t0, tnb_cells] at g0
      rw [o1, t1, tnb_cells] at g1
      match cs', hcl with
      | [v0, v1], _ =>
        have c0 := hat 0 (by omega)
        have c1 := hat 1 (by omega)
        rw [Go.Deep.add_add] at c0 c1
        match ys, hyl with
        | [y0, y1], _ =>
          simp only [List.drop, List.take, List.getElem?_cons_zero, List.getElem?_cons_succ] at g0 g1 c0 c1
          obtain ⟨A1, n1, k1, zs1, e1, hn1, _, hrd1, hwf1, hread1⟩ := nums_of_trod Try.underlying31 Try.underlying5 (by kernel_rfl) g0
          obtain ⟨A2, n2, k2, zs2, e2, hn2, _, hrd2, hwf2, hread2⟩ := nums_of_trod Try.underlying31 Try.underlying5 (by kernel_rfl) g1
          subst e1 e2
          have hz1 : (zs1.map Int.toNat).length = n1 := by rw [List.length_map, hn1]
          have hz2 : (zs2.map Int.toNat).length = n2 := by rw [List.length_map, hn2]
          rw [nums_nat .u8 (fun z hz => (wf_u8 (hwf1 z hz)).1)] at hrd1
          rw [nums_nat .u8 (fun z hz => (wf_u8 (hwf2 z hz)).1)] at hrd2
          refine ⟨⟨zs1.map Int.toNat, zs2.map Int.toNat⟩, ⟨A1, k1, A2, k2, ?_, ?_, ?_, ?_⟩, ⟨fun b hb => ?_, fun b hb => ?_⟩, y0.1, y1.1, ?_, ?_, ?_⟩
          · show _ = some (Value.slice A1 (zs1.map Int.toNat).length k1)
            rw [hz1]; simpa using c0
          · show _ = some (Value.slice A2 (zs2.map Int.toNat).length k2)
            rw [hz2]; exact c1
          · show Rd W (Value.slice A1 (zs1.map Int.toNat).length k1) _
            rw [hz1]; exact hrd1
          · show Rd W (Value.slice A2 (zs2.map Int.toNat).length k2) _
            rw [hz2]; exact hrd2
          · obtain ⟨z, hz, rfl⟩ := List.mem_map.1 hb; have := wf_u8 (hwf1 z hz); omega
          · obtain ⟨z, hz, rfl⟩ := List.mem_map.1 hb; have := wf_u8 (hwf2 z hz); omega
          · simp only [Prod.mk.injEq] at hy
            simpa using hy.1
          · rcases hread1 with ⟨_, rfl⟩ | ⟨r, hr⟩
            · exact .inl rfl
            · exact .inr ⟨_, r, hr, by simp [lits]⟩
          · rcases hread2 with ⟨_, rfl⟩ | ⟨r, hr⟩
            · exact .inl rfl
            · exact .inr ⟨_, r, hr, by simp [lits]⟩
    obtain ⟨L, hL, hp⟩ := choose_tn key
    subst hv
    refine ⟨L, ⟨some a, cap, by rw [hL], by omega, fun h0 => ?_⟩, fun x hx => ?_, .inr ⟨D, _, by rw [hL, hx], fun i h => (hp i h).2.2⟩⟩
    · obtain ⟨A1, k1, A2, k2, u1, _⟩ := (hp 0 h0).1
      obtain ⟨b, o, s⟩ := a
      have hs : s = none := by
        cases s with
        | none => rfl
        | some _ => simp [World.cell?, Addr.add] at u1; split at u1 <;> simp_all
      subst hs
      refine ⟨b, o, rfl, trivial, fun j x hj => ?_⟩
      obtain ⟨hjl, rfl⟩ := List.getElem?_eq_some_iff.1 hj
      obtain ⟨A1, k1, A2, k2, u1, u2, r1, r2⟩ := (hp j hjl).1
      rw [add_eq] at u1 u2
      exact ⟨A1, k1, A2, k2, u1, by rw [Nat.add_assoc]; exact u2, ⟨r1, fun _ _ _ _ _ _ => trivial⟩, ⟨r2, fun _ _ _ _ _ _ => trivial⟩⟩
    · obtain ⟨i, hi2, rfl⟩ := List.getElem_of_mem hx
      exact (hp i hi2).2.1
end
end Go.Proofs.Ytchfiiiippnigaa
