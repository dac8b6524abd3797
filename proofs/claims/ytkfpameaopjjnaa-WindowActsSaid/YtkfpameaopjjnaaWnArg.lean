/-
  The acts of layer 14's laws (a kind, a number, bytes) as they are read out of the arguments.
  Conditions: none.
-/
import Derived.Test.YtkfpameaopjjnaaEvL
namespace Go.Proofs.Ytkfpameaopjjnaa
open Go.RowKit

section
open Go.ChangeShapes Go.WideShapes Go.Deep
variable {H : Type} {enc : TypeId × Value → H} {W : World} {base : Nat} {sp : Nat → Bool} {held : Bool}

theorem act_fields : ∃ f0 f1 f2, Try.prog.underlying 34 = some (.struct #[f0, f1, f2]) ∧ f0.offset = 0 ∧ f1.offset = 1 ∧ f2.offset = 2 ∧ f0.type = 3 ∧ f1.type = 3 ∧ f2.type = 30 :=
  ⟨_, _, _, Try.underlying34, rfl, rfl, rfl, rfl, rfl, rfl⟩
theorem act_cells : Try.prog.cellsOf 34 = 3 := by kernel_rfl
theorem int_cells : Try.prog.cellsOf 3 = 1 := by kernel_rfl
theorem bytes_cells : Try.prog.cellsOf 30 = 1 := by kernel_rfl

/-- How an act is read. -/
def EvRead (d : DataW H) (a : Ev) : Prop := ∃ x y z, d = .agg [x, y, z] ∧ (a.data = [] ∨ ∃ zs r, z = .slice zs r ∧ zs.length = a.data.length)
/-- How a list is read. -/
def EvsRead (d : DataW H) (l : List Ev) : Prop := (d = .nil ∧ l = []) ∨ ∃ D r, d = .slice ((List.range l.length).map D) r ∧ ∀ i a, l[i]? = some a → EvRead (D i) a

set_option maxRecDepth 100000 in
/-- The events behind a slice, as they are read. -/
theorem acts_of_trod_t {fuel : Nat} {v : Value} {y : DataW H × List MemPlace} (h : DataW.trod enc Try.prog W base sp held fuel 22 [v] = some y) : ∃ l, Evs W v l ∧ EvsRead y.1 l ∧ ∀ a ∈ l, -9223372036854775808 ≤ a.time ∧ a.time ≤ 9223372036854775807 := by
  rcases open_slice Try.underlying22 h with ⟨hcs, hx⟩ | ⟨a, len, cap, m, n, D, Pl, hcs, hb, hl, hm, hmm, hx, hi⟩
  · injection hcs with hv _
    subst hv
    exact ⟨[], EvsIn.nil W _ _, .inl ⟨by rw [hx], rfl⟩, by simp⟩
  · injection hcs with hv _
    have hlm : len ≤ m := by rw [hmm]; split <;> omega
    obtain ⟨f0, f1, f2, hf, o0, o1, o2, t0, t1, t2⟩ := act_fields
    have key : ∀ i, i < len → ∃ x : Ev, (W.cell? (a.add (i * 3)) = some (.int .i64 x.dir) ∧ W.cell? (a.add (i * 3 + 1)) = some (.int .i64 x.time) ∧ W.cell? (a.add (i * 3 + 2)) = some (.slice x.A x.data.length x.c)) ∧ EvOk (fun _ => True) W x ∧ EvRead (D i) x ∧ (-9223372036854775808 ≤ x.time ∧ x.time ≤ 9223372036854775807) := by
      intro i hil
      obtain ⟨cs', hc, ht⟩ := hi i (by omega)
      rw [act_cells] at hc
      obtain ⟨_, hcl, hat⟩ := World.cells?_some hc
      obtain ⟨ys, n', _, hy, hlen, hyl, hg⟩ := DataW.trod_struct hf ht
      have g0 := hg 0 f0 rfl
      have g1 := hg 1 f1 rfl
      have g2 := hg 2 f2 rfl
      rw [o0, t0, int_cells] at g0
      rw [o1, t1, int_cells] at g1
      rw [o2, t2, bytes_cells] at g2
      match cs', hcl with
      | [v0, v1, v2], _ =>
        have c0 := hat 0 (by omega)
        have c1 := hat 1 (by omega)
        have c2 := hat 2 (by omega)
        rw [Go.Deep.add_add] at c0 c1 c2
        match ys, hyl with
        | [y0, y1, y2], _ =>
          simp only [List.drop, List.take, List.getElem?_cons_zero, List.getElem?_cons_succ] at g0 g1 g2 c0 c1 c2
          obtain ⟨k, e0, _, _⟩ := DataW.trod_int Try.underlying3 g0
          obtain ⟨num, e1, _, hwt⟩ := DataW.trod_int Try.underlying3 g1
          obtain ⟨A, nn, c, zs, e2, hn, hmx, hrd, hwf, hread⟩ := nums_of_trod Try.underlying30 Try.underlying5 (by kernel_rfl) g2
          simp at e0 e1
          subst e0 e1 e2
          have hzl : (zs.map Int.toNat).length = nn := by rw [List.length_map, hn]
          rw [nums_nat .u8 (fun z hz => (wf_u8 (hwf z hz)).1)] at hrd
          refine ⟨⟨k, num, A, c, zs.map Int.toNat⟩, ⟨by simpa using c0, c1, by rw [hzl]; exact c2⟩, ⟨by rw [hzl]; exact hrd, by rw [hzl]; simp only [maxLen] at hmx; omega, fun b hb => by obtain ⟨z, hz, rfl⟩ := List.mem_map.1 hb; have := wf_u8 (hwf z hz); omega, fun _ _ _ => trivial⟩, ⟨y0.1, y1.1, y2.1, ?_, ?_⟩, wf_i64 hwt⟩
          · simp only [Prod.mk.injEq] at hy
            simpa using hy.1
          · rcases hread with ⟨_, rfl⟩ | ⟨r, hr⟩
            · exact .inl rfl
            · exact .inr ⟨_, r, hr, by simp [lits]⟩
    obtain ⟨f, hfx⟩ := choose_lt key
    have hfl : ((List.range len).map f).length = len := by simp
    have hfa : ∀ j x, ((List.range len).map f)[j]? = some x → j < len ∧ f j = x := by
      intro j x hx
      have hj : j < len := by
        rcases Nat.lt_or_ge j len with h | h
        · exact h
        · rw [List.getElem?_eq_none (by simpa using h)] at hx; cases hx
      rw [List.getElem?_map, List.getElem?_range hj] at hx
      simp at hx
      exact ⟨hj, hx⟩
    refine ⟨(List.range len).map f, ⟨by simp only [maxLen] at hm; omega, fun x hx => ?_, some a, cap, by rw [hfl]; exact hv, by omega, fun hp => ?_⟩, .inr ⟨D, _, by rw [hfl, hx], fun i x hx => ?_⟩, fun x hx => ?_⟩
    · obtain ⟨j, hj⟩ := List.mem_iff_getElem?.1 hx
      obtain ⟨h1, rfl⟩ := hfa j x hj
      exact (hfx j h1).2.1
    · have hp' : 0 < len := by omega
      have h0 := (hfx 0 hp').1.1
      obtain ⟨b, o, s⟩ := a
      have hs : s = none := by
        cases s with
        | none => rfl
        | some _ => simp [World.cell?, Addr.add] at h0; split at h0 <;> simp_all
      subst hs
      refine ⟨b, o, rfl, trivial, fun j x hx => ?_⟩
      obtain ⟨h1, rfl⟩ := hfa j x hx
      obtain ⟨⟨k0, k1, k2⟩, _⟩ := hfx j h1
      rw [add_eq] at k0 k1 k2
      exact ⟨k0, by rw [Nat.add_assoc]; exact k1, by rw [Nat.add_assoc]; exact k2⟩
    · obtain ⟨h1, rfl⟩ := hfa i x hx
      exact (hfx i h1).2.2.1
    · obtain ⟨j, hj⟩ := List.mem_iff_getElem?.1 hx
      obtain ⟨h1, rfl⟩ := hfa j x hj
      exact (hfx j h1).2.2.2
theorem acts_of_trod {fuel : Nat} {v : Value} {y : DataW H × List MemPlace} (h : DataW.trod enc Try.prog W base sp held fuel 22 [v] = some y) : ∃ l, Evs W v l ∧ EvsRead y.1 l := by
  obtain ⟨l, h1, h2, _⟩ := acts_of_trod_t h
  exact ⟨l, h1, h2⟩
end
end Go.Proofs.Ytkfpameaopjjnaa
