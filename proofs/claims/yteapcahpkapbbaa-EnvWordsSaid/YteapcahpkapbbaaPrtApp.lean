/-
  Parts of words: side by side in a new block; append(append([]api.Part{}, a...), b...), as two equations.
  Conditions: at most 4194304 parts together.
-/
import Derived.Test.YteapcahpkapbbaaPrtMem
import Derived.Test.YteapcahpkapbbaaJoinB
namespace Go.Proofs.Yteapcahpkapbbaa
open Go.RowKit

/-- Parts side by side in a new block. -/
def pcs (ps : List Prt) : List Value := ps.flatMap fun p => [.bool p.var, .string (str p.s)]
theorem prts_new (w : World) (ps : List Prt) (C : Array Value) (n : Nat) (hn : n = ps.length) (hC : C.toList = pcs ps) : Prts all (w.alloc (.cells C 57)) (.slice (some ⟨w.heap.size, 0, none⟩) n n) ps := by
  subst hn
  refine ⟨_, _, rfl, Nat.le_refl _, fun _ => ⟨_, 0, rfl, trivial, fun j x hj => ?_⟩⟩
  have hcell : ∀ (l : List Prt) (j : Nat) (x : Prt), l[j]? = some x → (pcs l)[j * 2]? = some (.bool x.var) ∧ (pcs l)[j * 2 + 1]? = some (.string (str x.s)) := by
    intro l
    induction l with
    | nil => intro j x h; simp at h
    | cons y l ih =>
      intro j x h
      have e : pcs (y :: l) = .bool y.var :: .string (str y.s) :: pcs l := rfl
      cases j with
      | zero => simp at h; subst h; exact ⟨rfl, rfl⟩
      | succ j =>
        rw [e, show (j + 1) * 2 = j * 2 + 1 + 1 by omega]
        exact ih j x (by simpa using h)
  obtain ⟨k0, k1⟩ := hcell ps j x hj
  have hb := Blk.new w 57 C
  refine ⟨?_, ?_⟩
  · rw [Nat.zero_add, hb.cell, ← Array.getElem?_toList, hC]; exact k0
  · rw [Nat.zero_add, hb.cell, ← Array.getElem?_toList, hC]; exact k1
theorem pcs_len (ps : List Prt) : (pcs ps).length = ps.length * 2 := by
  induction ps with
  | nil => rfl
  | cons p l ih => rw [show pcs (p :: l) = .bool p.var :: .string (str p.s) :: pcs l from rfl, List.length_cons, List.length_cons, ih, List.length_cons]; omega
theorem pcs_at : ∀ {l : List Prt} {j : Nat} {x : Prt}, l[j]? = some x → (pcs l)[j * 2]? = some (.bool x.var) ∧ (pcs l)[j * 2 + 1]? = some (.string (str x.s))
  | [], _, _, h => by simp at h
  | y :: l, 0, x, h => by simp at h; subst h; exact ⟨rfl, rfl⟩
  | y :: l, j + 1, x, h => by
    have := pcs_at (l := l) (j := j) (x := x) (by simpa using h)
    rw [show pcs (y :: l) = .bool y.var :: .string (str y.s) :: pcs l from rfl, show (j + 1) * 2 = j * 2 + 1 + 1 by omega]
    exact this
theorem pcs_one (ps : List Prt) : ∀ u ∈ pcs ps, u.oneCell' = true := by
  intro u hu
  unfold pcs at hu
  obtain ⟨p, _, hp⟩ := List.mem_flatMap.1 hu
  simp at hp
  rcases hp with rfl | rfl <;> rfl
/-- Which cell of the row is which part's. -/
theorem pcs_inv {ps : List Prt} {i : Nat} {u : Value} (h : (pcs ps)[i]? = some u) : ∃ j x, ps[j]? = some x ∧ ((i = j * 2 ∧ u = .bool x.var) ∨ (i = j * 2 + 1 ∧ u = .string (str x.s))) := by
  have hl := (List.getElem?_eq_some_iff.1 h).1
  rw [pcs_len] at hl
  have hj : i / 2 < ps.length := by omega
  refine ⟨i / 2, ps[i / 2], List.getElem?_eq_getElem hj, ?_⟩
  obtain ⟨k0, k1⟩ := pcs_at (List.getElem?_eq_getElem hj)
  rcases (show i = i / 2 * 2 ∨ i = i / 2 * 2 + 1 by omega) with e | e
  · exact .inl ⟨e, by rw [← e, h] at k0; injection k0⟩
  · exact .inr ⟨e, by rw [← e, h] at k1; injection k1⟩
theorem prts_src {S : Nat → Prop} {w : World} {v : Value} {ps : List Prt} (h : Prts S w v ps) : Src Try.prog 2 31 v ps.length (pcs ps) w := by
  obtain ⟨A, c, rfl, hle, hr⟩ := h
  rcases Nat.eq_zero_or_pos ps.length with h0 | hp
  · obtain rfl : ps = [] := List.eq_nil_of_length_eq_zero h0
    cases A with
    | none => exact Src.ofNil w Try.underlying31 c
    | some a => exact Src.ofSlice w Try.underlying31 a 0 c [] rfl (by intro j u hu; simp at hu) (by simp)
  · obtain ⟨b, o, rfl, _, hx⟩ := hr hp
    refine Src.ofSlice w Try.underlying31 ⟨b, o, none⟩ _ c (pcs ps) (pcs_len ps) (fun i u hu => ?_) (pcs_one ps)
    obtain ⟨j, x, hj, he⟩ := pcs_inv hu
    obtain ⟨c0, c1⟩ := hx j x hj
    rw [add_eq]
    rcases he with ⟨rfl, rfl⟩ | ⟨rfl, rfl⟩
    · exact c0
    · exact c1
theorem prts_row {w : World} {g : Option Nat} {A : Option Addr} {n c : Nat} {ps : List Prt} (hn : n = ps.length) (h : RowS w 57 2 g (.slice A n c) n (pcs ps)) : Prts all w (.slice A n c) ps := by
  subst hn
  refine ⟨A, c, rfl, ?_, fun hp => ?_⟩
  · obtain ⟨_, _, e, _, hle, _⟩ := h
    injection e with _ _ e3
    omega
  · obtain ⟨b, o, c', e, _, _, hx⟩ := h.cells hp
    injection e with e1 _ _
    exact ⟨b, o, e1, trivial, fun j x hj => ⟨hx _ _ (pcs_at hj).1, hx _ _ (pcs_at hj).2⟩⟩
theorem part_info : (Try.prog.info? 57).map (fun i => (i.zero, i.size, i.bytes)) = some (some (.agg #[.bool false, .string ⟨#[]⟩]), 2, 24) := by kernel_rfl
theorem joined_p {S T : Nat → Prop} {V : World} {A B : Option Addr} {ca cb : Nat} {a b : List Prt} (ha : Prts S V (.slice A a.length ca) a) (hb : Prts T V (.slice B b.length cb) b) (hn : a.length + b.length ≤ 4194304) :
    ∃ A5 c5 w5 A7 c7 w7, (Builtin.append_ #[31, 31] 31 #[.slice (some ⟨V.heap.size, 0, none⟩) 0 0, .slice A a.length ca]).run Try.prog (V.alloc (.cells #[] 57)) = .ok (.slice A5 a.length c5) w5 ∧
      (Builtin.append_ #[31, 31] 31 #[.slice A5 a.length c5, .slice B b.length cb]).run Try.prog w5 = .ok (.slice A7 (a.length + b.length) c7) w7 ∧
      Below V.heap.size V w7 ∧ Prts all w7 (.slice A7 (a.length + b.length) c7) (a ++ b) := by
  obtain ⟨i0, hi0, hz0, hz1, hz2⟩ := info_parts part_info
  have hbd : Below V.heap.size V (V.alloc (.cells #[] 57)) := (Below.refl V.heap.size V).alloc (Nat.le_refl _) _
  have hr0 : RowS (V.alloc (.cells #[] 57)) 57 2 none (.slice (some ⟨V.heap.size, 0, none⟩) 0 0) 0 [] := ⟨_, 0, rfl, by simp, Nat.le_refl _, Nat.zero_le _, by simp, .inl ⟨rfl, rfl⟩⟩
  obtain ⟨v5, w5, g5, hrun5, hr5, hg5, hg5'⟩ := run_append_rowS (P := Try.prog) (V.alloc (.cells #[] 57)) 31 31 31 57 i0 _ 2 24 Try.underlying31 hi0 hz0 hz1 hz2 rfl hr0 _ a.length (pcs a) (prts_src (SlI.below prt_ok ha hbd)) (by simp only [maxLen]; omega) (by omega)
  obtain ⟨A5, c5, rfl, -⟩ := hr5.form
  rw [List.nil_append, Nat.zero_add] at hr5
  rw [Nat.zero_add] at hrun5
  have hb5 : Below V.heap.size V w5 := hbd.grown hg5 (by simp) (by simp)
  have hf5 : ∀ k, g5 = some k → V.heap.size ≤ k := by
    intro k e
    rcases hg5' with e' | e'
    · rw [e'] at e; cases e
    · rw [e] at e'; simp at e'; omega
  obtain ⟨v7, w7, g7, hrun7, hr7, hg7, hg7'⟩ := run_append_rowS (P := Try.prog) w5 31 31 31 57 i0 _ 2 24 Try.underlying31 hi0 hz0 hz1 hz2 rfl hr5 _ b.length (pcs b) (prts_src (SlI.below prt_ok hb hb5)) (by simp only [maxLen]; omega) (by omega)
  obtain ⟨A7, c7, rfl, -⟩ := hr7.form
  refine ⟨A5, c5, w5, A7, c7, w7, hrun5, hrun7, hb5.grown hg7 hb5.size hf5, prts_row (g := g7) (by rw [List.length_append]) (by rw [show pcs (a ++ b) = pcs a ++ pcs b by simp [pcs]]; exact hr7)⟩
end Go.Proofs.Yteapcahpkapbbaa
