/-
  Lists of structs out of the arguments, their bulk; branches out of the arguments.
  Conditions: those of each theorem.
-/
import Derived.Test.YtcipljpalohjiaaDoorSlI
import Derived.Test.YtcipljpalohjiaaDoorMtH
import Derived.Deep.Slices
import Derived.Deep.Fields
import Derived.Deep.Strs
import Derived.ChangeSame
import Derived.ChangeSlices
import Derived.Test.YtcipljpalohjiaaDoorRows
import Derived.Test.YtcipljpalohjiaaDoorMtD
namespace Go.Proofs.YtcipljpalohjiaaDoor
open Go.RowKit

theorem choose_list {α : Type} {P : Nat → α → Prop} : ∀ {n : Nat}, (∀ i, i < n → ∃ x, P i x) → ∃ l : List α, l.length = n ∧ ∀ i (h : i < l.length), P i l[i]
  | 0, _ => ⟨[], rfl, fun i h => by simp at h⟩
  | n + 1, h => by
    obtain ⟨l, hl, hp⟩ := choose_list (n := n) fun i hi => h i (by omega)
    obtain ⟨x, hx⟩ := h n (by omega)
    refine ⟨l ++ [x], by simp [hl], fun i hi => ?_⟩
    rw [List.length_append, List.length_singleton] at hi
    by_cases e : i < l.length
    · rw [List.getElem_append_left e]; exact hp i e
    · obtain rfl : i = n := by omega
      rw [List.getElem_append_right (by omega)]
      simpa [hl] using hx
theorem no_spot {W : World} {a : Addr} {u : Value} (h : W.cell? (a.add 0) = some u) : ∃ b o, a = ⟨b, o, none⟩ := by
  have hs := World.cell?_spot h
  obtain ⟨b, o, s⟩ := a
  exact ⟨b, o, by simpa [Addr.add] using hs⟩

section
open Go.ChangeShapes Go.WideShapes Go.Deep
variable {H : Type} {enc : TypeId × Value → H} {P : Program} {W : World} {base : Nat} {sp : Nat → Bool} {held : Bool}

/-- How a list is read. -/
def LsRead {α : Type} (R : DataW H → α → Prop) (d : DataW H) (l : List α) : Prop := (d = .nil ∧ l = []) ∨ ∃ D r, d = .slice ((List.range l.length).map D) r ∧ ∀ i (h : i < l.length), R (D i) l[i]
theorem sli_of_trod {α : Type} {s : Nat} {At : AtF α} {R : DataW H → α → Prop} {G : α → Prop} {t e : TypeId} (ht : P.underlying t = some (.slice e)) (hs : P.cellsOf e = s)
    (key : ∀ (a : Addr) (cs : List Value) (n : Nat) (y : DataW H × List MemPlace), cs.length = s → (∀ j, j < s → W.cell? (a.add j) = cs[j]?) → DataW.trod enc P W base sp held n e cs = some y → ∃ b o, a = ⟨b, o, none⟩ ∧ ∃ x, At all W b o x ∧ G x ∧ R y.1 x)
    {fuel : Nat} {v : Value} {y : DataW H × List MemPlace} (h : DataW.trod enc P W base sp held fuel t [v] = some y) :
    ∃ l, SlI s At all W v l ∧ (∀ x ∈ l, G x) ∧ LsRead R y.1 l ∧ l.length ≤ maxLen := by
  rcases open_slice ht h with ⟨hcs, hx⟩ | ⟨a, len, cap, m, n, D, Pl, hcs, hb, hl, hm, hmm, hx, hi⟩
  · injection hcs with hv _
    subst hv
    exact ⟨[], SlI.nil none 0, by simp, .inl ⟨by rw [hx], rfl⟩, by simp⟩
  · injection hcs with hv _
    subst hv
    have hlm : len ≤ m := by rw [hmm]; split <;> omega
    have k1 : ∀ i, i < len → ∃ x, (∃ b o, a.add (i * s) = ⟨b, o, none⟩ ∧ At all W b o x) ∧ G x ∧ R (D i) x := fun i hil => by
      obtain ⟨cs', hc, ht'⟩ := hi i (by omega)
      rw [hs] at hc
      obtain ⟨_, hcl, hat⟩ := World.cells?_some hc
      obtain ⟨b, o, e1, x, h1, h2, h3⟩ := key _ cs' n _ hcl hat ht'
      exact ⟨x, ⟨b, o, e1, h1⟩, h2, h3⟩
    obtain ⟨l, hL, hp⟩ := choose_list k1
    refine ⟨l, ⟨some a, cap, by rw [hL], by omega, fun h0 => ?_⟩, fun x hx => ?_, .inr ⟨D, _, by rw [hL, hx], fun i h => (hp i h).2.2⟩, by omega⟩
    · obtain ⟨⟨b0, o0, e0, _⟩, _⟩ := hp 0 h0
      obtain ⟨b, o, sp'⟩ := a
      have hn : sp' = none := by
        cases sp' with
        | none => rfl
        | some _ => simp [Addr.add] at e0
      subst hn
      refine ⟨b, o, rfl, trivial, fun j x hj => ?_⟩
      obtain ⟨hjl, rfl⟩ := List.getElem?_eq_some_iff.1 hj
      obtain ⟨⟨b1, o1, e1, h1⟩, _⟩ := hp j hjl
      rw [add_eq] at e1
      injection e1 with e2 e3 _
      rw [← e2, ← e3] at h1
      exact h1
    · obtain ⟨i, hi2, rfl⟩ := List.getElem_of_mem hx
      exact (hp i hi2).2.1
end

end Go.Proofs.YtcipljpalohjiaaDoor
namespace Go.Proofs.YtcipljpalohjiaaDoor
open Go.RowKit

theorem bulk_ls {H α : Type} {R : DataW H → α → Prop} {f : α → Nat} (k : ∀ d x, R d x → f x ≤ Rows.uptoBulk d) {d : DataW H} {l : List α} (h : LsRead R d l) : (l.map f).sum ≤ Rows.uptoBulk d := by
  rcases h with ⟨_, rfl⟩ | ⟨D, r, rfl, h⟩
  · simp
  · have key : ∀ (m : List α) (i : Nat), (∀ j (hj : j < m.length), R (D (i + j)) m[j]) → (m.map f).sum ≤ Rows.uptoBulkAll ((List.range' i m.length).map D) := by
      intro m
      induction m with
      | nil => intro i _; simp
      | cons a m ih =>
        intro i hm
        have h1 := ih (i + 1) (fun j hj => by
          have := hm (j + 1) (by simpa using hj)
          rw [show i + 1 + j = i + (j + 1) by omega]
          simpa using this)
        have h2 := k _ _ (hm 0 (by simp))
        rw [List.map_cons, List.sum_cons, List.length_cons, List.range'_succ, List.map_cons, Rows.uptoBulkAll]
        simp only [Nat.add_zero, List.getElem_cons_zero] at h2
        omega
    have h0 := key l 0 (fun j hj => by rw [Nat.zero_add]; exact h j hj)
    rw [← List.range_eq_range'] at h0
    simp only [Rows.uptoBulk]; omega
theorem le_sum {α : Type} {f : α → Nat} {l : List α} {x : α} (h : x ∈ l) : f x ≤ (l.map f).sum := by
  induction l with
  | nil => cases h
  | cons a l ih =>
    rw [List.map_cons, List.sum_cons]
    rcases List.mem_cons.1 h with rfl | h
    · omega
    · have := ih h; omega
end Go.Proofs.YtcipljpalohjiaaDoor
namespace Go.Proofs.YtcipljpalohjiaaDoor
open Go.RowKit

section
open Go.ChangeShapes Go.WideShapes Go.Deep
variable {H : Type} {enc : TypeId × Value → H} {W : World} {base : Nat} {sp : Nat → Bool} {held : Bool}
theorem brc_fields : ∃ f0 f1, Tryd.prog.underlying 45 = some (.struct #[f0, f1]) ∧ f0.offset = 0 ∧ f1.offset = 1 ∧ f0.type = 3 ∧ f1.type = 9 := ⟨_, _, Tryd.underlying45, rfl, rfl, rfl, rfl⟩
theorem brc_cells_str : Tryd.prog.cellsOf 9 = 1 := by kernel_rfl
theorem brc_cells_int : Tryd.prog.cellsOf 3 = 1 := by kernel_rfl
/-- How a branch is read. -/
def BrcRead (d : DataW H) (x : Brc) : Prop := ∃ a : DataW H, ∃ t : List UInt8, d = .agg [a, .lit (.string t)] ∧ t.length = x.pat.length

set_option maxRecDepth 100000 in
theorem brs_of_trod {fuel : Nat} {v : Value} {y : DataW H × List MemPlace} (h : DataW.trod enc Tryd.prog W base sp held fuel 23 [v] = some y) :
    ∃ l, Brs all W v l ∧ (∀ x ∈ l, BrIn x) ∧ LsRead BrcRead y.1 l ∧ l.length ≤ 9223372036854775807 := by
  refine sli_of_trod Tryd.underlying23 (by kernel_rfl) (fun a cs n y hcl hat ht => ?_) h
  obtain ⟨f0, f1, hf, o0, o1, t0, t1⟩ := brc_fields
  obtain ⟨ys, n', _, hy, hlen, hyl, hg⟩ := DataW.trod_struct hf ht
  have g0 := hg 0 f0 rfl
  have g1 := hg 1 f1 rfl
  rw [o0, t0, brc_cells_int] at g0
  rw [o1, t1, brc_cells_str] at g1
  match cs, hcl with
  | [v0, v1], _ =>
    have c0 := hat 0 (by omega)
    have c1 := hat 1 (by omega)
    match ys, hyl with
    | [y0, y1], _ =>
      simp only [List.drop, List.take, List.getElem?_cons_zero, List.getElem?_cons_succ] at g0 g1 c0 c1
      obtain ⟨k, e0, _, hw⟩ := DataW.trod_int Tryd.underlying3 g0
      obtain ⟨s, e1, e2, hs⟩ := DataW.trod_string Tryd.underlying9 g1
      simp at e0 e1
      subst e0 e1
      obtain ⟨b, o, rfl⟩ := no_spot c0
      rw [add_eq] at c0 c1
      obtain ⟨l, rfl, hl, hll⟩ := str_of s
      refine ⟨b, o, rfl, ⟨k, l⟩, ⟨c0, c1⟩, ⟨hl, by rw [str_len] at hs; exact hs, wf_i64 hw⟩, y0.1, (str l).data.toList, ?_, hll.symm⟩
      rw [hy, e2]; rfl
/-- Each pattern is no longer than the bulk of what is read. -/
theorem brs_bulk {d : DataW H} {l : List Brc} (h : LsRead BrcRead d l) : ∀ x ∈ l, x.pat.length ≤ Rows.uptoBulk d := fun x hx => by
  have h1 := bulk_ls (f := fun x : Brc => x.pat.length) (fun d c hc => by
    obtain ⟨a, t, rfl, ht⟩ := hc
    simp only [Rows.uptoBulk, Rows.uptoBulkAll]; omega) h
  exact Nat.le_trans (le_sum (f := fun x : Brc => x.pat.length) hx) h1
end
end Go.Proofs.YtcipljpalohjiaaDoor
