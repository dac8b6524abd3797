/-
  slices.Clone, of numbers: the same numbers in memory of their own.
  Conditions: at most 17592186044416 numbers.
-/
import Derived.Test.YtigapfgfbdofoaaKBord
namespace Go.Proofs.Ytigapfgfbdofoaa
open Go.RowKit

/-- Numbers that are handed out in a row of their own. -/
def IntsTo (w : World) (zs : List Int) (e : Ending) (w' : World) : Prop :=
  ∃ A c g, e = .returned (.slice A zs.length c) ∧ Row w' 3 g (.slice A zs.length c) (iv zs) ∧ (∀ b, g = some b → w.heap.size ≤ b) ∧ Below w.heap.size w w'

set_option maxRecDepth 100000 in
theorem Clone_i (A : Option Addr) (n c : Nat) (l : List Int) (w : World) (h : Rd w (.slice A n c) (iv l)) (hn : l.length ≤ 17592186044416) :
    Calls Try.prog 30 #[.slice A n c] w (IntsTo w l) := by
  obtain ⟨i0, hi0, hz0, hz1, hz2⟩ := info_parts int_info
  obtain ⟨rfl, -⟩ := h.ints
  have hnil := fun W => Lib.run_eql_slice_nil (P := Try.prog) W 22 3 A l.length c 0 0 Try.underlying22
  cases A with
  | none =>
    have hl : l = [] := by
      rcases Nat.eq_zero_or_pos l.length with h0 | h0
      · exact List.eq_nil_of_length_eq_zero h0
      · obtain ⟨b, o, e4, _⟩ := h.ints.2.2 h0
        cases e4
    subst hl
    simp only [List.length_nil] at hnil ⊢
    clear h
    go_enter Try.func30, Try.ntmps30
    go_wp2
    go_ret
    exact ⟨none, 0, none, rfl, Row.nil _ _, by simp, Below.refl _ _⟩
  | some a =>
    have H := Lib.hid h
    clear h
    go_enter Try.func30, Try.ntmps30
    go_wp2_with (at_builtin; refine wpList_append_row _ rfl (.tmp 5) (.tmp 6) _ rfl 3 i0 _ 8 Try.underlying22 hi0 hz0 hz1 hz2 rfl none _ [] rfl (Row.empty _ _ _) _ (iv l) rfl (H.out.alloc _) (by rw [iv_len]; simp only [maxLen, List.length_nil]; omega) (by rw [iv_len]; simp only [List.length_nil]; omega) ?_; intro B' d' w7 gn hrow' hgr hgn; simp only [iv_len, List.length_nil, Nat.zero_add, List.nil_append] at hrow' ⊢; have Y := Lib.hid (And.intro hrow' (And.intro hgr hgn)); clear hrow' hgr hgn)
    go_ret
    obtain ⟨y1, y2, y3⟩ := Y.out
    refine ⟨B', d', gn, rfl, y1, ?_, ((Below.refl _ w).alloc (Nat.le_refl _) _).grown y2 (by simp) (by simp)⟩
    intro b e
    rcases y3 with rfl | rfl
    · cases e
    · simp at e; omega

end Go.Proofs.Ytigapfgfbdofoaa
