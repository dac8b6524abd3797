/-
  The contract of bytes.Clone.
  Conditions: at most 4194304 bytes.
-/
import Derived.Test.YtchfiiiippnigaaEvMem
import Derived.WalkKit
namespace Go.Proofs.Ytchfiiiippnigaa
open Go.RowKit

set_option maxRecDepth 100000 in
theorem Clone_any (A : Option Addr) (n c : Nat) (l : List Nat) (w : World) (h : Rd w (.slice A n c) (bv l)) (hn : n ≤ 4194304) :
    Calls Try.prog 29 #[.slice A n c] w (BytTo w l) := by
  obtain ⟨i0, hi0, hz0, hz1, hz2⟩ := info_parts byte_info
  have hl := h.bytes
  subst hl
  have hnil := fun W => Lib.run_eql_slice_nil (P := Try.prog) W 31 5 A l.length c 0 0 Try.underlying31
  cases A with
  | none =>
    have hl : l = [] := by
      obtain ⟨A', c', e, _, _, hr⟩ := h
      injection e with e1 e2 e3
      rcases Nat.eq_zero_or_pos l.length with h0 | h0
      · exact List.eq_nil_of_length_eq_zero h0
      · obtain ⟨b, o, e4, _⟩ := hr (by rw [bv_len]; exact h0)
        rw [← e1] at e4; cases e4
    subst hl
    simp only [List.length_nil] at hnil ⊢
    clear h
    go_enter Try.func29, Try.ntmps29
    go_wp2
    go_ret
    exact ⟨none, 0, none, rfl, Row.nil _ _, by simp, Below.refl _ _⟩
  | some a =>
    have H := Lib.hid h
    clear h
    go_enter Try.func29, Try.ntmps29
    go_wp2_with (at_builtin; refine wpList_append_row _ rfl (.tmp 5) (.tmp 6) _ rfl 5 i0 _ 1 Try.underlying31 hi0 hz0 hz1 hz2 rfl none _ [] rfl (Row.empty _ _ _) _ (bv l) rfl (H.out.alloc _) (by rw [bv_len]; simp only [maxLen, List.length_nil]; omega) (by rw [bv_len]; simp only [List.length_nil]; omega) ?_; intro B' d' w7 gn hrow' hgr hgn; simp only [bv_len, List.length_nil, Nat.zero_add, List.nil_append] at hrow' ⊢; have Y := Lib.hid (And.intro hrow' (And.intro hgr hgn)); clear hrow' hgr hgn)
    go_ret
    obtain ⟨y1, y2, y3⟩ := Y.out
    refine ⟨B', d', gn, rfl, y1, ?_, ((Below.refl _ w).alloc (Nat.le_refl _) _).grown y2 (by simp) (by simp)⟩
    intro b e
    rcases y3 with rfl | rfl
    · cases e
    · simp at e; omega

end Go.Proofs.Ytchfiiiippnigaa
