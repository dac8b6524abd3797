/-
  The contract of the document's Put: a new slice of a number's bytes.
  Conditions: x is a uint64.
-/
import Derived.Test.YtbaibabnfbjdeaaPut
namespace Go.Proofs.Ytbaibabnfbjdeaa
open Go.RowKit

/-- One byte, new. -/
theorem Rd.byte (w : World) (n : Int) : Rd (w.alloc (.cells #[.int .u8 n] 5)) (.slice (some ⟨w.heap.size, 0, none⟩) 1 1) [.int .u8 n] :=
  ⟨_, 1, rfl, Nat.le_refl _, by simp [Value.oneCell'], fun _ => ⟨w.heap.size, 0, rfl, fun j u hu => by
    rw [Nat.zero_add]
    refine ((Blk.new w 5 #[.int .u8 n]).cell j).trans ?_
    simpa using hu⟩⟩

/-- The bytes so far, and what is left. -/
def RPutAt (w0 w : World) (x y : Nat) (A : Option Addr) (c : Nat) (g : Option Nat) (l : List Nat) : Prop :=
  Row w 5 g (.slice A l.length c) (bv l) ∧ Var.enc x = l ++ Var.enc y ∧ (∀ b, g = some b → w0.heap.size ≤ b) ∧ Below w0.heap.size w0 w

theorem RPutAt.more {w0 w w' : World} {x y : Nat} {A A' : Option Addr} {c c' : Nat} {g g' : Option Nat} {l : List Nat} {n : Int} (h : RPutAt w0 w x y A c g l) (hy : 128 ≤ y) (hn : n = ((128 + y % 128 : Nat) : Int))
    (hr : Row w' 5 g' (.slice A' (l.length + 1) c') (bv l ++ [.int .u8 n])) (hg : (w.alloc (.cells #[.int .u8 n] 5)).grownBy w' g) (hg' : g' = g ∨ g' = some (w.alloc (.cells #[.int .u8 n] 5)).heap.size) :
    RPutAt w0 w' x (y / 128) A' c' g' (l ++ [128 + y % 128]) := by
  obtain ⟨h1, h2, h3, h4⟩ := h
  refine ⟨?_, ?_, ?_, ?_⟩
  · rw [List.length_append]
    rw [hn] at hr
    simpa [bv] using hr
  · rw [h2, Var.enc_big hy]; simp
  · rcases hg' with rfl | rfl
    · exact h3
    · intro b e; cases e; have := h4.size; simp; omega
  · exact (((Only.of_below h4 (Nat.le_refl _) (fun b => some b = g)).alloc _).grown hg (fun k e => .inl e.symm)).below (Nat.le_refl _) (fun i hi e => by have := h3 i e.symm; omega)

theorem RPutAt.last {w0 w w' : World} {x y : Nat} {A A' : Option Addr} {c c' : Nat} {g g' : Option Nat} {l : List Nat} {n : Int} (h : RPutAt w0 w x y A c g l) (hy : y < 128) (hn : n = (y : Int))
    (hr : Row w' 5 g' (.slice A' (l.length + 1) c') (bv l ++ [.int .u8 n])) (hg : (w.alloc (.cells #[.int .u8 n] 5)).grownBy w' g) (hg' : g' = g ∨ g' = some (w.alloc (.cells #[.int .u8 n] 5)).heap.size) :
    Made w0 (Var.enc x) (.returned (.slice A' (l.length + 1) c')) w' := by
  obtain ⟨h1, h2, h3, h4⟩ := h
  rw [Var.enc_small hy] at h2
  refine ⟨A', c', g', ?_, ?_, ?_, ?_⟩
  · rw [h2]; simp
  · rw [h2]
    rw [hn] at hr
    simpa [bv] using hr
  · rcases hg' with rfl | rfl
    · exact h3
    · intro b e; cases e; have := h4.size; simp; omega
  · exact (((Only.of_below h4 (Nat.le_refl _) (fun b => some b = g)).alloc _).grown hg (fun k e => .inl e.symm)).below (Nat.le_refl _) (fun i hi e => by have := h3 i e.symm; omega)

set_option maxHeartbeats 1000000 in
set_option maxRecDepth 100000 in
theorem RPut_any (x : Nat) (w : World) (h : x < 18446744073709551616) : Calls Try.prog 22 #[.int .u64 x] w (Made w (Var.enc x)) := by
  obtain ⟨i0, hi0, hz0, hz1, hz2⟩ := info_parts byte_info
  have HL := Lib.hid (Var.enc_len10 h)
  go_enter Try.func22, Try.ntmps22
  go_wp2_with fail
  go_loopw [0, 3] (fun v s wr => ∃ (y : Nat) (A : Option Addr) (c : Nat) (g : Option Nat) (l : List Nat), y < 18446744073709551616 ∧ v = .int .u64 y ∧ s = .slice A l.length c ∧ Hid (RPutAt w wr x y A c g l)) (fun v _ _ => (intOf v).toNat)
  case atStart => exact ⟨x, none, 0, none, [], h, rfl, rfl, Row.nil _ _, rfl, by simp, Below.refl _ _⟩
  case round =>
    obtain ⟨y, A, c, g, l, hy, rfl, rfl, HR⟩ := hrel
    have hll : l.length ≤ 10 := by have := HL.out; rw [HR.out.2.1] at this; simp at this; omega
    by_cases hlt : 128 ≤ y
    · go_wp2_with (at_builtin; refine wpList_append_row _ rfl (.tmp 6) (.tmp 11) _ rfl 5 i0 _ 1 Try.underlying25 hi0 hz0 hz1 hz2 rfl g (.slice A l.length c) (bv l) rfl (HR.out.1.alloc _) _ [.int .u8 (128 + (y : Int) % 128)] rfl (Rd.byte wr _) (by rw [bv_len]; simp only [maxLen, List.length_cons, List.length_nil]; omega) (by rw [bv_len]; simp only [List.length_cons, List.length_nil]; omega) ?_; intro A' c' w7 gn hrow' hgr hgn; simp only [bv_len, List.length_cons, List.length_nil, Nat.zero_add] at hrow' ⊢; have Y := Lib.hid (And.intro hrow' (And.intro hgr hgn)); clear hrow' hgr hgn)
      go_round
      case rel => exact ⟨y / 128, A', c', gn, l ++ [128 + y % 128], by omega, by go_num, by simp, HR.out.more hlt (by omega) Y.out.1 Y.out.2.1 Y.out.2.2⟩
      case measure => simp [intOf]; omega
    · go_wp2_with (at_builtin; refine wpList_append_row _ rfl (.tmp 15) (.tmp 18) _ rfl 5 i0 _ 1 Try.underlying25 hi0 hz0 hz1 hz2 rfl g (.slice A l.length c) (bv l) rfl (HR.out.1.alloc _) _ [.int .u8 (y : Int)] rfl (Rd.byte wr _) (by rw [bv_len]; simp only [maxLen, List.length_cons, List.length_nil]; omega) (by rw [bv_len]; simp only [List.length_cons, List.length_nil]; omega) ?_; intro A' c' w7 gn hrow' hgr hgn; simp only [bv_len, List.length_cons, List.length_nil, Nat.zero_add] at hrow' ⊢; have Y := Lib.hid (And.intro hrow' (And.intro hgr hgn)); clear hrow' hgr hgn)
      go_ret
      exact HR.out.last (by omega) rfl Y.out.1 Y.out.2.1 Y.out.2.2
end Go.Proofs.Ytbaibabnfbjdeaa
