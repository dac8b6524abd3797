/-
  cuecardlaw02.VaryBack answers true for every number and all bytes ahead and behind that aren't too many.
  Conditions: at most 1048576 bytes ahead, and behind.
-/
import Derived.Test.YtmgmklhajapebaaVRow
import Derived.Test.YtmgmklhajapebaaUpto
namespace Go.Proofs.Ytmgmklhajapebaa
open Go.RowKit

theorem back_get {x : Nat} (h : x < 18446744073709551616) (l m : List Nat) : getIn (l ++ Var.enc x ++ m) l.length = (x, l.length + (Var.enc x).length, 0) := by
  have e : (l ++ Var.enc x ++ m).drop l.length = Var.enc x ++ m := by simp
  exact getIn_ok (by rw [e]; exact Var.getv_enc h _)
theorem back_cut {x : Nat} (h : x < 18446744073709551616) {i : Nat} (hi : i < (Var.enc x).length) : getIn ((Var.enc x).take i) 0 = (0, 0, 5) :=
  getIn_err (by rw [List.drop_zero]; exact Var.getv_cut h hi) (by decide)

/-- An append of l to what stands in a row of its own: what is left to show. -/
theorem RowAt.none {w0 w : World} (h : Below w0.heap.size w0 w) (A : Option Addr) : RowAt w0 w A 0 none [] := ⟨Row.empty _ _ _, by simp, h⟩

set_option maxHeartbeats 2000000 in
set_option maxRecDepth 100000 in
theorem back_true (x : Nat) (A1 : Option Addr) (n1 c1 : Nat) (l1 : List Nat) (A2 : Option Addr) (n2 c2 : Nat) (l2 : List Nat) (w : World) (hx : x < 18446744073709551616)
    (hr1 : Rd w (.slice A1 n1 c1) (bv l1)) (hr2 : Rd w (.slice A2 n2 c2) (bv l2)) (hb1 : ∀ b ∈ l1, b < 256) (hb2 : ∀ b ∈ l2, b < 256) (hn1 : n1 ≤ 1048576) (hn2 : n2 ≤ 1048576) :
    Calls Try.prog 5 #[.int .u64 x, .slice A1 n1 c1, .slice A2 n2 c2] w fun e w' => e = .returned (.bool true) ∧ Below w.heap.size w w' := by
  obtain ⟨i0, hi0, hz0, hz1, hz2⟩ := info_parts byte_info
  obtain rfl := hr1.bytes
  obtain rfl := hr2.bytes
  have R1 := Lib.hid hr1
  have R2 := Lib.hid hr2
  have HB : Hid (∀ b ∈ l1 ++ Var.enc x ++ l2, b < 256) := fun b hb => by
    rcases List.mem_append.1 hb with hb | hb
    · rcases List.mem_append.1 hb with hb | hb
      · exact hb1 b hb
      · exact Var.enc_lt x b hb
    · exact hb2 b hb
  have HG := Lib.hid (back_get hx l1 l2)
  have p0 := Var.enc_pos x
  have p10 := Var.enc_len10 hx
  clear hr1 hr2 hb1 hb2
  go_enter Try.func5, Try.ntmps5
  go_wp2_with fail
  refine (Put_any x w hx).mono ?_
  rintro e w1 ⟨AP, cP, gP, rfl, hrP, -, hP⟩
  have HP := Lib.hid (And.intro hrP.rd hP)
  have R1' := Lib.hid ((R1.out.kept hP).alloc (.cells #[] 5))
  have R2' := Lib.hid (R2.out.kept hP)
  clear hrP hP R1 R2
  go_wp2_with (first
    | (at_builtin; refine wpList_append_row _ rfl (.tmp 18) (.tmp 19) _ rfl 5 i0 _ 1 Try.underlying24 hi0 hz0 hz1 hz2 rfl none (.slice (some ⟨w1.heap.size, 0, none⟩) 0 0) (bv []) rfl (Row.empty _ _ _) (.slice A1 l1.length c1) (bv l1) rfl R1'.out (by rw [bv_len, bv_len]; simp only [maxLen, List.length_nil]; omega) (by rw [bv_len, bv_len, List.length_nil]; omega) ?_; intro B1 d1 w2 g1 hrow hgr hgn; simp only [bv_len] at hrow ⊢; have Y1 := Lib.hid (RowAt.more (l := []) (m := l1) (RowAt.none (Below.refl _ w1) none) ((Below.refl _ _).alloc (Nat.le_refl _) _) hrow hgr hgn); simp only [List.length_nil, Nat.zero_add, List.nil_append] at Y1 ⊢; clear hrow hgr hgn)
    | (at_builtin; refine wpList_append_row _ rfl (.tmp 20) (.tmp 21) _ rfl 5 i0 _ 1 Try.underlying24 hi0 hz0 hz1 hz2 rfl g1 (.slice B1 l1.length d1) (bv l1) rfl Y1.out.1 (.slice AP (Var.enc x).length cP) (bv (Var.enc x)) rfl (HP.out.1.kept Y1.out.2.2) (by rw [bv_len, bv_len]; simp only [maxLen]; omega) (by rw [bv_len, bv_len]; omega) ?_; intro B2 d2 w3 g2 hrow hgr hgn; simp only [bv_len] at hrow ⊢; have Y2 := Lib.hid (RowAt.more (l := l1) (m := Var.enc x) Y1.out (Below.refl _ _) hrow hgr hgn); clear hrow hgr hgn)
    | (at_builtin; refine wpList_append_row _ rfl (.tmp 22) (.tmp 23) _ rfl 5 i0 _ 1 Try.underlying24 hi0 hz0 hz1 hz2 rfl g2 (.slice B2 (l1.length + (Var.enc x).length) d2) (bv (l1 ++ Var.enc x)) rfl (by have := Y2.out.1; rw [List.length_append] at this; exact this) (.slice A2 l2.length c2) (bv l2) rfl (R2'.out.kept Y2.out.2.2) (by rw [bv_len, bv_len, List.length_append]; simp only [maxLen]; omega) (by rw [bv_len, bv_len, List.length_append]; omega) ?_; intro B3 d3 w4 g3 hrow hgr hgn; simp only [bv_len] at hrow ⊢; have Y3 := Lib.hid (RowAt.more (l := l1 ++ Var.enc x) (m := l2) Y2.out (Below.refl _ _) hrow hgr hgn); simp only [List.length_append] at ⊢; clear hrow hgr hgn))
  have HPk := Lib.hid (HP.out.1.kept Y3.out.2.2)
  have HY := Lib.hid (And.intro Y3.out.1 (HP.out.2.trans (Y3.out.2.2.mono HP.out.2.size)))
  clear Y1 Y2 Y3 R1' R2' HP
  refine (Get_in B3 _ d3 l1.length (l1 ++ Var.enc x ++ l2) w4 (by have := HY.out.1.rd; rw [List.length_append, List.length_append] at this; exact this) HB.out (by omega) (by omega)).mono ?_
  rw [HG.out]
  rintro e w5 ⟨rfl, rfl⟩
  have hq : ((l1.length : Int) + (Var.enc x).length != (l1.length : Int) + (Var.enc x).length) = false := by simp
  have hz : (((Var.enc x).length : Int) == 0) = false := by simp; exact Var.enc_ne x
  go_wp2_with fail
  go_loop [61] (fun i => ∃ k : Nat, k ≤ (Var.enc x).length ∧ i = .int .i64 k) (fun i => (Var.enc x).length - (intOf i).toNat)
  case atStart => exact ⟨0, Nat.zero_le _, rfl⟩
  case round =>
    obtain ⟨k, hk, rfl⟩ := hrel
    by_cases hlt : k < (Var.enc x).length
    · obtain ⟨A', hsl, hr'⟩ := run_upto HPk.out hk
      have HR' := Lib.hid hr'
      have HC := Lib.hid (back_cut hx hlt)
      clear hr'
      go_wp2_with fail
      refine (Get_zero A' k cP ((Var.enc x).take k) w4 HR'.out (fun b hb => Var.enc_lt x b (List.mem_of_mem_take hb)) (by omega)).mono ?_
      rw [HC.out]
      rintro e w5 ⟨rfl, rfl⟩
      go_wp2_with fail
      exact ⟨⟨k + 1, by omega, by go_num⟩, by simp [intOf]; omega⟩
    · go_wp2_with fail
      refine (alive_true w4).mono ?_
      rintro e w5 ⟨rfl, hA⟩
      have H5 : Hid (Below w.heap.size w w5) := HY.out.2.trans (hA.mono HY.out.2.size)
      clear hA
      go_wp2_with fail
      go_ret
      exact ⟨rfl, H5.out⟩
end Go.Proofs.Ytmgmklhajapebaa
