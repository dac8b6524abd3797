/-
  The contracts of vary's Zig, Zag and mayEnd, and of the document's Zig and Zag.
  Conditions: the argument is a number of its kind.
-/
import Derived.Test.YtbaibabnfbjdeaaRet
import Derived.Test.YtbaibabnfbjdeaaProg
import Derived.WalkKit
import Derived.IntWalk
import Derived.Lib.Hide
import Derived.KernelRfl
namespace Go.Proofs.Ytbaibabnfbjdeaa
open Go.RowKit

def zig (y : Int) : Int := if y < 0 then -2 * y - 1 else 2 * y
def zag (u : Int) : Int := if u % 2 = 1 then - (u / 2) - 1 else u / 2

theorem zig_lo (y : Int) (h : -9223372036854775808 ≤ y) : 0 ≤ zig y := by unfold zig; split <;> omega
theorem zig_hi (y : Int) (h : -9223372036854775808 ≤ y) (h2 : y ≤ 9223372036854775807) : zig y < 18446744073709551616 := by unfold zig; split <;> omega
theorem zag_lo (u : Int) (h : 0 ≤ u) (h2 : u < 18446744073709551616) : -9223372036854775808 ≤ zag u := by unfold zag; split <;> omega
theorem zag_hi (u : Int) (h : 0 ≤ u) (h2 : u < 18446744073709551616) : zag u ≤ 9223372036854775807 := by unfold zag; split <;> omega
theorem zag_zig (y : Int) : zag (zig y) = y := by
  by_cases h : y < 0
  · have h1 : zig y = -2 * y - 1 := by unfold zig; rw [if_pos h]
    rw [h1]; unfold zag; split <;> omega
  · have h1 : zig y = 2 * y := by unfold zig; rw [if_neg h]
    rw [h1]; unfold zag; split <;> omega
theorem zig_zag (u : Int) (h : 0 ≤ u) : zig (zag u) = u := by
  by_cases h2 : u % 2 = 1
  · have h1 : zag u = - (u / 2) - 1 := by unfold zag; rw [if_pos h2]
    rw [h1]; unfold zig; split <;> omega
  · have h1 : zag u = u / 2 := by unfold zag; rw [if_neg h2]
    rw [h1]; unfold zig; split <;> omega

theorem Zig_any (y : Int) (w : World) (h1 : -9223372036854775808 ≤ y) (h2 : y ≤ 9223372036854775807) :
    Calls Try.prog 20 #[.int .i64 y] w fun e w' => e = .returned (.int .u64 (zig y)) ∧ w = w' := by
  by_cases h : y < 0
  · go_enter Try.func20, Try.ntmps20
    go_wp2
    go_ret
    exact ⟨ret_int (by unfold zig; rw [if_pos h]; first | omega | (simp [IntKind.wrap_u64]; omega)), rfl⟩
  · go_enter Try.func20, Try.ntmps20
    go_wp2
    go_ret
    exact ⟨ret_int (by unfold zig; rw [if_neg (by omega)]), rfl⟩

theorem RZig_any (y : Int) (w : World) (h1 : -9223372036854775808 ≤ y) (h2 : y ≤ 9223372036854775807) :
    Calls Try.prog 23 #[.int .i64 y] w fun e w' => e = .returned (.int .u64 (zig y)) ∧ w = w' := by
  by_cases h : y < 0
  · go_enter Try.func23, Try.ntmps23
    go_wp2
    go_ret
    exact ⟨ret_int (by unfold zig; rw [if_pos h]; omega), rfl⟩
  · go_enter Try.func23, Try.ntmps23
    go_wp2
    go_ret
    exact ⟨ret_int (by unfold zig; rw [if_neg (by omega)]), rfl⟩

theorem Zag_any (u : Int) (w : World) (h1 : 0 ≤ u) (h2 : u < 18446744073709551616) :
    Calls Try.prog 35 #[.int .u64 u] w fun e w' => e = .returned (.int .i64 (zag u)) ∧ w = w' := by
  by_cases h : u % 2 = 1
  · have hb : (u % 2 == 1) = true := by rw [h]; rfl
    have H := Lib.hid h
    clear h
    go_enter Try.func35, Try.ntmps35
    go_wp2
    go_ret
    exact ⟨ret_int (by unfold zag; rw [if_pos H.out]), rfl⟩
  · have hb : (u % 2 == 1) = false := by simpa using h
    have H := Lib.hid h
    clear h
    go_enter Try.func35, Try.ntmps35
    go_wp2
    go_ret
    exact ⟨ret_int (by unfold zag; rw [if_neg H.out]), rfl⟩

theorem RZag_any (u : Int) (w : World) (h1 : 0 ≤ u) (h2 : u < 18446744073709551616) :
    Calls Try.prog 39 #[.int .u64 u] w fun e w' => e = .returned (.int .i64 (zag u)) ∧ w = w' := by
  by_cases h : u % 2 = 1
  · have hb : (u % 2 == 0) = false := by rw [h]; rfl
    have H := Lib.hid h
    clear h
    go_enter Try.func39, Try.ntmps39
    go_wp2
    go_ret
    exact ⟨ret_int (by unfold zag; rw [if_pos H.out]), rfl⟩
  · have hb : (u % 2 == 0) = true := by simp; omega
    have H := Lib.hid h
    clear h
    go_enter Try.func39, Try.ntmps39
    go_wp2
    go_ret
    exact ⟨ret_int (by unfold zag; rw [if_neg H.out]), rfl⟩

/-- May a number's bytes end with c behind k others? -/
def mayB (k c : Nat) : Bool := !(decide ((0 < k ∧ c = 0) ∨ (k = 9 ∧ 1 < c)))

theorem mayEnd_any (k c : Nat) (w : World) (hk : k ≤ 9) :
    Calls Try.prog 40 #[.int .i64 k, .int .u8 c] w fun e w' => e = .returned (.bool (mayB k c)) ∧ w = w' := by
  rcases Nat.eq_zero_or_pos k with h0 | h0
  · have hb : mayB k c = true := by subst h0; simp [mayB]
    have hk0 : decide (0 < k) = false := by simp; omega
    have hk9 : decide ((k : Int) < 9) = true := by simp; omega
    have HB := Lib.hid hb
    clear hb h0
    go_enter Try.func40, Try.ntmps40
    go_wp2
    go_ret
    rw [HB.out]
    exact ⟨rfl, rfl⟩
  · by_cases hc : c = 0
    · have hb : mayB k c = false := by subst hc; simp [mayB]; omega
      have HB := Lib.hid hb
      clear hb
      subst hc
      go_enter Try.func40, Try.ntmps40
      go_wp2
      go_ret
      rw [HB.out]
      exact ⟨rfl, rfl⟩
    · have hcb : ((c : Int) == 0) = false := by simp; omega
      rcases Nat.lt_or_ge k 9 with h9 | h9
      · have hb : mayB k c = true := by simp [mayB]; omega
        have HB := Lib.hid hb
        clear hb
        go_enter Try.func40, Try.ntmps40
        go_wp2
        go_ret
        rw [HB.out]
        exact ⟨rfl, rfl⟩
      · obtain rfl : k = 9 := by omega
        have hb : mayB 9 c = decide (c ≤ 1) := by
          unfold mayB
          by_cases h1 : c ≤ 1
          · rw [decide_eq_true h1]; simp; omega
          · rw [decide_eq_false h1]; simp; omega
        have HB := Lib.hid hb
        clear hb
        go_enter Try.func40, Try.ntmps40
        go_wp2
        all_goals go_ret
        all_goals rw [HB.out]
        all_goals (refine ⟨?_, rfl⟩; first | rfl | (simp; omega) | simp)
end Go.Proofs.Ytbaibabnfbjdeaa
