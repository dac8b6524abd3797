/-
  The contract of math/bits.Len64, and what it makes of vary.Put's count of bytes.
  Conditions: x is a uint64.
-/
import Derived.Test.YtbaibabnfbjdeaaProg
import Derived.Test.YtbaibabnfbjdeaaVarMath
import Derived.Lib.Strings
import Derived.Lib.Slices
import Derived.Lib.Small
import Derived.Lib.Walk
import Derived.Lib.BitFns
namespace Go.Proofs.Ytbaibabnfbjdeaa

/-- A table's number, and what was shifted off. -/
theorem len_at (x b : Int) (k : Nat) (h0 : 0 ≤ x) (h1 : x ≤ 18446744073709551615) (hb0 : 0 ≤ b) (hb1 : b ≤ 255) (e : b.toNat = x.toNat / 2 ^ k) (hk : k = 0 ∨ 2 ^ k ≤ x.toNat) :
    Lib.len8 b + k = Lib.bitLen x.toNat ∧ 0 ≤ Lib.len8 b ∧ Lib.len8 b ≤ 8 := by
  have hl := Lib.bitLen_le8' b hb0 hb1
  rw [Lib.len8_of b hb0 hb1]
  refine ⟨?_, by omega, by omega⟩
  rcases hk with rfl | hk
  · rw [e]; simp
  · rw [Lib.bitLen_shift k x.toNat hk (by omega), e]; omega

set_option maxHeartbeats 4000000 in
set_option maxRecDepth 100000 in
theorem Len64_any (x : Int) (w : World) (h0 : 0 ≤ x) (h1 : x ≤ 18446744073709551615) :
    Calls Try.prog 32 #[.int .u64 x] w fun e w' => e = .returned (.int .i64 (Lib.bitLen x.toNat)) ∧ w = w' := by
  go_enter Try.func32, Try.ntmps32
  go_wp2
  all_goals go_ret
  all_goals refine ⟨congrArg Ending.returned (congrArg (Value.int IntKind.i64) ?_), rfl⟩
  all_goals first
    | (have s := len_at x (x / 4294967296 / 65536 / 256 % 256) 56 h0 h1 (by omega) (by omega) (by simp only [Nat.reducePow]; omega) (by simp only [Nat.reducePow]; omega); omega)
    | (have s := len_at x (x / 4294967296 / 65536 % 256) 48 h0 h1 (by omega) (by omega) (by simp only [Nat.reducePow]; omega) (by simp only [Nat.reducePow]; omega); omega)
    | (have s := len_at x (x / 4294967296 / 256 % 256) 40 h0 h1 (by omega) (by omega) (by simp only [Nat.reducePow]; omega) (by simp only [Nat.reducePow]; omega); omega)
    | (have s := len_at x (x / 4294967296 % 256) 32 h0 h1 (by omega) (by omega) (by simp only [Nat.reducePow]; omega) (by simp only [Nat.reducePow]; omega); omega)
    | (have s := len_at x (x / 65536 / 256 % 256) 24 h0 h1 (by omega) (by omega) (by simp only [Nat.reducePow]; omega) (by simp only [Nat.reducePow]; omega); omega)
    | (have s := len_at x (x / 65536 % 256) 16 h0 h1 (by omega) (by omega) (by simp only [Nat.reducePow]; omega) (by simp only [Nat.reducePow]; omega); omega)
    | (have s := len_at x (x / 256 % 256) 8 h0 h1 (by omega) (by omega) (by simp only [Nat.reducePow]; omega) (by simp only [Nat.reducePow]; omega); omega)
    | (have s := len_at x (x % 256) 0 h0 h1 (by omega) (by omega) (by simp only [Nat.reducePow]; omega) (.inl rfl); omega)

theorem bitLen_between : ∀ (f x : Nat), 0 < x → x < 2 ^ f → 0 < Lib.bitLenAux f x ∧ 2 ^ (Lib.bitLenAux f x - 1) ≤ x ∧ x < 2 ^ Lib.bitLenAux f x
  | 0, x, h, h' => by simp at h'; omega
  | f + 1, x, h, h' => by
    rw [Lib.bitLenAux, if_neg (by omega)]
    rcases Nat.eq_zero_or_pos (x / 2) with h2 | h2
    · have hz : Lib.bitLenAux f (x / 2) = 0 := by rw [h2]; cases f <;> simp [Lib.bitLenAux]
      rw [hz]; simp; omega
    · obtain ⟨i0, i1, i2⟩ := bitLen_between f (x / 2) h2 (by rw [Nat.pow_succ] at h'; omega)
      obtain ⟨m, hm⟩ : ∃ m, Lib.bitLenAux f (x / 2) = m + 1 := ⟨_, (Nat.succ_pred_eq_of_pos i0).symm⟩
      rw [hm] at i1 i2 ⊢
      rw [Nat.add_sub_cancel] at i1
      rw [show 1 + (m + 1) - 1 = m + 1 by omega, show 1 + (m + 1) = m + 1 + 1 by omega, Nat.pow_succ 2 (m + 1), Nat.pow_succ 2 m]
      rw [Nat.pow_succ] at i2
      omega

/-- The place of the last byte. -/
def lastOf (x : Nat) : Nat := (Lib.bitLen (x ||| 1) - 1) / 7

theorem lastOf_spec {x : Nat} (h : x < 18446744073709551616) : x < 128 ^ (lastOf x + 1) ∧ (lastOf x = 0 ∨ 128 ^ lastOf x ≤ x) ∧ lastOf x ≤ 9 := by
  have e2 : x ||| 1 = x / 2 * 2 + 1 := by
    have := Nat.two_pow_add_eq_or_of_lt (i := 1) (b := 1) (by decide) (x / 2)
    rcases Nat.mod_two_eq_zero_or_one x with h0 | h0
    · rw [show x = 2 ^ 1 * (x / 2) by omega, ← this]; omega
    · apply Nat.eq_of_testBit_eq
      intro i
      rw [Nat.testBit_or]
      cases i with
      | zero => simp [Nat.testBit_zero, h0]
      | succ i => rw [Nat.testBit_succ, Nat.testBit_succ, Nat.testBit_succ, show (x / 2 * 2 + 1) / 2 = x / 2 by omega]; simp
  obtain ⟨h0, h1, h2⟩ := bitLen_between 64 (x ||| 1) (by omega) (by omega)
  have h3 : Lib.bitLen (x ||| 1) ≤ 64 := Lib.bitLen_le _ 64 (by omega) (by omega)
  change 0 < Lib.bitLen (x ||| 1) at h0
  change 2 ^ (Lib.bitLen (x ||| 1) - 1) ≤ x ||| 1 at h1
  change x ||| 1 < 2 ^ Lib.bitLen (x ||| 1) at h2
  unfold lastOf
  generalize Lib.bitLen (x ||| 1) = n at *
  have p : ∀ k, (128 : Nat) ^ k = 2 ^ (7 * k) := fun k => by rw [Nat.pow_mul]
  refine ⟨?_, ?_, by omega⟩
  · rw [p]
    have : 2 ^ n ≤ 2 ^ (7 * ((n - 1) / 7 + 1)) := Nat.pow_le_pow_right (by omega) (by omega)
    omega
  · rcases Nat.eq_zero_or_pos ((n - 1) / 7) with hz | hz
    · exact .inl hz
    · right
      rw [p]
      have a : 2 ^ (7 * ((n - 1) / 7)) ≤ 2 ^ (n - 1) := Nat.pow_le_pow_right (by omega) (by omega)
      have b : 2 ^ (7 * ((n - 1) / 7)) = 2 ^ (7 * ((n - 1) / 7) - 1) * 2 := by rw [← Nat.pow_succ]; congr 1; omega
      omega
theorem lastOf_len {x : Nat} (h : x < 18446744073709551616) : (Var.enc x).length = lastOf x + 1 :=
  Var.enc_len _ (lastOf_spec h).1 (lastOf_spec h).2.1
end Go.Proofs.Ytbaibabnfbjdeaa
