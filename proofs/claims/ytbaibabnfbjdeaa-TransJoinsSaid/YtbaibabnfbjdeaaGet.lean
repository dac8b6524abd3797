/-
  The contract of vary.Get: of bytes, from a place on, the number, the place behind it, and the error, as getAt tells them.
  Conditions: the slice reads as these bytes.
-/
import Derived.Test.YtbaibabnfbjdeaaPut
namespace Go.Proofs.Ytbaibabnfbjdeaa
open Go.RowKit

/-- What Get tells of bytes from the place a on, a from 0 to their number. -/
def getIn (bs : List Nat) (a : Nat) : Nat × Nat × Nat :=
  ((Var.getv (bs.drop a)).1, if (Var.getv (bs.drop a)).2.2 = 0 then a + (Var.getv (bs.drop a)).2.1 else 0, (Var.getv (bs.drop a)).2.2)

/-- The three answers. -/
def Told (w : World) (r : Nat × Nat × Nat) (e : Ending) (w' : World) : Prop := e = .returned (.tuple #[.int .u64 (r.1 : Int), .int .i64 (r.2.1 : Int), .int .i64 (r.2.2 : Int)]) ∧ w = w'

theorem Get_range (A : Option Addr) (n c : Nat) (at_ : Int) (w : World) (h : at_ < 0 ∨ (n : Int) < at_) :
    Calls Try.prog 33 #[.slice A n c, .int .i64 at_] w (Told w (0, 0, 3)) := by
  by_cases h0 : at_ < 0
  · go_enter Try.func33, Try.ntmps33
    go_wp2
    go_ret3
    exact ⟨rfl, rfl⟩
  · have h1 : (n : Int) < at_ := by omega
    clear h
    go_enter Try.func33, Try.ntmps33
    go_wp2
    go_ret3
    exact ⟨rfl, rfl⟩

/-- The or of one byte more. -/
theorem or_step {l : List Nat} {k d : Nat} {X : Int} (hX : X = ((Var.val (l.take k) : Nat) : Int)) (e : l[k]? = some d) (hk : k ≤ 8 ∨ (k = 9 ∧ d ≤ 1)) :
    bits .or .u64 X (IntKind.u64.wrap ((d : Int) % 128 * 2 ^ (7 * k))) = ((Var.val (l.take (k + 1)) : Nat) : Int) := by
  have hv := Var.val_take_lt l k
  have h9 : (128 : Nat) ^ 9 = 9223372036854775808 := by decide
  have hlt : d % 128 * 128 ^ k < 18446744073709551616 ∧ 128 ^ k ≤ 9223372036854775808 := by
    rcases hk with hk | ⟨rfl, hd⟩
    · have h2 : 128 ^ (k + 1) ≤ 128 ^ 9 := Nat.pow_le_pow_right (by omega) (by omega)
      rw [h9, Nat.pow_succ] at h2
      have h4 : d % 128 * 128 ^ k ≤ 127 * 128 ^ k := Nat.mul_le_mul_right _ (by omega)
      omega
    · rw [h9]
      have : d % 128 * 9223372036854775808 ≤ 1 * 9223372036854775808 := Nat.mul_le_mul_right _ (by omega)
      omega
  have hc : (d : Int) % 128 * 2 ^ (7 * k) = ((d % 128 * 128 ^ k : Nat) : Int) := by
    rw [show (128 : Nat) ^ k = 2 ^ (7 * k) by rw [Nat.pow_mul]]
    simp
  rw [hX, hc, IntKind.wrap_u64, Int.emod_eq_of_lt (by omega) (by omega), u64_or_nat _ _ (by omega) hlt.1, ← Var.val_step e]

theorem getIn_err {bs : List Nat} {a e : Nat} (h : Var.getv (bs.drop a) = (0, 0, e)) (he : e ≠ 0) : getIn bs a = (0, 0, e) := by
  unfold getIn; rw [h]; simp [he]
theorem getIn_ok {bs : List Nat} {a y n : Nat} (h : Var.getv (bs.drop a) = (y, n, 0)) : getIn bs a = (y, a + n, 0) := by
  unfold getIn; rw [h]; simp

theorem Told.mk {w : World} {r : Nat × Nat × Nat} {y p e : Int} (h1 : y = (r.1 : Int)) (h2 : p = (r.2.1 : Int)) (h3 : e = (r.2.2 : Int)) : Told w r (.returned (.tuple #[.int .u64 y, .int .i64 p, .int .i64 e])) w := by
  subst h1 h2 h3; exact ⟨rfl, rfl⟩

set_option maxHeartbeats 1000000 in
set_option maxRecDepth 100000 in
theorem Get_in (A : Option Addr) (n c a : Nat) (bs : List Nat) (w : World) (hr : Rd w (.slice A n c) (bv bs)) (hb : ∀ b ∈ bs, b < 256) (hn : n ≤ 9223372036854775807) (ha : a ≤ n) :
    Calls Try.prog 33 #[.slice A n c, .int .i64 a] w (Told w (getIn bs a)) := by
  have HR := Lib.hid hr
  have HN := Lib.hid hr.bytes
  have HB := Lib.hid hb
  clear hr hb
  go_enter Try.func33, Try.ntmps33
  go_wp2_with fail
  go_loop [7, 18] (fun x i => ∃ (k : Nat) (X : Int), k ≤ 10 ∧ a + k ≤ n ∧ i = .int .i64 k ∧ x = .int .u64 X ∧ Hid (Var.Go (bs.drop a) k ∧ (k ≤ 9 → X = ((Var.val ((bs.drop a).take k) : Nat) : Int)))) (fun _ i => 10 - (intOf i).toNat)
  case atStart => exact ⟨0, 0, by omega, by omega, rfl, rfl, Var.Go.zero _, fun _ => rfl⟩
  case round =>
    obtain ⟨k, X, hk, hak, rfl, rfl, HG⟩ := hrel
    by_cases h10 : k < 10
    · by_cases hlt : a + k < n
      · obtain ⟨b, o, d, rfl, hc, hd⟩ := HR.out.byteAt hlt
        have hd256 : d < 256 := HB.out d (List.mem_of_getElem? hd)
        have HD : Hid ((bs.drop a)[k]? = some d) := by show _ = _; rw [List.getElem?_drop]; exact hd
        have HX : Hid (X = ((Var.val ((bs.drop a).take k) : Nat) : Int)) := HG.out.2 (by omega)
        clear hd
        have hne : ((a : Int) + k == n) = false := by simp; omega
        by_cases h128 : 128 ≤ d
        · go_wp2_with fail
          refine ⟨⟨k + 1, _, by omega, by omega, by go_num, rfl, HG.out.1.succ HD.out h128, fun h9 => or_step HX.out HD.out (.inl (by omega))⟩, by simp [intOf]; omega⟩
        · cases hmay : mayB k d with
          | false =>
            have HM := Lib.hid hmay
            clear hmay
            go_wp2_with fail
            refine (mayEnd_any k d _ (by omega)).mono ?_
            rintro e w' ⟨rfl, rfl⟩
            rw [HM.out]
            go_wp2_with fail
            go_ret3
            have hg : Var.getv (bs.drop a) = (0, 0, 4) := by
              rw [HG.out.1.stop h10 HD.out (by omega), if_pos]
              have := HM.out
              unfold mayB at this
              rw [Bool.not_eq_false', decide_eq_true_iff] at this
              exact this
            rw [getIn_err hg (by decide)]
            exact Told.mk rfl rfl rfl
          | true =>
            have HM := Lib.hid hmay
            clear hmay
            go_wp2_with fail
            refine (mayEnd_any k d _ (by omega)).mono ?_
            rintro e w' ⟨rfl, rfl⟩
            rw [HM.out]
            go_wp2_with fail
            go_ret3
            have hm : ¬ ((0 < k ∧ d = 0) ∨ (k = 9 ∧ 1 < d)) := by
              have := HM.out
              unfold mayB at this
              rw [Bool.not_eq_true', decide_eq_false_iff_not] at this
              exact this
            have hg : Var.getv (bs.drop a) = (Var.val ((bs.drop a).take (k + 1)), k + 1, 0) := by
              rw [HG.out.1.stop h10 HD.out (by omega), if_neg hm, Var.val_take HD.out, Nat.mod_eq_of_lt (by omega)]
            rw [getIn_ok hg]
            exact Told.mk (or_step HX.out HD.out (by omega)) (by simp; omega) rfl
      · have hne : ((a : Int) + k == n) = true := by simp; omega
        go_wp2_with fail
        go_ret3
        rw [getIn_err (HG.out.1.short h10 (by have := HN.out; simp; omega)) (by decide)]
        exact Told.mk rfl rfl rfl
    · obtain rfl : k = 10 := by omega
      go_wp2_with fail
      go_ret3
      rw [getIn_err HG.out.1.ten (by decide)]
      exact Told.mk rfl rfl rfl
end Go.Proofs.Ytbaibabnfbjdeaa
