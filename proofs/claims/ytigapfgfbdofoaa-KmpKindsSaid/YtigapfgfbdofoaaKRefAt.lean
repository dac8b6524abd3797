/-
  cuecardref01.Same of two rows of the same numbers; cuecardref08.At: whether a pattern stands at a place.
  Conditions: at most 4294967296 things.
-/
import Derived.Test.YtigapfgfbdofoaaKInt
import Derived.Test.YtigapfgfbdofoaaRet
import Derived.Test.YtigapfgfbdofoaaKmpMath
import Derived.WalkKit
import Derived.LoopTactic
import Derived.Lib.Hide
import Derived.IntWalk
import Derived.Deep.QuietTactic
import Derived.BigQuiet
namespace Go.Proofs.Ytigapfgfbdofoaa
open Go.RowKit

theorem Same_eq (zs : List Int) (A B : Option Addr) (n m c d : Nat) (w : World) (h1 : Rd w (.slice A n c) (iv zs)) (h2 : Rd w (.slice B m d) (iv zs)) (hl : zs.length ≤ 9223372036854775806) :
    Calls Try.prog 14 #[.slice A n c, .slice B m d] w fun e w' => e = .returned (.bool true) ∧ ∃ n, w' = w.drewN n := by
  obtain ⟨rfl, hc1, r1⟩ := h1.ints
  obtain ⟨rfl, hc2, r2⟩ := h2.ints
  clear h1 h2
  by_cases h0 : zs.length = 0
  · clear r1 r2 hc1 hc2
    generalize zs.length = l at *
    subst h0
    go_enter Try.func14, Try.ntmps14
    go_wp2
    go_loopw [5] (fun i wr => i = .int .i64 0 ∧ wr = w) (fun _ _ => 0)
    case atStart => exact ⟨rfl, rfl⟩
    case round =>
      obtain ⟨rfl, rfl⟩ := hrel
      go_wp2
      go_ret
      exact ⟨rfl, 0, rfl⟩
  · obtain ⟨b1, o1, rfl, x1⟩ := r1 (by omega)
    obtain ⟨b2, o2, rfl, x2⟩ := r2 (by omega)
    clear r1 r2 h0
    have X1 := Lib.hid x1
    have X2 := Lib.hid x2
    clear x1 x2
    go_enter Try.func14, Try.ntmps14
    go_wp2
    go_loopw [5] (fun i wr => ∃ k n : Nat, k ≤ zs.length ∧ i = .int .i64 k ∧ wr = w.drewN n) (fun i _ => zs.length - (intOf i).toNat)
    case atStart => exact ⟨0, 0, Nat.zero_le _, rfl, rfl⟩
    case round =>
      obtain ⟨k, nd, hk, rfl, rfl⟩ := hrel
      by_cases hlt : k < zs.length
      · have y1 := X1.out k hlt
        have y2 := X2.out k hlt
        go_wp2
        go_quiet (fail)
        go_wp2
        go_roundw
        case rel => exact ⟨k + 1, _, by omega, by go_num, rfl⟩
        case measure => simp [intOf]; omega
      · go_wp2
        go_ret
        exact ⟨rfl, _, rfl⟩

/-- The first k things of p are those of the text from i on. -/
def Agree (text p : List Int) (i k : Nat) : Prop := (text.drop i).take k = p.take k
theorem Agree.next {text p : List Int} {i k : Nat} (h : Agree text p i k) (hk : k < p.length) (hi : i + k < text.length) (e : text[i + k] = p[k]) : Agree text p i (k + 1) := by
  unfold Agree at *
  rw [List.take_succ_eq_append_getElem hk, List.take_succ_eq_append_getElem (by rw [List.length_drop]; omega), h, List.getElem_drop, e]
theorem Agree.no {text p : List Int} {i k : Nat} (hk : k < p.length) (hi : i + k < text.length) (e : text[i + k] ≠ p[k]) : ¬ At text p i := by
  rintro ⟨_, _, h⟩
  apply e
  have h2 : ((text.drop i).take p.length)[k]? = p[k]? := by rw [h]
  rw [List.getElem?_take, if_pos hk, List.getElem?_drop, List.getElem?_eq_getElem hi, List.getElem?_eq_getElem hk] at h2
  injection h2

set_option maxHeartbeats 1000000 in
theorem At_i (A B : Option Addr) (n c m d : Nat) (text p : List Int) (i : Nat) (hi : i ≤ 4294967296) (hlt : text.length ≤ 4294967296) (hlp : p.length ≤ 4294967296) (w : World) (ht : Rd w (.slice A n c) (iv text)) (hp : Rd w (.slice B m d) (iv p)) :
    Calls Try.prog 26 #[.slice A n c, .slice B m d, .int .i64 (i : Int)] w fun e w' => e = .returned (.bool (decide (At text p i))) ∧ ∃ n, w' = w.drewN n := by
  obtain ⟨rfl, -, r1⟩ := ht.ints
  obtain ⟨rfl, -, r2⟩ := hp.ints
  have R1 := Lib.hid r1
  have R2 := Lib.hid r2
  clear ht hp r1 r2
  have n0 : decide ((i : Int) < 0) = false := by simp
  by_cases h1 : text.length < i
  · have HF : Hid (decide (At text p i) = false) := Lib.hid (by simp; intro h; have := h.1; omega)
    have q1 : decide (text.length < i) = true := by simp; omega
    clear h1
    go_enter Try.func26, Try.ntmps26
    go_wp2
    go_ret
    exact ⟨ret_bool HF.out.symm, 0, rfl⟩
  · by_cases h2 : text.length - i < p.length
    · have HF : Hid (decide (At text p i) = false) := Lib.hid (by simp; intro h; have := h.2.1; omega)
      have q1 : decide (text.length < i) = false := by simp; omega
      have q2 : decide ((text.length : Int) - (i : Int) < (p.length : Int)) = true := by simp; omega
      go_enter Try.func26, Try.ntmps26
      go_wp2
      go_ret
      exact ⟨ret_bool HF.out.symm, 0, rfl⟩
    · have q1 : decide (text.length < i) = false := by simp; omega
      have q2 : decide ((text.length : Int) - (i : Int) < (p.length : Int)) = false := by simp; omega
      go_enter Try.func26, Try.ntmps26
      go_wp2
      clear q1 q2
      go_loopw [7] (fun j wr => ∃ k n : Nat, k ≤ p.length ∧ j = .int .i64 k ∧ wr = w.drewN n ∧ Agree text p i k) (fun j _ => p.length - (intOf j).toNat)
      case atStart => exact ⟨0, 0, Nat.zero_le _, rfl, rfl, rfl⟩
      case round =>
        obtain ⟨k, nd, hk, rfl, rfl, hag⟩ := hrel
        by_cases hlt : k < p.length
        · obtain ⟨b, o, rfl, x1⟩ := R1.out (by omega)
          obtain ⟨b2, o2, rfl, x2⟩ := R2.out (by omega)
          have y1 := x1 (i + k) (by omega)
          have y2 := x2 k hlt
          have hik : i + k < text.length := by omega
          rw [List.getElem?_eq_getElem hik, Option.getD_some] at y1
          rw [List.getElem?_eq_getElem hlt, Option.getD_some] at y2
          have HY := Lib.hid (hag.next hlt hik)
          have HN := Lib.hid (Agree.no hlt hik)
          generalize text[i + k] = u at *
          generalize p[k] = v at *
          clear x1 x2 hag
          have i1 : (0 : Int) ≤ (i : Int) + (k : Int) := by omega
          have i2 : (i : Int) + (k : Int) < (text.length : Int) := by omega
          have w1 : IntKind.i64.wrap ((i : Int) + (k : Int)) = (i : Int) + (k : Int) := IntWalk.i64_in _ (by omega)
          have w2 : ((i : Int) + (k : Int)).toNat = i + k := by omega
          by_cases huv : u = v
          · have e1 : (u != v) = false := by simpa using huv
            have HA := Lib.hid (HY.out huv)
            clear huv HY HN
            go_wp2
            go_quiet (fail)
            clear w1 w2
            go_wp2
            go_roundw
            case rel => exact ⟨k + 1, _, by omega, by go_num, rfl, HA.out⟩
            case measure => simp [intOf]; omega
          · have e1 : (u != v) = true := by simpa using huv
            have HA : Hid (decide (At text p i) = false) := Lib.hid (by simpa using HN.out huv)
            clear huv HY HN
            go_wp2
            go_quiet (fail)
            clear w1 w2
            go_wp2
            go_ret
            exact ⟨ret_bool HA.out.symm, _, World.drewN_drewN _ _ _⟩
        · obtain rfl : k = p.length := by omega
          have HA : Hid (decide (At text p i) = true) := Lib.hid (by
            simp only [decide_eq_true_eq]
            refine ⟨by omega, by omega, ?_⟩
            unfold Agree at hag
            rwa [List.take_length] at hag)
          clear hag
          go_wp2
          go_ret
          exact ⟨ret_bool HA.out.symm, _, rfl⟩
end Go.Proofs.Ytigapfgfbdofoaa
