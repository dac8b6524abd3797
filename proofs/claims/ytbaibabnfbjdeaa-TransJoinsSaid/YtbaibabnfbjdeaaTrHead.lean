/-
  The contract of trans.readHead.
  Conditions: the slice reads as these bytes.
-/
import Derived.Test.YtbaibabnfbjdeaaTrRow
import Derived.WalkKit
import Derived.IntWalk
import Derived.Deep.Cut
import Derived.Deep.QuietTactic
import Derived.BigQuiet
namespace Go.Proofs.Ytbaibabnfbjdeaa
open Go.RowKit

/-- The place behind the head, or that of what is wrong in it, and the error. -/
def headP (bs : List Nat) : Nat × Nat := match headW bs 0 hd with
  | none => (4, 0)
  | some r => r
theorem headP_some {bs : List Nat} {r : Nat × Nat} (h : headW bs 0 hd = some r) : headP bs = r := by unfold headP; rw [h]
theorem headP_none {bs : List Nat} (h : headW bs 0 hd = none) : headP bs = (4, 0) := by unfold headP; rw [h]

theorem head_byte {k : Nat} (h : k < 4) : hd.drop k = (({ data := #[67, 85, 69, 49] } : ByteArray)[k]'h).toNat :: hd.drop (k + 1) := by
  have : k = 0 ∨ k = 1 ∨ k = 2 ∨ k = 3 := by omega
  rcases this with rfl | rfl | rfl | rfl <;> rfl
theorem headW_short {bs : List Nat} {k : Nat} (h : k < 4) (hn : bs.length ≤ k) : headW bs k (hd.drop k) = some (k, 5) := by
  rw [head_byte h, headW, List.getElem?_eq_none hn]
theorem headW_other {bs : List Nat} {k d : Nat} (h : k < 4) (hd' : bs[k]? = some d) (hne : d ≠ (({ data := #[67, 85, 69, 49] } : ByteArray)[k]'h).toNat) : headW bs k (hd.drop k) = some (k, 4) := by
  rw [head_byte h, headW, hd']; simp only; rw [if_neg hne]
theorem headW_next {bs : List Nat} {k d : Nat} (h : k < 4) (hd' : bs[k]? = some d) (he : d = (({ data := #[67, 85, 69, 49] } : ByteArray)[k]'h).toNat) : headW bs k (hd.drop k) = headW bs (k + 1) (hd.drop (k + 1)) := by
  rw [head_byte h, headW, hd']; simp only; rw [if_pos he]
theorem headW_four (bs : List Nat) : headW bs 4 (hd.drop 4) = none := by simp [hd, headW]

theorem ret2 {k k' : IntKind} {a b a' b' : Int} (h1 : a = a') (h2 : b = b') : Ending.returned (.tuple #[.int k a, .int k' b]) = .returned (.tuple #[.int k a', .int k' b']) := by rw [h1, h2]

set_option maxRecDepth 100000 in
theorem readHead_any (A : Option Addr) (n c : Nat) (bs : List Nat) (w : World) (hr : Rd w (.slice A n c) (bv bs)) (hb : ∀ b ∈ bs, b < 256) (hn : n ≤ 9223372036854775807) :
    Calls Try.prog 25 #[.slice A n c] w fun e w' => e = .returned (.tuple #[.int .i64 ((headP bs).1 : Nat), .int .i64 ((headP bs).2 : Nat)]) ∧ Below w.heap.size w w' := by
  have HR := Lib.hid hr
  have HN := Lib.hid hr.bytes
  have HB := Lib.hid hb
  clear hr hb
  go_enter Try.func25, Try.ntmps25
  go_wp2_with fail
  go_loopw [5] (fun i wr => ∃ (k : Nat), k ≤ 4 ∧ k ≤ n ∧ i = .int .i64 k ∧ Hid (headW bs k (hd.drop k) = headW bs 0 hd ∧ Below w.heap.size w wr)) (fun i _ => 4 - (intOf i).toNat)
  case atStart => exact ⟨0, by omega, by omega, rfl, rfl, Below.refl _ _⟩
  case round =>
    obtain ⟨k, hk, hkn', rfl, HW⟩ := hrel
    by_cases hlt : k < 4
    · have HRk := Lib.hid (HR.out.kept HW.out.2)
      by_cases hkn : k < n
      · obtain ⟨b, o, d, rfl, hc, hd⟩ := HRk.out.byteAt hkn
        have hd256 : d < 256 := HB.out d (List.mem_of_getElem? hd)
        have hne : ((k : Int) == (n : Int)) = false := by simp; omega
        have i1 : (k : Int) < n := by omega
        have HD := Lib.hid hd
        clear hd
        by_cases he : d = (({ data := #[67, 85, 69, 49] } : ByteArray)[k]'hlt).toNat
        · have hq : ((d : Int) != (((({ data := #[67, 85, 69, 49] } : ByteArray)[k]'hlt).toNat : Nat) : Int)) = false := by rw [← he]; simp
          have HEQ := Lib.hid he
          clear he
          go_wp2_with fail
          go_quiet (fail)
          go_wp2_with fail
          go_roundw
          case rel => exact ⟨k + 1, by omega, by omega, by go_num, by rw [← HW.out.1, headW_next hlt HD.out HEQ.out], belowN HW.out.2 _⟩
          case measure => simp [intOf]; omega
        · have hq : ((d : Int) != (((({ data := #[67, 85, 69, 49] } : ByteArray)[k]'hlt).toNat : Nat) : Int)) = true := by
            rw [bne_iff_ne]; omega
          have HEQ := Lib.hid he
          clear he
          go_wp2_with fail
          go_quiet (fail)
          go_wp2_with fail
          go_ret2
          rw [headP_some (HW.out.1.symm.trans (headW_other hlt HD.out HEQ.out))]
          exact ⟨rfl, belowN HW.out.2 _⟩
      · obtain rfl : k = n := by omega
        have HS : Hid (headP bs = (k, 5)) := headP_some (HW.out.1.symm.trans (headW_short hlt (by have := HN.out; omega)))
        go_wp2_with fail
        go_ret2
        rw [HS.out]
        exact ⟨rfl, HW.out.2⟩
    · obtain rfl : k = 4 := by omega
      go_wp2_with fail
      go_ret2
      rw [headP_none (HW.out.1.symm.trans (headW_four bs))]
      exact ⟨rfl, HW.out.2⟩
end Go.Proofs.Ytbaibabnfbjdeaa
