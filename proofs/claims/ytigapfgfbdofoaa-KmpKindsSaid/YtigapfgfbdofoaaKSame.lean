/-
  kmp's same and grown, of numbers: whether two things are the same; how much of a pattern stands at the end when a thing more comes.
  Conditions: the pattern is read, and of each beginning of it up to what stood at the end the border.
-/
import Derived.Test.YtigapfgfbdofoaaKInt
import Derived.Test.YtigapfgfbdofoaaRet
import Derived.Test.YtigapfgfbdofoaaKmpMath
import Derived.Tactics
import Derived.Tactics2
import Derived.WalkKit
import Derived.LoopTactic
import Derived.Defers
import Derived.Recover
import Derived.Lib.Hide
import Derived.Deep.QuietTactic
import Derived.BigQuiet
namespace Go.Proofs.Ytigapfgfbdofoaa
open Go.RowKit

theorem idle_i (w : World) : CallsD Try.prog 40 #[] .returning w fun e u' w' => e = .returned (.tuple #[]) ∧ u' = .returning ∧ w' = w := by
  refine callsD_of_wpS Try.func40 rfl fun c₀ cs hu => ?_
  apply wpS_region
  cases c₀
  simp_all [wpOpsS, go_sem, recoverD, Try.ntmps40, bodyPostS, results, Try.results40]

theorem same_i (a b : Int) (w : World) : Calls Try.prog 37 #[.int (.i64) a, .int (.i64) b] w fun e w' => e = .returned (.bool (a == b)) ∧ w = w' := by
  go_enter_defers Try.func37, Try.ntmps37
  go_wp2
  refine leaves_cons (f := 40) (args := #[]) (by simp) (by simp [go_sem]) ?_
  refine (idle_i _).mono ?_
  rintro e u' w'' ⟨rfl, rfl, rfl⟩
  simp [Leaves, settle, results, Try.results37, go_sem]

/-- The borders of the first m things of p. -/
def Bords (p bs : List Int) (m : Nat) : Prop := ∀ j, j < m → bs[j]? = some ((border p (j + 1) : Nat) : Int)

theorem Cand.le {s p : List Int} {x : Int} {k : Nat} (h : Cand s p x k) : k ≤ p.length := h.1.1

set_option maxHeartbeats 1000000 in
theorem grown_i (s p bs : List Int) (x : Int) (A B : Option Addr) (n m c d : Nat) (w : World) (hp : Rd w (.slice A n c) (iv p)) (hb : Rd w (.slice B m d) (iv bs)) (hbs : Bords p bs (longest s p)) (hl : p.length ≤ 17592186044416) (hm : bs.length ≤ 17592186044416) :
    Calls Try.prog 29 #[.slice A n c, .slice B m d, .int .i64 (longest s p : Nat), .int (.i64) x] w fun e w' => e = .returned (.int .i64 (longest (s ++ [x]) p : Nat)) ∧ w = w' := by
  obtain ⟨rfl, hc1, r1⟩ := hp.ints
  obtain ⟨rfl, hc2, r2⟩ := hb.ints
  have R1 := Lib.hid r1
  have R2 := Lib.hid r2
  have HB := Lib.hid hbs
  have hs := longest_le s p
  have HS := Lib.hid (Cand.start s p x)
  clear hp hb r1 r2 hbs
  generalize longest s p = k0 at *
  go_enter Try.func29, Try.ntmps29
  go_wp2
  go_loop [2] (fun i => ∃ k : Nat, k ≤ k0 ∧ i = .int .i64 k ∧ Hid (Cand s p x k)) (fun i => (intOf i).toNat)
  case atStart => exact ⟨k0, Nat.le_refl _, rfl, HS⟩
  case round =>
    obtain ⟨k, hk, rfl, HC⟩ := hrel
    by_cases h0 : k = 0
    · subst h0
      by_cases hp : p.length = 0
      · have HL : Hid (longest (s ++ [x]) p = 0) := Lib.hid (by have := longest_le (s ++ [x]) p; omega)
        have hz : ((p.length : Nat) : Int) = 0 := by omega
        generalize p.length = l at *
        subst hp
        go_wp2
        go_ret
        exact ⟨ret_int (by rw [HL.out]; rfl), rfl⟩
      · obtain ⟨b, o, rfl, x1⟩ := R1.out (by omega)
        have y1 := x1 0 (by omega)
        rw [Nat.add_zero] at y1
        have hp1 : 0 < p.length := by omega
        have q1 : ((0 : Int) == (p.length : Int)) = false := by rw [Bool.eq_false_iff]; simp; omega
        have YN : Hid (p[0]?.getD 0 = x → longest (s ++ [x]) p = 0 + 1) := Lib.hid fun e => HC.out.yes (by rw [List.getElem?_eq_getElem (by omega)] at e ⊢; simpa using e)
        have NN : Hid (p[0]?.getD 0 ≠ x → longest (s ++ [x]) p = 0) := Lib.hid fun e => HC.out.no (by rw [List.getElem?_eq_getElem (by omega)] at e ⊢; simpa using e)
        generalize p[0]?.getD 0 = y at *
        clear x1 hp
        by_cases hxy : y = x
        · have hb : (y == x) = true := by simpa using hxy
          have HY := Lib.hid (YN.out hxy)
          clear hxy YN NN
          go_wp2_with (go_at_call 37; refine (same_i _ _ _).mono ?_; rintro e w' ⟨rfl, rfl⟩)
          go_ret
          exact ⟨ret_int (by rw [HY.out]; rfl), rfl⟩
        · have hb : (y == x) = false := by simpa using hxy
          have HY := Lib.hid (NN.out hxy)
          clear hxy YN NN
          go_wp2_with (go_at_call 37; refine (same_i _ _ _).mono ?_; rintro e w' ⟨rfl, rfl⟩)
          go_ret
          exact ⟨ret_int (by rw [HY.out]; rfl), rfl⟩
    · have hbk := HB.out (k - 1) (by omega)
      have hk1 : k - 1 < bs.length := (List.getElem?_eq_some_iff.1 hbk).1
      obtain ⟨b2, o2, rfl, x2⟩ := R2.out (by omega)
      have y2 := x2 (k - 1) hk1
      rw [hbk, show k - 1 + 1 = k by omega, Option.getD_some] at y2
      clear hbk x2
      have i1 : (1 : Int) ≤ (k : Int) := by omega
      have i2 : (k : Int) - 1 < (bs.length : Int) := by omega
      have z0 : ((k : Int) == 0) = false := by rw [Bool.eq_false_iff]; simp; omega
      have hbl := border_lt (p := p) (a := k) (by omega)
      by_cases hp : k = p.length
      · have HN := Lib.hid (HC.out.back (by omega) (by rw [List.getElem?_eq_none (by omega)]; simp))
        have q1 : ((k : Int) == (p.length : Int)) = true := by simp; omega
        clear hp
        generalize border p k = k1 at *
        go_wp2
        go_round
        case rel => exact ⟨k1, by omega, rfl, HN⟩
        case measure => simp [intOf]; omega
      · obtain ⟨b, o, rfl, x1⟩ := R1.out (by omega)
        have y1 := x1 k (by omega)
        have hp1 : k < p.length := by omega
        have q1 : ((k : Int) == (p.length : Int)) = false := by rw [Bool.eq_false_iff]; simp; omega
        have YN : Hid (p[k]?.getD 0 = x → longest (s ++ [x]) p = k + 1) := Lib.hid fun e => HC.out.yes (by rw [List.getElem?_eq_getElem (by omega)] at e ⊢; simpa using e)
        have NN : Hid (p[k]?.getD 0 ≠ x → Cand s p x (border p k)) := Lib.hid fun e => HC.out.back (by omega) (by rw [List.getElem?_eq_getElem (by omega)] at e ⊢; simpa using e)
        generalize p[k]?.getD 0 = y at *
        generalize border p k = k1 at *
        clear x1 hp
        by_cases hxy : y = x
        · have hb : (y == x) = true := by simpa using hxy
          have HY := Lib.hid (YN.out hxy)
          clear hxy YN NN
          go_wp2_with (go_at_call 37; refine (same_i _ _ _).mono ?_; rintro e w' ⟨rfl, rfl⟩)
          go_ret
          exact ⟨ret_int (by rw [HY.out]; rfl), rfl⟩
        · have hb : (y == x) = false := by simpa using hxy
          have HY := Lib.hid (NN.out hxy)
          clear hxy YN NN
          go_wp2_with (go_at_call 37; refine (same_i _ _ _).mono ?_; rintro e w' ⟨rfl, rfl⟩)
          go_round
          case rel => exact ⟨k1, by omega, rfl, HY⟩
          case measure => simp [intOf]; omega
end Go.Proofs.Ytigapfgfbdofoaa
