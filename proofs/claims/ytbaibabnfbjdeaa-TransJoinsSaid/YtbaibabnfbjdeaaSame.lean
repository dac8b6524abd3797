/-
  The contract of the document's same: do bytes begin with others?
  Conditions: the slices read as these bytes.
-/
import Derived.Test.YtbaibabnfbjdeaaGet
import Derived.Deep.QuietTactic
import Derived.BigQuiet
namespace Go.Proofs.Ytbaibabnfbjdeaa
open Go.RowKit

def sameB (l m : List Nat) : Bool := decide (m = l.take m.length)

theorem sameB_no {l m : List Nat} (h : l.length < m.length) : sameB l m = false := by
  refine decide_eq_false fun e => ?_
  have := congrArg List.length e
  rw [List.length_take] at this
  omega
theorem sameB_yes {l m : List Nat} (h : ∀ j, j < m.length → l[j]? = m[j]?) : sameB l m = true := by
  refine decide_eq_true (List.ext_getElem? fun j => ?_)
  rw [List.getElem?_take]
  by_cases hj : j < m.length
  · rw [if_pos hj, h j hj]
  · rw [if_neg hj, List.getElem?_eq_none (by omega)]
theorem sameB_other {l m : List Nat} {k x y : Nat} (hk : k < m.length) (h1 : l[k]? = some x) (h2 : m[k]? = some y) (hne : x ≠ y) : sameB l m = false := by
  refine decide_eq_false fun e => ?_
  rw [e, List.getElem?_take, if_pos hk, h1] at h2
  injection h2 with h2
  exact hne h2

/-- A bool, in a world that has only drawn. -/
def Says (w : World) (b : Bool) (e : Ending) (w' : World) : Prop := ∃ n, e = .returned (.bool b) ∧ w' = w.drewN n

set_option maxHeartbeats 1000000 in
set_option maxRecDepth 100000 in
theorem same_any (A A' : Option Addr) (n c n' c' : Nat) (l m : List Nat) (w : World) (hr : Rd w (.slice A n c) (bv l)) (hr' : Rd w (.slice A' n' c') (bv m)) (hn : n ≤ 9223372036854775807) :
    Calls Try.prog 41 #[.slice A n c, .slice A' n' c'] w (Says w (sameB l m)) := by
  have e1 := hr.bytes
  have e2 := hr'.bytes
  have HE := Lib.hid (And.intro e1 e2)
  have HR := Lib.hid hr
  have HR' := Lib.hid hr'
  clear hr hr' e1 e2
  by_cases hlt : n < n'
  · have HB : Hid (sameB l m = false) := sameB_no (by have := HE.out; omega)
    go_enter Try.func41, Try.ntmps41
    go_wp2_with fail
    go_ret
    exact ⟨0, by rw [HB.out]; rfl, rfl⟩
  · go_enter Try.func41, Try.ntmps41
    go_wp2_with fail
    go_loopw [5] (fun i wr => ∃ (k q : Nat), k ≤ n' ∧ i = .int .i64 k ∧ wr = w.drewN q ∧ Hid (∀ j, j < k → l[j]? = m[j]?)) (fun i _ => n' - (intOf i).toNat)
    case atStart => exact ⟨0, 0, Nat.zero_le _, rfl, rfl, fun j hj => by omega⟩
    case round =>
      obtain ⟨k, q, hk, rfl, rfl, HJ⟩ := hrel
      by_cases hkn : k < n'
      · obtain ⟨b1, o1, d1, rfl, hc1, hd1⟩ := HR.out.byteAt (k := k) (by omega)
        obtain ⟨b2, o2, d2, rfl, hc2, hd2⟩ := HR'.out.byteAt (k := k) (by omega)
        have HD := Lib.hid (And.intro hd1 hd2)
        clear hd1 hd2
        have i1 : (k : Int) < n := by omega
        have i2 : (k : Int) < n' := by omega
        by_cases hd : d1 = d2
        · subst hd
          go_wp2_with fail
          go_quiet (fail)
          go_wp2_with fail
          go_roundw
          case rel => exact ⟨k + 1, _, by omega, by go_num, rfl, fun j hj => by
            rcases Nat.lt_or_ge j k with h1 | h1
            · exact HJ.out j h1
            · obtain rfl : j = k := by omega
              rw [HD.out.1, HD.out.2]⟩
          case measure => simp [intOf]; omega
        · have hne : ((d1 : Int) != (d2 : Int)) = true := by simp; omega
          have HB : Hid (sameB l m = false) := sameB_other (by have := HE.out; omega) HD.out.1 HD.out.2 hd
          go_wp2_with fail
          go_quiet (fail)
          go_wp2_with fail
          go_ret
          exact ⟨_, by rw [HB.out]; rfl, World.drewN_drewN _ _ _⟩
      · have HB : Hid (sameB l m = true) := sameB_yes (fun j hj => HJ.out j (by have := HE.out; omega))
        go_wp2_with fail
        go_ret
        exact ⟨q, by rw [HB.out]; rfl, rfl⟩
end Go.Proofs.Ytbaibabnfbjdeaa
