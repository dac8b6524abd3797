/-
  The document's Plain, Name and Octal.
  Conditions: c is a byte.
-/
import Derived.Test.YteapcahpkapbbaaQMath
import Derived.Test.YteapcahpkapbbaaStrCat
import Derived.Test.YteapcahpkapbbaaRet
namespace Go.Proofs.Yteapcahpkapbbaa
open Go.RowKit

theorem byte_parts (c : Nat) : (c < 48) ∨ (48 ≤ c ∧ c ≤ 57) ∨ (58 ≤ c ∧ c ≤ 64) ∨ (65 ≤ c ∧ c ≤ 90) ∨ (91 ≤ c ∧ c ≤ 94) ∨ (c = 95) ∨ (c = 96) ∨ (97 ≤ c ∧ c ≤ 122) ∨ (123 ≤ c) := by omega
set_option maxRecDepth 100000 in
set_option maxHeartbeats 1000000 in
theorem RName_is (c : Nat) (hc : c < 256) (w : World) : Calls Try.prog 36 #[.int .u8 (c : Nat)] w fun e w' => e = .returned (.bool (nameB c)) ∧ w = w' := by
  rcases byte_parts c with h | h | h | h | h | h | h | h | h
  · have HN := Lib.hid (show nameB c = false from decide_eq_false (by omega))
    have a0 : decide ((65 : Int) ≤ (c : Int)) = false := decide_eq_false (by omega)
    have b0 : decide ((c : Int) ≤ 90) = true := decide_eq_true (by omega)
    have a1 : decide ((97 : Int) ≤ (c : Int)) = false := decide_eq_false (by omega)
    have b1 : decide ((c : Int) ≤ 122) = true := decide_eq_true (by omega)
    have a2 : decide ((48 : Int) ≤ (c : Int)) = false := decide_eq_false (by omega)
    have b2 : decide ((c : Int) ≤ 57) = true := decide_eq_true (by omega)
    have e : ((c : Int) == 95) = false := beq_eq_false_iff_ne.2 (by omega)
    clear h hc
    go_enter Try.func36, Try.ntmps36
    go_wp2
    go_ret
    exact ⟨HN.out ▸ rfl, rfl⟩
  · have HN := Lib.hid (show nameB c = true from decide_eq_true (by omega))
    have a0 : decide ((65 : Int) ≤ (c : Int)) = false := decide_eq_false (by omega)
    have b0 : decide ((c : Int) ≤ 90) = true := decide_eq_true (by omega)
    have a1 : decide ((97 : Int) ≤ (c : Int)) = false := decide_eq_false (by omega)
    have b1 : decide ((c : Int) ≤ 122) = true := decide_eq_true (by omega)
    have a2 : decide ((48 : Int) ≤ (c : Int)) = true := decide_eq_true (by omega)
    have b2 : decide ((c : Int) ≤ 57) = true := decide_eq_true (by omega)
    have e : ((c : Int) == 95) = false := beq_eq_false_iff_ne.2 (by omega)
    clear h hc
    go_enter Try.func36, Try.ntmps36
    go_wp2
    go_ret
    exact ⟨HN.out ▸ rfl, rfl⟩
  · have HN := Lib.hid (show nameB c = false from decide_eq_false (by omega))
    have a0 : decide ((65 : Int) ≤ (c : Int)) = false := decide_eq_false (by omega)
    have b0 : decide ((c : Int) ≤ 90) = true := decide_eq_true (by omega)
    have a1 : decide ((97 : Int) ≤ (c : Int)) = false := decide_eq_false (by omega)
    have b1 : decide ((c : Int) ≤ 122) = true := decide_eq_true (by omega)
    have a2 : decide ((48 : Int) ≤ (c : Int)) = true := decide_eq_true (by omega)
    have b2 : decide ((c : Int) ≤ 57) = false := decide_eq_false (by omega)
    have e : ((c : Int) == 95) = false := beq_eq_false_iff_ne.2 (by omega)
    clear h hc
    go_enter Try.func36, Try.ntmps36
    go_wp2
    go_ret
    exact ⟨HN.out ▸ rfl, rfl⟩
  · have HN := Lib.hid (show nameB c = true from decide_eq_true (by omega))
    have a0 : decide ((65 : Int) ≤ (c : Int)) = true := decide_eq_true (by omega)
    have b0 : decide ((c : Int) ≤ 90) = true := decide_eq_true (by omega)
    have a1 : decide ((97 : Int) ≤ (c : Int)) = false := decide_eq_false (by omega)
    have b1 : decide ((c : Int) ≤ 122) = true := decide_eq_true (by omega)
    have a2 : decide ((48 : Int) ≤ (c : Int)) = true := decide_eq_true (by omega)
    have b2 : decide ((c : Int) ≤ 57) = false := decide_eq_false (by omega)
    have e : ((c : Int) == 95) = false := beq_eq_false_iff_ne.2 (by omega)
    clear h hc
    go_enter Try.func36, Try.ntmps36
    go_wp2
    go_ret
    exact ⟨HN.out ▸ rfl, rfl⟩
  · have HN := Lib.hid (show nameB c = false from decide_eq_false (by omega))
    have a0 : decide ((65 : Int) ≤ (c : Int)) = true := decide_eq_true (by omega)
    have b0 : decide ((c : Int) ≤ 90) = false := decide_eq_false (by omega)
    have a1 : decide ((97 : Int) ≤ (c : Int)) = false := decide_eq_false (by omega)
    have b1 : decide ((c : Int) ≤ 122) = true := decide_eq_true (by omega)
    have a2 : decide ((48 : Int) ≤ (c : Int)) = true := decide_eq_true (by omega)
    have b2 : decide ((c : Int) ≤ 57) = false := decide_eq_false (by omega)
    have e : ((c : Int) == 95) = false := beq_eq_false_iff_ne.2 (by omega)
    clear h hc
    go_enter Try.func36, Try.ntmps36
    go_wp2
    go_ret
    exact ⟨HN.out ▸ rfl, rfl⟩
  · have HN := Lib.hid (show nameB c = true from decide_eq_true (by omega))
    subst h
    go_enter Try.func36, Try.ntmps36
    go_wp2
    go_ret
    exact ⟨HN.out ▸ rfl, rfl⟩
  · have HN := Lib.hid (show nameB c = false from decide_eq_false (by omega))
    subst h
    go_enter Try.func36, Try.ntmps36
    go_wp2
    go_ret
    exact ⟨HN.out ▸ rfl, rfl⟩
  · have HN := Lib.hid (show nameB c = true from decide_eq_true (by omega))
    have a0 : decide ((65 : Int) ≤ (c : Int)) = true := decide_eq_true (by omega)
    have b0 : decide ((c : Int) ≤ 90) = false := decide_eq_false (by omega)
    have a1 : decide ((97 : Int) ≤ (c : Int)) = true := decide_eq_true (by omega)
    have b1 : decide ((c : Int) ≤ 122) = true := decide_eq_true (by omega)
    have a2 : decide ((48 : Int) ≤ (c : Int)) = true := decide_eq_true (by omega)
    have b2 : decide ((c : Int) ≤ 57) = false := decide_eq_false (by omega)
    have e : ((c : Int) == 95) = false := beq_eq_false_iff_ne.2 (by omega)
    clear h hc
    go_enter Try.func36, Try.ntmps36
    go_wp2
    go_ret
    exact ⟨HN.out ▸ rfl, rfl⟩
  · have HN := Lib.hid (show nameB c = false from decide_eq_false (by omega))
    have a0 : decide ((65 : Int) ≤ (c : Int)) = true := decide_eq_true (by omega)
    have b0 : decide ((c : Int) ≤ 90) = false := decide_eq_false (by omega)
    have a1 : decide ((97 : Int) ≤ (c : Int)) = true := decide_eq_true (by omega)
    have b1 : decide ((c : Int) ≤ 122) = false := decide_eq_false (by omega)
    have a2 : decide ((48 : Int) ≤ (c : Int)) = true := decide_eq_true (by omega)
    have b2 : decide ((c : Int) ≤ 57) = false := decide_eq_false (by omega)
    have e : ((c : Int) == 95) = false := beq_eq_false_iff_ne.2 (by omega)
    clear h hc
    go_enter Try.func36, Try.ntmps36
    go_wp2
    go_ret
    exact ⟨HN.out ▸ rfl, rfl⟩

/-- string([]byte{..}) of bytes that were just made. -/
theorem run_str_new (W : World) (C : Array Value) (l : List Nat) (n : Nat) (hn : n = l.length) (hC : C.toList = bv l) : (convert 59 9 (.slice (some ⟨W.heap.size, 0, none⟩) n n)).run Try.prog (W.alloc (.cells C 5)) = .ok (.string (str l)) (W.alloc (.cells C 5)) := by
  refine run_str (l := l) ?_
  subst hn
  refine ⟨_, l.length, by rw [bv_len], by rw [bv_len]; exact Nat.le_refl _, bv_one l, fun _ => ⟨_, 0, rfl, fun j u hu => ?_⟩⟩
  rw [cell_of_row (W.alloc (.cells C 5)) W.heap.size (0 + j) C 5 _ (heap_alloc_new W _), Nat.zero_add, ← Array.getElem?_toList, hC]
  exact hu

end Go.Proofs.Yteapcahpkapbbaa
