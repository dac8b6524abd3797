/-
  The law TailFactors: of any stream and any texts whether they stand in it one behind the other, and where the last one ends, is the document's.
  Conditions: no text has more than 1048576 bytes.
-/
import Derived.Test.YtialecghpekcnaaTLAlive
namespace Go.Proofs.Ytialecghpekcnaa
open Go.RowKit

set_option maxRecDepth 100000 in
set_option maxHeartbeats 4000000 in
theorem factors_true (A : Option Addr) (n c : Nat) (t : List Nat) (B : Option Addr) (m d : Nat) (ll : List (List Nat)) (w : World) (ht : Rd w (.slice A n c) (bv t)) (hl : Lists w (.slice B m d) ll) (hbt : ∀ b ∈ t, b < 256) (hbl : ∀ p ∈ ll, ∀ b ∈ p, b < 256) (hpl : ∀ p ∈ ll, p.length ≤ 1048576) :
    Calls Try.prog 4 #[.slice A n c, .slice B m d] w fun e w' => e = .returned (.bool true) ∧ Below w.heap.size w w' := by
  obtain ⟨n1, hn1, hn2, hn3⟩ : ∃ k : Nat, k ≤ n ∧ k ≤ 200 ∧ min (n : Int) 200 = (k : Int) := ⟨min n 200, Nat.min_le_left _ _, Nat.min_le_right _ _, by omega⟩
  obtain ⟨m1, hm1, hm2, hm3⟩ : ∃ k : Nat, k ≤ m ∧ k ≤ 20 ∧ min (m : Int) 20 = (k : Int) := ⟨min m 20, Nat.min_le_left _ _, Nat.min_le_right _ _, by omega⟩
  obtain ⟨A1, hs1, hr1⟩ := run_upto ht hn1
  obtain ⟨B1, hs2, hr2⟩ := run_upto_L hl hm1
  have HX : Hid ((∀ b ∈ t.take n1, b < 256) ∧ (∀ p ∈ ll.take m1, ∀ b ∈ p, b < 256) ∧ (∀ p ∈ ll.take m1, p.length ≤ 1048576)) := Lib.hid ⟨fun b hb => hbt b (List.mem_of_mem_take hb), fun p hp => hbl p (List.mem_of_mem_take hp), fun p hp => hpl p (List.mem_of_mem_take hp)⟩
  generalize t.take n1 = ts at *
  generalize ll.take m1 = ls at *
  have HR := Lib.hid (And.intro hr1 hr2)
  clear ht hl hr1 hr2 hbt hbl hpl
  go_enter Try.func4, Try.ntmps4
  go_wp2_with fail
  go_quiet (fail)
  clear hs1 hs2 hn3 hm3
  generalize hv : World.drewN w _ = v
  have HV : Hid (Below w.heap.size w v) := by subst hv; exact ⟨rfl, rfl, rfl, Nat.le_refl _, fun _ _ => rfl⟩
  clear hv
  have HC1 := Lib.hid (Factors_is A1 B1 n1 c m1 d ts ls (by omega) (by omega) v (HR.out.1.kept HV.out) (HR.out.2.kept HV.out) HX.out.1 HX.out.2.1 HX.out.2.2)
  have HC2 : Hid (∀ W, Below w.heap.size w W → Calls Try.prog 15 #[.slice A1 n1 c, .slice B1 m1 d] W fun e w' => e = .returned (facVal (factors ts ls 0)) ∧ ∃ n, w' = W.drewN n) := Lib.hid fun W hb => RFactors_is A1 B1 n1 c m1 d ts ls (by omega) (by omega) W (HR.out.1.kept hb) (HR.out.2.kept hb) HX.out.1 HX.out.2.1
  generalize factors ts ls 0 = F at *
  cases F
  all_goals
    go_wp2_with fail
    refine HC1.out.mono ?_
    rintro e w1 ⟨rfl, hb1⟩
    have X1 := Lib.hid (HV.out.trans (hb1.mono HV.out.size))
    have HC3 := Lib.hid (HC2.out w1 X1.out)
    simp only [facVal]
    clear hb1 HC1 HC2
    go_wp2_with fail
    refine HC3.out.mono ?_
    rintro e w2 ⟨rfl, nd, rfl⟩
    simp only [facVal]
    have X2 : Hid (Below w.heap.size w (w1.drewN nd)) := Lib.hid ⟨X1.out.os, X1.out.tape, X1.out.output, X1.out.size, X1.out.block⟩
    generalize w1.drewN nd = w2 at X2 ⊢
    clear HC3 X1
    go_wp2_with (go_at_call 12; refine (alive_true w2).mono ?_; rintro e w3 ⟨rfl, hb3⟩; have X3 := Lib.hid (X2.out.trans (hb3.mono X2.out.size)); clear hb3)
    go_ret
    exact ⟨rfl, X3.out⟩
end Go.Proofs.Ytialecghpekcnaa
