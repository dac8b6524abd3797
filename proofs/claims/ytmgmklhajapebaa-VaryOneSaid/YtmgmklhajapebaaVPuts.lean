/-
  cuecardlaw02.VaryPuts answers true for every two numbers.
  Conditions: none.
-/
import Derived.Test.YtmgmklhajapebaaVAlive
import Derived.Deep.RegionWith
namespace Go.Proofs.Ytmgmklhajapebaa
open Go.RowKit

/-- What string(b) is, as long as what lay stays. -/
theorem str_keeps {w : World} {g : Option Nat} {A : Option Addr} {c : Nat} {l : List Nat} (h : Row w 5 g (.slice A l.length c) (bv l)) :
    ∀ W, Below w.heap.size w W → (convert 24 9 (.slice A l.length c)).run Try.prog W = .ok (.string (str l)) W :=
  fun _ hb => run_str (h.below hb (fun _ e => h.lt e)).rd

theorem Below.undrew {w w' : World} (h : Below w.drew.heap.size w.drew w') : Below w.heap.size w w' := ⟨h.os, h.tape, h.output, h.size, h.block⟩
theorem below3 {w a b c : World} (h1 : Below w.heap.size w a) (h2 : Below a.heap.size a b) (h3 : Below b.heap.size b c) : Below w.heap.size w c :=
  (h1.trans (h2.mono h1.size)).trans (h3.mono (Nat.le_trans h1.size h2.size))

set_option maxHeartbeats 4000000 in
set_option maxRecDepth 100000 in
theorem puts_true (x : Nat) (y : Int) (w : World) (hx : x < 18446744073709551616) (h1 : -9223372036854775808 ≤ y) (h2 : y ≤ 9223372036854775807) :
    Calls Try.prog 3 #[.int .u64 x, .int .i64 y] w fun e w' => e = .returned (.bool true) ∧ Below w.heap.size w w' := by
  go_enter Try.func3, Try.ntmps3
  go_wp2_with fail
  go_region_with (first
    | (go_at_call 9; refine (alive_true _).mono ?_; rintro e wA ⟨rfl, hA⟩)
    | (go_at_call 10; refine (Put_any x _ hx).mono ?_; rintro e wP ⟨AP, cP, gP, rfl, hrP, -, hP⟩; have kP := str_keeps hrP; have rP := Below.refl wP.heap.size wP; clear hrP)
    | (go_at_call 11; refine (RPut_any x _ hx).mono ?_; rintro e wR ⟨AR, cR, gR, rfl, hrR, -, hR⟩; have kR := str_keeps hrR; have rR := Below.refl wR.heap.size wR; clear hrR)
    | (go_at_call 12; refine (Zig_any y _ h1 h2).mono ?_; rintro e wZ ⟨rfl, rfl⟩)
    | (go_at_call 13; refine (RZig_any y _ h1 h2).mono ?_; rintro e wZ ⟨rfl, rfl⟩)
    | (go_at_call 14; refine (Zag_any _ _ (by omega) (by omega)).mono ?_; rintro e wZ ⟨rfl, rfl⟩)
    | (go_at_call 15; refine (RZag_any _ _ (by omega) (by omega)).mono ?_; rintro e wZ ⟨rfl, rfl⟩))
  all_goals go_wp2
  all_goals go_ret
  all_goals first | exact ⟨rfl, below3 (Below.undrew hA) hP hR⟩ | exact ⟨rfl, below3 (Below.undrew hA) hR hP⟩
end Go.Proofs.Ytmgmklhajapebaa
