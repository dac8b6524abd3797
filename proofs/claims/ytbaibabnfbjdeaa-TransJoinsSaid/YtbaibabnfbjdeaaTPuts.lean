/-
  cuecardlaw05.TransPuts answers true for all events.
  Conditions: times within an int64.
-/
import Derived.Test.YtbaibabnfbjdeaaTBack
import Derived.Deep.RegionHeld
namespace Go.Proofs.Ytbaibabnfbjdeaa
open Go.RowKit

theorem str_keeps {w : World} {A : Option Addr} {n c : Nat} {l : List Nat} (h : Rd w (.slice A n c) (bv l)) :
    ∀ W, Below w.heap.size w W → (convert 25 9 (.slice A n c)).run Try.prog W = .ok (.string (str l)) W := fun _ hb => run_str (h.kept hb)

theorem Below.undrew {w w' : World} (h : Below w.drew.heap.size w.drew w') : Below w.heap.size w w' := ⟨h.os, h.tape, h.output, h.size, h.block⟩

set_option maxRecDepth 100000 in
set_option maxHeartbeats 4000000 in
theorem puts_true (v : Value) (l : List Ev) (en : Bool) (w : World) (h : Evs w v l) (ht : ∀ a ∈ l, In64 a.time) :
    Calls Try.prog 3 #[v, .bool en] w fun e w' => e = .returned (.bool true) ∧ Below w.heap.size w w' := by
  have HE := Lib.hid h
  obtain ⟨A, c, rfl, -⟩ := h.form
  by_cases hc : chkAll (pes l) = 0
  · have hr := chkAll_right hc (pes_time ht)
    have HR := Lib.hid hr
    have HC := Lib.hid hc
    clear h ht hc hr
    go_enter Try.func3, Try.ntmps3
    go_wp2_with fail
    refine (Encode_good _ l en _ (HE.out.alloc _) HR.out).mono ?_
    rintro e W1 ⟨A1, c1, rfl, hr1, hb1⟩
    have bt := (Blk.new w 24 #[.slice A l.length c, .bool en]).below hb1 (by simp)
    have HB1 := Lib.hid (below2 ((Below.refl _ w).alloc (Nat.le_refl _) _) hb1)
    have HR1 := Lib.hid hr1
    have hlt : w.heap.size < W1.heap.size := bt.lt
    have HT1 := Lib.hid bt
    clear hr1 hb1 bt
    go_wp2_with fail
    refine (RCheck_any _ l _ (HE.out.below HB1.out)).mono ?_
    rw [HC.out]
    rintro e W4 ⟨rfl, rfl⟩
    have k1 := str_keeps HR1.out
    have hD : Below W1.heap.size W1 W1.drew := ⟨rfl, rfl, rfl, Nat.le_refl _, fun _ _ => rfl⟩
    have x0 : ∀ V, Below W1.heap.size W1 V → V.cell? ⟨w.heap.size, 0, none⟩ = some (.slice A l.length c) := fun V hV => (HT1.out.below hV HT1.out.lt).cell 0
    have x1 : ∀ V, Below W1.heap.size W1 V → V.cell? ⟨w.heap.size, 1, none⟩ = some (.bool en) := fun V hV => (HT1.out.below hV HT1.out.lt).cell 1
    go_wp2_with fail
    go_region_held (fun V => Below W1.heap.size W1 V) (first | exact hD | exact hA' | exact hP' | assumption) (first
      | (go_at_call 12; refine (alive_true _).mono ?_; rintro e wA ⟨rfl, hA⟩; have hA' := Below.undrew hA; clear hA)
      | (go_at_call 13; refine (REncode_any (.slice A l.length c) l en _ (HE.out.below (below2 HB1.out hA')) HR.out).mono ?_; rintro e wP ⟨AP, cP, gP, rfl, hrP, -, hP⟩; have kP := str_keeps hrP.rd; have rP := Below.refl wP.heap.size wP; have hP' := below2 hA' hP; clear hrP))
    all_goals go_wp2
    all_goals go_ret
    all_goals exact ⟨rfl, below2 HB1.out hP'⟩
  · have hne : (chkAll (pes l) != 0) = true := by simpa using hc
    have HC := Lib.hid hc
    clear h ht hc
    go_enter Try.func3, Try.ntmps3
    go_wp2_with fail
    refine (Encode_bad _ l en _ (HE.out.alloc _) HC.out).mono ?_
    rintro e W1 ⟨rfl, hb1⟩
    have HB1 := Lib.hid (below2 ((Below.refl _ w).alloc (Nat.le_refl _) _) hb1)
    clear hb1
    go_wp2_with fail
    refine (RCheck_any _ l _ (HE.out.below HB1.out)).mono ?_
    rintro e W4 ⟨rfl, rfl⟩
    go_wp2_with fail
    refine (alive_true _).mono ?_
    rintro e W3 ⟨rfl, hb3⟩
    have HB3 := Lib.hid (below2 HB1.out hb3)
    clear hb3 HB1
    go_wp2_with fail
    go_ret
    exact ⟨rfl, HB3.out⟩
end Go.Proofs.Ytbaibabnfbjdeaa
