/-
  The law TclParses.
  Conditions: a text of at most 4611686018427387904 bytes.
-/
import Derived.Test.YtphmhglebeapaaaTclLaw
namespace Go.Proofs.Ytphmhglebeapaaa
open Go.RowKit

set_option maxRecDepth 100000 in
set_option maxHeartbeats 4000000 in
theorem parses_true (l : List Nat) (w : World) (hl : ∀ d ∈ l, d < 256) (hn : l.length ≤ 4611686018427387904) :
    Calls Try.prog 3 #[.string (str l)] w fun e w' => e = .returned (.bool true) ∧ Below w.heap.size w w' := by
  obtain ⟨k, hk1, hk2, hk3⟩ : ∃ k : Nat, k ≤ l.length ∧ k ≤ 5000 ∧ min (l.length : Int) 5000 = (k : Int) := ⟨min l.length 5000, Nat.min_le_left _ _, Nat.min_le_right _ _, by omega⟩
  have hrun := run_upto_str l k hk1
  have hsz := str_len l
  have hm : ∀ d ∈ l.take k, d < 256 := fun d hd => hl d (List.mem_of_mem_take hd)
  have hml : (l.take k).length ≤ 5000 := by rw [List.length_take]; omega
  generalize l.take k = m at *
  have HS := Lib.hid (parseR_small m hm (by omega))
  have HP := Lib.hid (fun W => Parse_is (w := W) m hm (by omega))
  have HR := Lib.hid (fun W => RParse_is m hm (by omega) W)
  have HF : Hid (fitC (parseR m).1) := Lib.hid (fit_of (by have := HS.out.1; omega) HS.out.2.1)
  clear hl hm hml
  unfold ParseTo at HP HR
  generalize (parseR m).2.1 = x1 at *
  generalize (parseR m).2.2 = x2 at *
  generalize (parseR m).1 = cs at *
  generalize str m = s at *
  go_enter Try.func3, Try.ntmps3
  go_wp2_with fail
  refine (HP.out w).mono ?_
  rintro e w1 ⟨v1, rfl, hc1, hb1⟩
  have X1 := Lib.hid (And.intro hc1 hb1)
  clear hc1 hb1 HP
  go_wp2_with fail
  refine (HR.out w1).mono ?_
  rintro e w2 ⟨v2, rfl, hc2, hb2⟩
  have X2 := Lib.hid (And.intro (SlI.below cmd_ok X1.out.1 hb2) (And.intro hc2 (X1.out.2.trans (hb2.mono X1.out.2.size))))
  clear hc2 hb2 HR X1
  go_wp2_with fail
  refine (alive_true w2).mono ?_
  rintro e w3 ⟨rfl, hb3⟩
  have X3 := Lib.hid (And.intro (SlI.below cmd_ok X2.out.1 hb3) (And.intro (SlI.below cmd_ok X2.out.2.1 hb3) (X2.out.2.2.trans (hb3.mono X2.out.2.2.size))))
  clear hb3 X2
  go_wp2_with fail
  refine (RSame_is cs cs X3.out.1 X3.out.2.1 HF.out HF.out).mono ?_
  intro e w4 h4
  obtain ⟨rfl, hb4⟩ := h4.yes (samesC_refl cs)
  have X4 := Lib.hid (And.intro (SlI.below cmd_ok X3.out.1 hb4) (And.intro (SlI.below cmd_ok X3.out.2.1 hb4) (X3.out.2.2.trans (hb4.mono X3.out.2.2.size))))
  clear h4 hb4 X3
  go_wp2_with fail
  refine (places_is cs cs X4.out.1 X4.out.2.1 HF.out HF.out).mono ?_
  intro e w5 h5
  obtain ⟨rfl, hb5⟩ := h5.yes (placesC_refl cs)
  have X5 := Lib.hid (X4.out.2.2.trans (hb5.mono X4.out.2.2.size))
  clear h5 hb5 X4
  go_wp2_with fail
  go_ret
  exact ⟨rfl, X5.out⟩
end Go.Proofs.Ytphmhglebeapaaa
