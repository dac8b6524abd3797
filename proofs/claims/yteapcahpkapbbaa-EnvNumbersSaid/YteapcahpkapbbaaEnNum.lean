/-
  The law EnvNumbers.
  Conditions: at most 9223372036854775807 bytes.
-/
import Derived.Test.YteapcahpkapbbaaEnOps
namespace Go.Proofs.Yteapcahpkapbbaa
open Go.RowKit

set_option maxRecDepth 100000 in
theorem numbers_true (s : List Nat) (lo hi : Int) (w : World) (hs : ∀ c ∈ s, c < 256) (hn : s.length ≤ 9223372036854775807) :
    Calls Try.prog 4 #[.string (str s), .int .i64 lo, .int .i64 hi] w fun e w' => e = .returned (.bool true) ∧ Below w.heap.size w w' := by
  have N1 := Lib.hid (Number_is s hs hn lo hi w)
  have N2 := Lib.hid (fun W => RNumber_is s hs hn lo hi W)
  unfold NumTo at N1 N2
  clear hs hn
  generalize numS s lo hi = r at *
  obtain ⟨k, z⟩ := r
  dsimp only at N1 N2
  go_enter Try.func4, Try.ntmps4
  go_wp2_with fail
  refine N1.out.mono ?_
  rintro e w1 ⟨rfl, hb⟩
  have X1 := Lib.hid hb
  clear hb
  go_wp2_with fail
  refine (N2.out w1).mono ?_
  rintro e w2 ⟨rfl, rfl⟩
  go_wp2_with fail
  refine (alive_true _).mono ?_
  rintro e w3 ⟨rfl, hb⟩
  have X3 := Lib.hid (X1.out.trans (hb.mono X1.out.size))
  clear hb
  go_wp2_with fail
  go_ret
  exact ⟨rfl, X3.out⟩
end Go.Proofs.Yteapcahpkapbbaa
