/-
  The law EnvNone.
  Conditions: none.
-/
import Derived.Test.YteapcahpkapbbaaEnOps
namespace Go.Proofs.Yteapcahpkapbbaa
open Go.RowKit

set_option maxRecDepth 100000 in
set_option maxHeartbeats 1000000 in
theorem none_true (s : ByteArray) (a k : Int) (A : Option Addr) (n c : Nat) (w : World) :
    Calls Try.prog 5 #[.string s, .agg #[.int .i64 a, .int .i64 k, .slice A n c]] w fun e w' => e = .returned (.bool true) ∧ Below w.heap.size w w' := by
  have X0 := Lib.hid ((Below.refl w.heap.size w).alloc (Nat.le_refl _) (.cells #[.int .i64 a, .int .i64 k, .slice A n c] 33))
  have B0 := Lib.hid (Blk.new w 33 #[.int .i64 a, .int .i64 k, .slice A n c])
  go_enter Try.func5, Try.ntmps5
  go_upto_region 1 with (fail)
  generalize hP : w.heap.size = P at *
  generalize hW : World.alloc w _ = w0 at *
  have HPL : Hid (∀ W, Below P w W → P ≤ W.heap.size) := Lib.hid fun W h => by rw [← hP]; exact h.size
  have HP := Lib.hid hP
  clear hP hW
  go_wp2_with fail
  refine (alive_true _).mono ?_
  rintro e w1 ⟨rfl, hb⟩
  have X1 := Lib.hid (X0.out.trans (hb.mono (HPL.out _ X0.out)))
  have B1 := Lib.hid (B0.out.below hb B0.out.lt)
  clear hb X0 B0
  go_wp2_with fail
  refine (NGet_is s w1).mono ?_
  rintro e w2 ⟨rfl, hb⟩
  have X2 := Lib.hid (X1.out.trans (hb.mono (HPL.out _ X1.out)))
  have B2 := B1.out.below hb B1.out.lt
  have c0 := B2.cell 0
  have c1 := B2.cell 1
  have c2 := B2.cell 2
  simp only [List.getElem?_toArray, List.getElem?_cons_zero, List.getElem?_cons_succ] at c0 c1 c2
  clear hb X1 B1 B2
  rw [show getE none = .tuple #[.string ⟨#[]⟩, .bool false] from rfl]
  go_wp2_with fail
  refine (NWord_is a k A n c w2).mono ?_
  rintro e w3 ⟨rfl, hb⟩
  have X3 := Lib.hid (X2.out.trans (hb.mono (HPL.out _ X2.out)))
  clear hb X2 c0 c1 c2
  rw [show wordE (1, []) = .tuple #[.string ⟨#[]⟩, .int .i64 1] from rfl]
  go_wp2_with fail
  refine (NSet_is s ⟨#[120]⟩ w3).mono ?_
  rintro e w4 ⟨rfl, hb⟩
  have X4 := Lib.hid (X3.out.trans (hb.mono (HPL.out _ X3.out)))
  clear hb X3
  go_wp2_with fail
  refine (Nnames_is w4).mono ?_
  rintro e w5 ⟨A5, c5, rfl, go, hr, hg, hb⟩
  have X5 := Lib.hid (X4.out.trans (hb.mono (HPL.out _ X4.out)))
  clear hr hg hb X4
  go_wp2_with fail
  go_ret
  exact ⟨rfl, by rw [HP.out]; exact X5.out⟩
end Go.Proofs.Yteapcahpkapbbaa
