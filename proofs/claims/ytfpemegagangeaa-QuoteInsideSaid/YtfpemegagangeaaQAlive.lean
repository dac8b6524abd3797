/-
  cuecardlaw11.alive answers true.
  Conditions: none.
-/
import Derived.Test.YtfpemegagangeaaQCon
import Derived.Test.YtfpemegagangeaaConst
namespace Go.Proofs.Ytfpemegagangeaa
open Go.RowKit

def egQ : List Nat := [34, 92, 55, 120, 92, 49, 50, 51, 52, 34]
theorem egQ_unq : unquoteL egQ = ([7, 120, 83, 52], 0, 0) := by simp [egQ, unquoteL, unS, escL, digs, octd, nameNext]
theorem egQ_quote : quoteL [97, 10, 36] = [34, 97, 92, 48, 49, 50, 92, 48, 52, 52, 34] := by simp [quoteL, qb, plain, octs]

set_option maxRecDepth 100000 in
set_option maxHeartbeats 1000000 in
theorem alive_true (w : World) : Calls Try.prog 9 #[] w fun e w' => e = .returned (.bool true) ∧ Below w.heap.size w w' := by
  have kc := fun W C n c => Lib.run_convert_bytes_const (P := Try.prog) W 22 5 C n c Try.underlying22 Try.underlying5
  have e1 : str egQ = ⟨#[34, 92, 55, 120, 92, 49, 50, 51, 52, 34]⟩ := rfl
  have e2 : str [34, 97, 92, 48, 49, 50, 92, 48, 52, 52, 34] = ⟨#[34, 97, 92, 48, 49, 50, 92, 48, 52, 52, 34]⟩ := rfl
  have e3 : str [7, 120, 83, 52] = ⟨#[7, 120, 83, 52]⟩ := rfl
  have HU := Lib.hid (Unquote_is egQ (by simp [egQ]) (by simp [egQ]) w)
  rw [e1] at HU
  have HQ : Hid (∀ W, Calls Try.prog 14 #[.slice (some ⟨W.heap.size, 0, none⟩) 3 3] (W.alloc (.cells #[.int .u8 97, .int .u8 10, .int .u8 36] 5 (3, 4))) fun e w' => e = .returned (.string ⟨#[34, 97, 92, 48, 49, 50, 92, 48, 52, 52, 34]⟩) ∧ Below W.heap.size W w') := Lib.hid fun W => by
    refine (Quote_is (some ⟨W.heap.size, 0, none⟩) 3 3 [97, 10, 36] _ (Rd.const W _ _ [97, 10, 36] 3 rfl rfl) (by simp) (by simp)).mono ?_
    rintro e w' ⟨rfl, hb⟩
    rw [egQ_quote, e2]
    exact ⟨rfl, ((Below.refl _ W).alloc (Nat.le_refl _) _).trans (hb.mono (by simp))⟩
  have HE1 := Lib.hid e3
  clear e1 e2 e3
  go_enter Try.func9, Try.ntmps9
  go_wp2_with fail
  refine HU.out.mono ?_
  rintro e w1 ⟨A1, n1, c1, rfl, hr, hn, hb1⟩
  rw [egQ_unq] at hr hn ⊢
  obtain rfl : n1 = 4 := hn
  have X := Lib.hid (And.intro hr hb1)
  clear hr hb1 HU
  dsimp only
  go_wp2_with fail
  refine (HQ.out w1).mono ?_
  rintro e w2 ⟨rfl, hb2⟩
  have q := run_str (X.out.1.kept hb2)
  rw [HE1.out] at q
  have Y := Lib.hid (X.out.2.trans (hb2.mono X.out.2.size))
  clear hb2 HQ
  go_wp2_with fail
  go_ret
  exact ⟨rfl, Y.out⟩
end Go.Proofs.Ytfpemegagangeaa
