/-
  The statement on cuecardlaw13.GlobMore: for every pattern and every two texts the call returns true, and nothing that lay has turned.
  Conditions: none.
-/
import Derived.Test.YtgocngglpdgaiaaRows
import Derived.Test.YtgocngglpdgaiaaGlMo
import Derived.Test.YtgocngglpdgaiaaRowEnd
import Derived.Test.YtgocngglpdgaiaaArgs
import Derived.Test.YtgocngglpdgaiaaStrArg
import Derived.SizedLaws
namespace Go.Proofs.Ytgocngglpdgaiaa.GlMo
open Go.ChangeShapes Go.WideShapes Go.ChangeAt Go.RowKit

theorem own : ownKnob Try.prog.godebug = none := by kernel_rfl

set_option maxRecDepth 100000 in
theorem lifted (os : Os) (started : os.Started) (H : Type) (enc : TypeId × Value → H) :
    ReturnsInHanded {} Try.checked os 8 .any (Rows.globMoreSpec.pre6 enc Try.prog Try.f8 Rows.globMoreRow.domain false) (Rows.globMoreSpec.post enc Try.prog Try.f8 false true false false) := by
  refine returnsInHanded_of_change_sized (C := Try.checked) own started (by kernel_rfl) Try.func8
    (ChangeSpec.witness6 (enc := enc) (C := Try.checked) false ⟨#[], #[.string ⟨#[]⟩, .string ⟨#[]⟩, .string ⟨#[]⟩], []⟩ 8 (by kernel_rfl) (by kernel_rfl) (by kernel_rfl) (by kernel_rfl)) ?_
  intro W base args ds gs before hval0 hW hcnd hsz0 _
  have hval : ∀ (j : Nat) t v, Try.f8.params[j]? = some t → args[j]? = some v → Value.okWide Try.prog W .any base t v := hval0
  have hW' := hW
  obtain ⟨p, q, hA0, hV, rfl, hfz, hnd⟩ := hW
  have hA : DataW.TrodAll enc Try.prog W 0 (fun _ => true) true Try.f8.params.toList args.toList ds p := hA0
  have hAk := hA
  rw [Try.params8] at hA hval
  obtain ⟨v0, vs0, d0, ds0, p0, q0, hargs, rfl, rfl, h0, r0⟩ := trodAll_cons hA
  obtain ⟨v1, vs1, d1, ds1, p1, q1, rfl, rfl, rfl, h1, r1⟩ := trodAll_cons r0
  obtain ⟨v2, vs2, d2, ds2, p2, q2, rfl, rfl, rfl, h2, r2⟩ := trodAll_cons r1
  obtain ⟨rfl, rfl, rfl⟩ := trodAll_nil r2
  obtain rfl : args = #[v0, v1, v2] := by cases args; simp_all
  obtain ⟨rfl, rfl⟩ := trodVars_none hV
  obtain ⟨t0, rfl, rfl, rfl, m0⟩ := Go.ChangeMaps.open_string Try.underlying9 (hval 0 9 v0 rfl rfl) h0
  obtain ⟨l0, hl0, q0, hz0⟩ := str_of t0
  have z0 : l0.length ≤ 140737488351232 := by rw [hz0]; exact sized_string (j := 0) (t := 9) hsz0 (by kernel_rfl) rfl
  subst hl0
  obtain ⟨t1, rfl, rfl, rfl, m1⟩ := Go.ChangeMaps.open_string Try.underlying9 (hval 1 9 v1 rfl rfl) h1
  obtain ⟨l1, hl1, q1, hz1⟩ := str_of t1
  have z1 : l1.length ≤ 140737488351232 := by rw [hz1]; exact sized_string (j := 1) (t := 9) hsz0 (by kernel_rfl) rfl
  subst hl1
  obtain ⟨t2, rfl, rfl, rfl, m2⟩ := Go.ChangeMaps.open_string Try.underlying9 (hval 2 9 v2 rfl rfl) h2
  obtain ⟨l2, hl2, q2, hz2⟩ := str_of t2
  have z2 : l2.length ≤ 140737488351232 := by rw [hz2]; exact sized_string (j := 2) (t := 9) hsz0 (by kernel_rfl) rfl
  subst hl2
  clear hA0 hval0
  have hlt := fun x hx => hW'.lt x hx
  simp only [List.append_nil] at hW' hlt hAk
  refine (more_true l0 l1 l2 W q0 q1 q2 z0 z1 z2).mono fun e W' ⟨he, hg⟩ => ?_
  subst he
  exact ⟨_, rfl, post_of_below (pa := _) (pv := []) hW' (fun _ _ _ => (trodAll_cons_mk (shut_bool Try.underlying4 _) trodAll_mk0)) (fun sp hsp => trodAll_below (by kernel_rfl) hg sp (by decide +kernel) hAk hlt hsp) (fun _ _ => rfl) (by simp)
    hg (ok_one (by kernel_rfl) rfl (okWide_bool_mk Try.underlying4 _))⟩

theorem over : Rows.globMoreRow.holds Try.pinned (OpenSpec.ofChange Rows.globMoreSpec) :=
  OpenClaim.holds_of_wide 8 Try.f8 rfl rfl rfl rfl rfl rfl rfl ⟨rfl, rfl, rfl, rfl, rfl⟩ rfl rfl rfl rfl rfl (by kernel_rfl) Try.func8 (by kernel_rfl)
    (of_decide_eq_true (by kernel_rfl)) (by unfold Func.isWrapper; first | (rw [if_pos (by decide +kernel)]; kernel_rfl) | (rw [if_neg (by decide +kernel)]; exact ⟨rfl, rfl⟩))
    (fun os started H enc _ => lifted os started H enc)
end Go.Proofs.Ytgocngglpdgaiaa.GlMo

namespace Go.Proofs.Ytgocngglpdgaiaa
theorem more_holds : Rows.GlobMoreSaid := GlMo.over
end Go.Proofs.Ytgocngglpdgaiaa
