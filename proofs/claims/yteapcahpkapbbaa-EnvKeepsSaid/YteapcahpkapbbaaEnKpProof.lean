/-
  The statement on cuecardlaw16.EnvKeeps: for every list of acts and every two texts the call returns true, and nothing that lay has turned.
  Conditions: none.
-/
import Derived.Test.YteapcahpkapbbaaRows
import Derived.Test.YteapcahpkapbbaaEnKp
import Derived.Test.YteapcahpkapbbaaRowEnd
import Derived.Test.YteapcahpkapbbaaArgs
import Derived.Test.YteapcahpkapbbaaEnArg
import Derived.Test.YteapcahpkapbbaaStrArg
namespace Go.Proofs.Yteapcahpkapbbaa.EnKp
open Go.ChangeShapes Go.WideShapes Go.ChangeAt Go.RowKit

theorem own : ownKnob Try.prog.godebug = none := by kernel_rfl

set_option maxRecDepth 100000 in
theorem lifted (os : Os) (started : os.Started) (H : Type) (enc : TypeId × Value → H) :
    ReturnsInHanded {} Try.checked os 6 .any (Rows.envKeepsSpec.pre6 enc Try.prog Try.f6 Rows.envKeepsRow.domain false) (Rows.envKeepsSpec.post enc Try.prog Try.f6 false true false false) := by
  refine returnsInHanded_of_change (C := Try.checked) own started (by kernel_rfl) Try.func6
    (ChangeSpec.witness6 (enc := enc) (C := Try.checked) false ⟨#[], #[.slice none 0 0, .string ⟨#[]⟩, .string ⟨#[]⟩], []⟩ 8 (by kernel_rfl) (by kernel_rfl) (by kernel_rfl) (by kernel_rfl)) ?_
  intro W base args ds gs before hval0 hW hcnd _
  have hval : ∀ (j : Nat) t v, Try.f6.params[j]? = some t → args[j]? = some v → Value.okWide Try.prog W .any base t v := hval0
  have hW' := hW
  obtain ⟨p, q, hA0, hV, rfl, hfz, hnd⟩ := hW
  have hA : DataW.TrodAll enc Try.prog W 0 (fun _ => true) true Try.f6.params.toList args.toList ds p := hA0
  have hAk := hA
  rw [Try.params6] at hA hval
  obtain ⟨v0, vs0, d0, ds0, p0, q0, hargs, rfl, rfl, h0, r0⟩ := trodAll_cons hA
  obtain ⟨v1, vs1, d1, ds1, p1, q1, rfl, rfl, rfl, h1, r1⟩ := trodAll_cons r0
  obtain ⟨v2, vs2, d2, ds2, p2, q2, rfl, rfl, rfl, h2, r2⟩ := trodAll_cons r1
  obtain ⟨rfl, rfl, rfl⟩ := trodAll_nil r2
  obtain rfl : args = #[v0, v1, v2] := by cases args; simp_all
  obtain ⟨rfl, rfl⟩ := trodVars_none hV
  obtain ⟨A0, n0, c0, rfl⟩ := okWide_slice Try.underlying22 (hval 0 22 v0 rfl rfl)
  obtain ⟨fuel0, hf0⟩ := h0
  obtain ⟨l0, hr0, q0, -, m0⟩ := eacts_of_trod hf0
  obtain ⟨t1, rfl, rfl, rfl, m1⟩ := Go.ChangeMaps.open_string Try.underlying9 (hval 1 9 v1 rfl rfl) h1
  obtain ⟨l1, hl1, q1, hz1⟩ := str_of t1
  have y1 : l1.length ≤ 9223372036854775807 := by rw [hz1, Array.length_toList]; simp only [maxLen] at m1; exact m1
  subst hl1
  obtain ⟨t2, rfl, rfl, rfl, m2⟩ := Go.ChangeMaps.open_string Try.underlying9 (hval 2 9 v2 rfl rfl) h2
  obtain ⟨l2, hl2, q2, hz2⟩ := str_of t2
  have y2 : l2.length ≤ 9223372036854775807 := by rw [hz2, Array.length_toList]; simp only [maxLen] at m2; exact m2
  subst hl2
  clear hA0 hval0
  have hlt := fun x hx => hW'.lt x hx
  simp only [List.append_nil] at hW' hlt hAk
  refine (keeps_true _ l0 l1 l2 W hr0 q0 m0 q1 y1 q2 y2).mono fun e W' ⟨he, hg⟩ => ?_
  subst he
  exact ⟨_, rfl, post_of_below (pa := _) (pv := []) hW' (fun _ _ _ => (trodAll_cons_mk (shut_bool Try.underlying4 _) trodAll_mk0)) (fun sp hsp => trodAll_below (by kernel_rfl) hg sp (by decide +kernel) hAk hlt hsp) (fun _ _ => rfl) (by simp)
    hg (Go.RowKit.ok_one (by kernel_rfl) rfl (okWide_bool_mk Try.underlying4 _))⟩

theorem over : Rows.envKeepsRow.holds Try.pinned (OpenSpec.ofChange Rows.envKeepsSpec) :=
  OpenClaim.holds_of_wide 6 Try.f6 rfl rfl rfl rfl rfl rfl rfl ⟨rfl, rfl, rfl, rfl, rfl⟩ rfl rfl rfl rfl rfl (by kernel_rfl) Try.func6 (by kernel_rfl)
    (of_decide_eq_true (by kernel_rfl)) (by unfold Func.isWrapper; first | (rw [if_pos (by decide +kernel)]; kernel_rfl) | (rw [if_neg (by decide +kernel)]; exact ⟨rfl, rfl⟩))
    (fun os started H enc _ => lifted os started H enc)
end Go.Proofs.Yteapcahpkapbbaa.EnKp

namespace Go.Proofs.Yteapcahpkapbbaa
theorem keeps_hold : Rows.EnvKeepsSaid := EnKp.over
end Go.Proofs.Yteapcahpkapbbaa
