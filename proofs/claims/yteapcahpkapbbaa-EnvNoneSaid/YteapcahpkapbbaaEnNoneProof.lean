/-
  The statement on cuecardlaw16.EnvNone: for every text and every word the call returns true, and nothing that lay has turned.
  Conditions: none.
-/
import Derived.Test.YteapcahpkapbbaaRows
import Derived.Test.YteapcahpkapbbaaEnNone
import Derived.Test.YteapcahpkapbbaaRowEnd
import Derived.Test.YteapcahpkapbbaaArgs
import Derived.Test.YteapcahpkapbbaaEnArg
import Derived.Lib.SmallJoins
import Derived.Test.YteapcahpkapbbaaStrArg
namespace Go.Proofs.Yteapcahpkapbbaa.EnNone
open Go.ChangeShapes Go.WideShapes Go.ChangeAt Go.RowKit

theorem own : ownKnob Try.prog.godebug = none := by kernel_rfl

set_option maxRecDepth 100000 in
theorem lifted (os : Os) (started : os.Started) (H : Type) (enc : TypeId × Value → H) :
    ReturnsInHanded {} Try.checked os 5 .any (Rows.envNoneSpec.pre6 enc Try.prog Try.f5 Rows.envNoneRow.domain false) (Rows.envNoneSpec.post enc Try.prog Try.f5 false true false false) := by
  refine returnsInHanded_of_change (C := Try.checked) own started (by kernel_rfl) Try.func5
    (ChangeSpec.witness6 (enc := enc) (C := Try.checked) false ⟨#[], #[.string ⟨#[]⟩, .agg #[.int .i64 0, .int .i64 0, .slice none 0 0]], []⟩ 8 (by kernel_rfl) (by kernel_rfl) (by kernel_rfl) (by kernel_rfl)) ?_
  intro W base args ds gs before hval0 hW hcnd _
  have hval : ∀ (j : Nat) t v, Try.f5.params[j]? = some t → args[j]? = some v → Value.okWide Try.prog W .any base t v := hval0
  have hW' := hW
  obtain ⟨p, q, hA0, hV, rfl, hfz, hnd⟩ := hW
  have hA : DataW.TrodAll enc Try.prog W 0 (fun _ => true) true Try.f5.params.toList args.toList ds p := hA0
  have hAk := hA
  rw [Try.params5] at hA hval
  obtain ⟨v0, vs0, d0, ds0, p0, q0, hargs, rfl, rfl, h0, r0⟩ := trodAll_cons hA
  obtain ⟨v1, vs1, d1, ds1, p1, q1, rfl, rfl, rfl, h1, r1⟩ := trodAll_cons r0
  obtain ⟨rfl, rfl, rfl⟩ := trodAll_nil r1
  obtain rfl : args = #[v0, v1] := by cases args; simp_all
  obtain ⟨rfl, rfl⟩ := trodVars_none hV
  obtain ⟨t0, rfl, rfl, rfl, m0⟩ := Go.ChangeMaps.open_string Try.underlying9 (hval 0 9 v0 rfl rfl) h0
  obtain ⟨l0, hl0, q0, hz0⟩ := str_of t0
  subst hl0
  obtain ⟨u1, x1, y1, e1a, e1b, e1c, fu1, rfl, rfl, rfl, g1a, g1b, g1c⟩ := Go.Joins.open_agg3 Try.underlying33 (by kernel_rfl) cells_word (hval 1 33 v1 rfl rfl) h1
  obtain ⟨wa1, ka1, _, _⟩ := DataW.trod_int Try.underlying3 g1a
  obtain ⟨wk1, kb1, _, _⟩ := DataW.trod_int Try.underlying3 g1b
  obtain ⟨ps1, hps1, _, _, _⟩ := prts_of_trod g1c
  obtain ⟨wA1, wc1, kc1, _⟩ := hps1.form
  obtain ⟨wn1, hwn1⟩ : ∃ n, n = ps1.length := ⟨_, rfl⟩
  rw [← hwn1] at kc1
  simp at ka1 kb1
  subst ka1 kb1 kc1
  clear hA0 hval0
  have hlt := fun x hx => hW'.lt x hx
  simp only [List.append_nil] at hW' hlt hAk
  refine (none_true _ wa1 wk1 wA1 wn1 wc1 W).mono fun e W' ⟨he, hg⟩ => ?_
  subst he
  exact ⟨_, rfl, post_of_below (pa := _) (pv := []) hW' (fun _ _ _ => (trodAll_cons_mk (shut_bool Try.underlying4 _) trodAll_mk0)) (fun sp hsp => trodAll_below (by kernel_rfl) hg sp (by decide +kernel) hAk hlt hsp) (fun _ _ => rfl) (by simp)
    hg (Go.RowKit.ok_one (by kernel_rfl) rfl (okWide_bool_mk Try.underlying4 _))⟩

theorem over : Rows.envNoneRow.holds Try.pinned (OpenSpec.ofChange Rows.envNoneSpec) :=
  OpenClaim.holds_of_wide 5 Try.f5 rfl rfl rfl rfl rfl rfl rfl ⟨rfl, rfl, rfl, rfl, rfl⟩ rfl rfl rfl rfl rfl (by kernel_rfl) Try.func5 (by kernel_rfl)
    (of_decide_eq_true (by kernel_rfl)) (by unfold Func.isWrapper; first | (rw [if_pos (by decide +kernel)]; kernel_rfl) | (rw [if_neg (by decide +kernel)]; exact ⟨rfl, rfl⟩))
    (fun os started H enc _ => lifted os started H enc)
end Go.Proofs.Yteapcahpkapbbaa.EnNone

namespace Go.Proofs.Yteapcahpkapbbaa
theorem none_hold : Rows.EnvNoneSaid := EnNone.over
end Go.Proofs.Yteapcahpkapbbaa
