/-
  The statement on cuecardlaw13.GlobStars: for every two patterns, every text and every number the call returns true, and nothing that lay has turned.
  Conditions: none.
-/
import Derived.Test.YtgocngglpdgaiaaRows
import Derived.Test.YtgocngglpdgaiaaGlStr
import Derived.Test.YtgocngglpdgaiaaRowEnd
import Derived.Test.YtgocngglpdgaiaaArgs
import Derived.Test.YtgocngglpdgaiaaStrArg
import Derived.SizedLaws
namespace Go.Proofs.Ytgocngglpdgaiaa.GlStr
open Go.ChangeShapes Go.WideShapes Go.ChangeAt Go.RowKit

theorem own : ownKnob Try.prog.godebug = none := by kernel_rfl

theorem cellsS : Try.prog.cellsOf 9 = 1 := by kernel_rfl
theorem list2 (l : List Value) (h : l.length = 2) : ∃ a b, l = [a, b] :=
  match l, h with
  | [a, b], _ => ⟨a, b, rfl⟩

set_option maxRecDepth 100000 in
theorem lifted (os : Os) (started : os.Started) (H : Type) (enc : TypeId × Value → H) :
    ReturnsInHanded {} Try.checked os 9 .any (Rows.globStarsSpec.pre6 enc Try.prog Try.f9 Rows.globStarsRow.domain false) (Rows.globStarsSpec.post enc Try.prog Try.f9 false true false false) := by
  refine returnsInHanded_of_change_sized (C := Try.checked) own started (by kernel_rfl) Try.func9
    (ChangeSpec.witness6 (enc := enc) (C := Try.checked) false ⟨#[], #[.agg #[.string ⟨#[]⟩, .string ⟨#[]⟩], .string ⟨#[]⟩, .int .i64 0], []⟩ 8 (by kernel_rfl) (by kernel_rfl) (by kernel_rfl) (by kernel_rfl)) ?_
  intro W base args ds gs before hval0 hW hcnd hsz0 _
  have hval : ∀ (j : Nat) t v, Try.f9.params[j]? = some t → args[j]? = some v → Value.okWide Try.prog W .any base t v := hval0
  have hW' := hW
  obtain ⟨p, q, hA0, hV, rfl, hfz, hnd⟩ := hW
  have hA : DataW.TrodAll enc Try.prog W 0 (fun _ => true) true Try.f9.params.toList args.toList ds p := hA0
  have hAk := hA
  rw [Try.params9] at hA hval
  obtain ⟨v0, vs0, d0, ds0, p0, q0, hargs, rfl, rfl, h0, r0⟩ := trodAll_cons hA
  obtain ⟨v1, vs1, d1, ds1, p1, q1, rfl, rfl, rfl, h1, r1⟩ := trodAll_cons r0
  obtain ⟨v2, vs2, d2, ds2, p2, q2, rfl, rfl, rfl, h2, r2⟩ := trodAll_cons r1
  obtain ⟨rfl, rfl, rfl⟩ := trodAll_nil r2
  obtain rfl : args = #[v0, v1, v2] := by cases args; simp_all
  obtain ⟨rfl, rfl⟩ := trodVars_none hV
  obtain ⟨⟨cs0⟩, rfl, hcz0, _⟩ : ∃ cs, v0 = .agg cs ∧ cs.size = Try.prog.cellsOf 42 ∧ Row.okWide Try.prog W .any base 42 cs := by
    have := hval 0 42 v0 rfl rfl
    simpa [Value.okWide, Try.underlying42] using this
  obtain ⟨u0a, u0b, rfl⟩ := list2 cs0 (hcz0.trans (show Try.prog.cellsOf 42 = 2 by kernel_rfl))
  obtain ⟨fuel0, hf0⟩ := h0
  obtain ⟨ys0, f0, -, -, -, hyl0, hi0⟩ := DataW.trod_array Try.underlying42 hf0
  have g0a := hi0 0 (by omega)
  rw [cellsS, List.getElem?_eq_getElem (by omega)] at g0a
  obtain ⟨x0a, ex0a, _, mx0a⟩ := DataW.trod_string Try.underlying9 g0a
  simp [Value.cells] at ex0a
  subst ex0a
  obtain ⟨l0a, hl0a, q0a, hz0a⟩ := str_of x0a
  have z0a : l0a.length ≤ 9223372036854775807 := by rw [hz0a, Array.length_toList]; simp only [maxLen] at mx0a; exact mx0a
  subst hl0a
  have g0b := hi0 1 (by omega)
  rw [cellsS, List.getElem?_eq_getElem (by omega)] at g0b
  obtain ⟨x0b, ex0b, _, mx0b⟩ := DataW.trod_string Try.underlying9 g0b
  simp [Value.cells] at ex0b
  subst ex0b
  obtain ⟨l0b, hl0b, q0b, hz0b⟩ := str_of x0b
  have z0b : l0b.length ≤ 9223372036854775807 := by rw [hz0b, Array.length_toList]; simp only [maxLen] at mx0b; exact mx0b
  subst hl0b
  obtain ⟨t1, rfl, rfl, rfl, m1⟩ := Go.ChangeMaps.open_string Try.underlying9 (hval 1 9 v1 rfl rfl) h1
  obtain ⟨l1, hl1, q1, hz1⟩ := str_of t1
  have z1 : l1.length ≤ 140737488351232 := by rw [hz1]; exact sized_string (j := 1) (t := 9) hsz0 (by kernel_rfl) rfl
  subst hl1
  obtain ⟨a2, rfl, rfl, rfl, w2⟩ := open_int Try.underlying3 (hval 2 3 v2 rfl rfl) h2
  have b2 := wf_i64 w2
  clear hA0 hval0
  have hlt := fun x hx => hW'.lt x hx
  simp only [List.append_nil] at hW' hlt hAk
  refine (stars_true l0a l0b l1 a2 W q0a q0b q1 z0a z0b z1 b2).mono fun e W' ⟨he, hg⟩ => ?_
  subst he
  exact ⟨_, rfl, post_of_below (pa := _) (pv := []) hW' (fun _ _ _ => (trodAll_cons_mk (shut_bool Try.underlying4 _) trodAll_mk0)) (fun sp hsp => trodAll_below (by kernel_rfl) hg sp (by decide +kernel) hAk hlt hsp) (fun _ _ => rfl) (by simp)
    hg (ok_one (by kernel_rfl) rfl (okWide_bool_mk Try.underlying4 _))⟩

theorem over : Rows.globStarsRow.holds Try.pinned (OpenSpec.ofChange Rows.globStarsSpec) :=
  OpenClaim.holds_of_wide 9 Try.f9 rfl rfl rfl rfl rfl rfl rfl ⟨rfl, rfl, rfl, rfl, rfl⟩ rfl rfl rfl rfl rfl (by kernel_rfl) Try.func9 (by kernel_rfl)
    (of_decide_eq_true (by kernel_rfl)) (by unfold Func.isWrapper; first | (rw [if_pos (by decide +kernel)]; kernel_rfl) | (rw [if_neg (by decide +kernel)]; exact ⟨rfl, rfl⟩))
    (fun os started H enc _ => lifted os started H enc)
end Go.Proofs.Ytgocngglpdgaiaa.GlStr

namespace Go.Proofs.Ytgocngglpdgaiaa
theorem stars_hold : Rows.GlobStarsSaid := GlStr.over
end Go.Proofs.Ytgocngglpdgaiaa
