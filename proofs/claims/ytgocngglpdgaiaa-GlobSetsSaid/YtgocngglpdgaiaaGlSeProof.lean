/-
  The statement on cuecardlaw13.GlobSets: for every three bytes and every text the call returns true, and nothing that lay has turned.
  Conditions: none.
-/
import Derived.Test.YtgocngglpdgaiaaRows
import Derived.Test.YtgocngglpdgaiaaGlSe
import Derived.Test.YtgocngglpdgaiaaRowEnd
import Derived.Test.YtgocngglpdgaiaaArgs
import Derived.Test.YtgocngglpdgaiaaStrArg
import Derived.SizedLaws
namespace Go.Proofs.Ytgocngglpdgaiaa.GlSe
open Go.ChangeShapes Go.WideShapes Go.ChangeAt Go.RowKit

theorem own : ownKnob Try.prog.godebug = none := by kernel_rfl

theorem cellsB : Try.prog.cellsOf 5 = 1 := by kernel_rfl
theorem list3 (l : List Value) (h : l.length = 3) : ∃ a b c, l = [a, b, c] :=
  match l, h with
  | [a, b, c], _ => ⟨a, b, c, rfl⟩

set_option maxRecDepth 100000 in
theorem lifted (os : Os) (started : os.Started) (H : Type) (enc : TypeId × Value → H) :
    ReturnsInHanded {} Try.checked os 7 .any (Rows.globSetsSpec.pre6 enc Try.prog Try.f7 Rows.globSetsRow.domain false) (Rows.globSetsSpec.post enc Try.prog Try.f7 false true false false) := by
  refine returnsInHanded_of_change_sized (C := Try.checked) own started (by kernel_rfl) Try.func7
    (ChangeSpec.witness6 (enc := enc) (C := Try.checked) false ⟨#[], #[.agg #[.int .u8 0, .int .u8 0, .int .u8 0], .string ⟨#[]⟩], []⟩ 8 (by kernel_rfl) (by kernel_rfl) (by kernel_rfl) (by kernel_rfl)) ?_
  intro W base args ds gs before hval0 hW hcnd hsz0 _
  have hval : ∀ (j : Nat) t v, Try.f7.params[j]? = some t → args[j]? = some v → Value.okWide Try.prog W .any base t v := hval0
  have hW' := hW
  obtain ⟨p, q, hA0, hV, rfl, hfz, hnd⟩ := hW
  have hA : DataW.TrodAll enc Try.prog W 0 (fun _ => true) true Try.f7.params.toList args.toList ds p := hA0
  have hAk := hA
  rw [Try.params7] at hA hval
  obtain ⟨v0, vs0, d0, ds0, p0, q0, hargs, rfl, rfl, h0, r0⟩ := trodAll_cons hA
  obtain ⟨v1, vs1, d1, ds1, p1, q1, rfl, rfl, rfl, h1, r1⟩ := trodAll_cons r0
  obtain ⟨rfl, rfl, rfl⟩ := trodAll_nil r1
  obtain rfl : args = #[v0, v1] := by cases args; simp_all
  obtain ⟨rfl, rfl⟩ := trodVars_none hV
  obtain ⟨⟨cs0⟩, rfl, hcz0, _⟩ : ∃ cs, v0 = .agg cs ∧ cs.size = Try.prog.cellsOf 39 ∧ Row.okWide Try.prog W .any base 39 cs := by
    have := hval 0 39 v0 rfl rfl
    simpa [Value.okWide, Try.underlying39] using this
  obtain ⟨u0a, u0b, u0c, rfl⟩ := list3 cs0 (hcz0.trans (show Try.prog.cellsOf 39 = 3 by kernel_rfl))
  obtain ⟨fuel0, hf0⟩ := h0
  obtain ⟨ys0, f0, -, -, -, hyl0, hi0⟩ := DataW.trod_array Try.underlying39 hf0
  have g0a := hi0 0 (by omega)
  rw [cellsB, List.getElem?_eq_getElem (by omega)] at g0a
  obtain ⟨x0a, ex0a, _, wx0a⟩ := DataW.trod_int Try.underlying5 g0a
  simp [Value.cells] at ex0a
  subst ex0a
  have bz0a := wf_u8 wx0a
  obtain ⟨n0a, rfl⟩ : ∃ x : Nat, x0a = (x : Int) := ⟨x0a.toNat, by omega⟩
  replace bz0a : n0a < 256 := by omega
  have g0b := hi0 1 (by omega)
  rw [cellsB, List.getElem?_eq_getElem (by omega)] at g0b
  obtain ⟨x0b, ex0b, _, wx0b⟩ := DataW.trod_int Try.underlying5 g0b
  simp [Value.cells] at ex0b
  subst ex0b
  have bz0b := wf_u8 wx0b
  obtain ⟨n0b, rfl⟩ : ∃ x : Nat, x0b = (x : Int) := ⟨x0b.toNat, by omega⟩
  replace bz0b : n0b < 256 := by omega
  have g0c := hi0 2 (by omega)
  rw [cellsB, List.getElem?_eq_getElem (by omega)] at g0c
  obtain ⟨x0c, ex0c, _, wx0c⟩ := DataW.trod_int Try.underlying5 g0c
  simp [Value.cells] at ex0c
  subst ex0c
  have bz0c := wf_u8 wx0c
  obtain ⟨n0c, rfl⟩ : ∃ x : Nat, x0c = (x : Int) := ⟨x0c.toNat, by omega⟩
  replace bz0c : n0c < 256 := by omega
  obtain ⟨t1, rfl, rfl, rfl, m1⟩ := Go.ChangeMaps.open_string Try.underlying9 (hval 1 9 v1 rfl rfl) h1
  obtain ⟨l1, hl1, q1, hz1⟩ := str_of t1
  have z1 : l1.length ≤ 140737488351232 := by rw [hz1]; exact sized_string (j := 1) (t := 9) hsz0 (by kernel_rfl) rfl
  subst hl1
  clear hA0 hval0
  have hlt := fun x hx => hW'.lt x hx
  simp only [List.append_nil] at hW' hlt hAk
  refine (sets_true n0a n0b n0c l1 W bz0a bz0b bz0c q1 z1).mono fun e W' ⟨he, hg⟩ => ?_
  subst he
  exact ⟨_, rfl, post_of_below (pa := _) (pv := []) hW' (fun _ _ _ => (trodAll_cons_mk (shut_bool Try.underlying4 _) trodAll_mk0)) (fun sp hsp => trodAll_below (by kernel_rfl) hg sp (by decide +kernel) hAk hlt hsp) (fun _ _ => rfl) (by simp)
    hg (ok_one (by kernel_rfl) rfl (okWide_bool_mk Try.underlying4 _))⟩

theorem over : Rows.globSetsRow.holds Try.pinned (OpenSpec.ofChange Rows.globSetsSpec) :=
  OpenClaim.holds_of_wide 7 Try.f7 rfl rfl rfl rfl rfl rfl rfl ⟨rfl, rfl, rfl, rfl, rfl⟩ rfl rfl rfl rfl rfl (by kernel_rfl) Try.func7 (by kernel_rfl)
    (of_decide_eq_true (by kernel_rfl)) (by unfold Func.isWrapper; first | (rw [if_pos (by decide +kernel)]; kernel_rfl) | (rw [if_neg (by decide +kernel)]; exact ⟨rfl, rfl⟩))
    (fun os started H enc _ => lifted os started H enc)
end Go.Proofs.Ytgocngglpdgaiaa.GlSe

namespace Go.Proofs.Ytgocngglpdgaiaa
theorem sets_hold : Rows.GlobSetsSaid := GlSe.over
end Go.Proofs.Ytgocngglpdgaiaa
