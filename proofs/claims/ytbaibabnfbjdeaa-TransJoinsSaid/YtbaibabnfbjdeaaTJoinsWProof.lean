/-
  The statement on cuecardlaw05.TransJoins: for every list of events and one more the call returns true, and nothing that lay has turned.
  Conditions: none.
-/
import Derived.Test.YtbaibabnfbjdeaaRows
import Derived.Test.YtbaibabnfbjdeaaTJoinsW
import Derived.Test.YtbaibabnfbjdeaaRowEnd
import Derived.Test.YtbaibabnfbjdeaaArgs
import Derived.SizedLaws
import Derived.Lib.SmallJoins
namespace Go.Proofs.Ytbaibabnfbjdeaa.TJoins
open Go.ChangeShapes Go.WideShapes Go.ChangeAt Go.RowKit

theorem own : ownKnob Try.prog.godebug = none := by kernel_rfl

set_option maxRecDepth 100000 in
theorem lifted (os : Os) (started : os.Started) (H : Type) (enc : TypeId × Value → H) :
    ReturnsInHanded {} Try.checked os 9 .any (Rows.transJoinsSpec.pre6 enc Try.prog Try.f9 Rows.transJoinsRow.domain false) (Rows.transJoinsSpec.post enc Try.prog Try.f9 false true false false) := by
  refine returnsInHanded_of_change_sized (C := Try.checked) own started (by kernel_rfl) Try.func9
    (ChangeSpec.witness6 (enc := enc) (C := Try.checked) false ⟨#[], #[.slice none 0 0, .agg #[.int .i64 0, .int .i64 0, .slice none 0 0]], []⟩ 8 (by kernel_rfl) (by kernel_rfl) (by kernel_rfl) (by kernel_rfl)) ?_
  intro W base args ds gs before hval0 hW hcnd hsz0 _
  have hval : ∀ (j : Nat) t v, Try.f9.params[j]? = some t → args[j]? = some v → Value.okWide Try.prog W .any base t v := hval0
  have hW' := hW
  obtain ⟨p, q, hA0, hV, rfl, hfz, hnd⟩ := hW
  have hA : DataW.TrodAll enc Try.prog W 0 (fun _ => true) true Try.f9.params.toList args.toList ds p := hA0
  have hAk := hA
  rw [Try.params9] at hA hval
  obtain ⟨v0, vs0, d0, ds0, p0, q0, hargs, rfl, rfl, h0, r0⟩ := trodAll_cons hA
  obtain ⟨v1, vs1, d1, ds1, p1, q1, rfl, rfl, rfl, h1, r1⟩ := trodAll_cons r0
  obtain ⟨rfl, rfl, rfl⟩ := trodAll_nil r1
  obtain rfl : args = #[v0, v1] := by cases args; simp_all
  obtain ⟨rfl, rfl⟩ := trodVars_none hV
  obtain ⟨A0, n0, c0, rfl⟩ := okWide_slice Try.underlying22 (hval 0 22 v0 rfl rfl)
  obtain ⟨fuel0, hf0⟩ := h0
  obtain ⟨l0, hr0, hd0, ht0⟩ := evs_of_trod_t hf0
  have z0 : (l0.length + 1) * 40 ≤ 140737488355328 := by
    rcases hd0 with ⟨_, rfl⟩ | ⟨D, r, hdd, _⟩
    · decide
    · dsimp only at hdd
      have h := sized_slice (j := 0) (t := 22) hsz0 (by kernel_rfl) (by rw [hdd]; rfl) Try.underlying22
      have hb : Try.checked.prog.bytesOf 43 = 40 := by kernel_rfl
      rw [hb, List.length_map, List.length_range, show reachBytes = 140737488351232 from rfl] at h
      omega
  obtain ⟨u1, x1, y1, e1a, e1b, e1c, fu1, rfl, rfl, rfl, g1a, g1b, g1c⟩ := Go.Joins.open_agg3 Try.underlying43 (by kernel_rfl) ev_cells (hval 1 43 v1 rfl rfl) h1
  obtain ⟨k1, ka1, _, _⟩ := DataW.trod_int Try.underlying3 g1a
  obtain ⟨t1, kb1, _, hw1⟩ := DataW.trod_int Try.underlying2 g1b
  obtain ⟨A1, n1, c1, zs1, kc1, hn1, m1, hrd1, hwf1, -⟩ := nums_of_trod Try.underlying25 Try.underlying5 (by kernel_rfl) g1c
  simp at ka1 kb1
  subst ka1 kb1 kc1
  have hzl1 : (zs1.map Int.toNat).length = n1 := by rw [List.length_map, hn1]
  rw [nums_nat .u8 (fun z hz => (wf_u8 (hwf1 z hz)).1)] at hrd1
  have ho1 : EvOk (fun _ => True) W ⟨k1, t1, A1, c1, zs1.map Int.toNat⟩ := ⟨by rw [hzl1]; exact hrd1, by rw [hzl1]; have := m1; simp only [maxLen] at this; omega, fun b hb => by obtain ⟨z, hz, rfl⟩ := List.mem_map.1 hb; have := wf_u8 (hwf1 z hz); omega, fun _ _ _ => trivial⟩
  have w1 := wf_i64 hw1
  clear hrd1 hwf1
  obtain ⟨bs1, hbs1⟩ : ∃ l, l = zs1.map Int.toNat := ⟨_, rfl⟩
  rw [← hbs1] at hzl1 ho1
  subst hzl1
  clear hA0 hval0
  have hlt := fun x hx => hW'.lt x hx
  simp only [List.append_nil] at hW' hlt hAk
  refine (joins_true _ l0 k1 t1 A1 c1 bs1 W hr0 ho1 ht0 w1 z0).mono fun e W' ⟨he, hg⟩ => ?_
  subst he
  exact ⟨_, rfl, post_of_below (pa := _) (pv := []) hW' (fun _ _ _ => (trodAll_cons_mk (shut_bool Try.underlying4 _) trodAll_mk0)) (fun sp hsp => trodAll_below (by kernel_rfl) hg sp (by decide +kernel) hAk hlt hsp) (fun _ _ => rfl) (by simp)
    hg (ok_one (by kernel_rfl) rfl (okWide_bool_mk Try.underlying4 _))⟩

theorem over : Rows.transJoinsRow.holds Try.pinned (OpenSpec.ofChange Rows.transJoinsSpec) :=
  OpenClaim.holds_of_wide 9 Try.f9 rfl rfl rfl rfl rfl rfl rfl ⟨rfl, rfl, rfl, rfl, rfl⟩ rfl rfl rfl rfl rfl (by kernel_rfl) Try.func9 (by kernel_rfl)
    (of_decide_eq_true (by kernel_rfl)) (by unfold Func.isWrapper; first | (rw [if_pos (by decide +kernel)]; kernel_rfl) | (rw [if_neg (by decide +kernel)]; exact ⟨rfl, rfl⟩))
    (fun os started H enc _ => lifted os started H enc)
end Go.Proofs.Ytbaibabnfbjdeaa.TJoins

namespace Go.Proofs.Ytbaibabnfbjdeaa
theorem joins_holds : Rows.TransJoinsSaid := TJoins.over
end Go.Proofs.Ytbaibabnfbjdeaa
