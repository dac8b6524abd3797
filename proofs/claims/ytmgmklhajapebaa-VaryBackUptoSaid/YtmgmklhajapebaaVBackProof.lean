/-
  The statement on cuecardlaw02.VaryBack: for every number and all bytes ahead and behind, of a bulk of at most 1048576, the call returns true, and nothing that lay has turned.
  Conditions: the statement's own: what is read is of bulk at most 1048576.
-/
import Derived.Test.YtmgmklhajapebaaRows
import Derived.Test.YtmgmklhajapebaaVBack
import Derived.Test.YtmgmklhajapebaaRowEnd
import Derived.Test.YtmgmklhajapebaaArgs
import Derived.JoinedCond
namespace Go.Proofs.Ytmgmklhajapebaa.VBack
open Go.ChangeShapes Go.WideShapes Go.ChangeAt Go.RowKit

theorem own : ownKnob Try.prog.godebug = none := by kernel_rfl

theorem bulk_all {H : Type} (l : List (DataW H)) : l.length ≤ Rows.uptoBulkAll l := by
  induction l with
  | nil => simp [Rows.uptoBulkAll]
  | cons x r ih =>
    have : 1 ≤ Rows.uptoBulk x := by
      cases x with
      | lit l => cases l <;> simp [Rows.uptoBulk]
      | _ => simp [Rows.uptoBulk]
    simp only [Rows.uptoBulkAll, List.length_cons]; omega
theorem bulk_slice {H : Type} {k : IntKind} {zs : List Int} {d : DataW H} (h : (d = .nil ∧ zs = []) ∨ ∃ r, d = .slice (lits k zs) r) : zs.length ≤ Rows.uptoBulk d := by
  rcases h with ⟨_, rfl⟩ | ⟨r, rfl⟩
  · simp
  · have := bulk_all (lits (H := H) k zs)
    rw [show (lits (H := H) k zs).length = zs.length by simp [lits]] at this
    simp only [Rows.uptoBulk]; omega

set_option maxRecDepth 100000 in
theorem lifted (os : Os) (started : os.Started) (H : Type) (enc : TypeId × Value → H) (F : Stop.Interp) :
    ReturnsInHanded {} Try.checked os 5 .any ((Rows.OpenSpec.upto Rows.varyBackSpec).pre6 enc Try.prog Try.f5 Rows.varyBackUptoRow.domain false) (((Rows.OpenSpec.upto Rows.varyBackSpec).at F).post enc Try.prog Try.f5 false true false false) := by
  refine returnsInHanded_of_cond (C := Try.checked) (s := Rows.OpenSpec.upto Rows.varyBackSpec) (k := Rows.uptoSmall) rfl own started (by kernel_rfl) Try.func5
    (OpenSpec.witness (enc := enc) (C := Try.checked) (s := Rows.OpenSpec.upto Rows.varyBackSpec) (k := Rows.uptoSmall) rfl false ⟨#[], #[.int .u64 0, .slice none 0 0, .slice none 0 0], []⟩ 8 (by kernel_rfl) (by kernel_rfl) (by kernel_rfl)
      (x := ([.lit (.int .u64 0), .nil, .nil], [], [])) (by kernel_rfl) rfl (by kernel_rfl)) ?_
  intro W base args ds gs before hval0 hW _ hk _
  have hval : ∀ (j : Nat) t v, Try.f5.params[j]? = some t → args[j]? = some v → Value.okWide Try.prog W .any base t v := hval0
  have hW' := hW
  obtain ⟨p, q, hA0, hV, rfl, hfz, hnd⟩ := hW
  have hA : DataW.TrodAll enc Try.prog W 0 (fun _ => true) true Try.f5.params.toList args.toList ds p := hA0
  have hAk := hA
  rw [Try.params5] at hA hval
  obtain ⟨v0, vs0, d0, ds0, p0, q0, hargs, rfl, rfl, h0, r0⟩ := trodAll_cons hA
  obtain ⟨v1, vs1, d1, ds1, p1, q1, rfl, rfl, rfl, h1, r1⟩ := trodAll_cons r0
  obtain ⟨v2, vs2, d2, ds2, p2, q2, rfl, rfl, rfl, h2, r2⟩ := trodAll_cons r1
  obtain ⟨rfl, rfl, rfl⟩ := trodAll_nil r2
  obtain rfl : args = #[v0, v1, v2] := by cases args; simp_all
  obtain ⟨rfl, rfl⟩ := trodVars_none hV
  have hbk : Rows.uptoBulkAll _ ≤ 1048576 := of_decide_eq_true hk
  simp only [List.append_nil, Rows.uptoBulkAll] at hbk
  obtain ⟨a0, rfl, rfl, rfl, w0⟩ := open_int Try.underlying22 (hval 0 22 v0 rfl rfl) h0
  have b0 := wf_u64 w0
  obtain ⟨x0, rfl⟩ : ∃ x : Nat, a0 = (x : Int) := ⟨a0.toNat, by omega⟩
  replace b0 : x0 < 18446744073709551616 := by omega
  obtain ⟨A1, n1, c1, rfl⟩ := okWide_slice Try.underlying24 (hval 1 24 v1 rfl rfl)
  obtain ⟨fuel1, hf1⟩ := h1
  obtain ⟨zs1, e1, m1, hr1, hw1, hd1⟩ := nums_at Try.underlying24 Try.underlying5 (by kernel_rfl) hf1
  rw [nums_nat .u8 (fun z hz => (wf_u8 (hw1 z hz)).1)] at hr1
  have s1 : n1 ≤ 1048576 := by have := bulk_slice hd1; dsimp only at this; omega
  have q1 : ∀ b ∈ zs1.map Int.toNat, b < 256 := fun b hb => by obtain ⟨z, hz, rfl⟩ := List.mem_map.1 hb; have := wf_u8 (hw1 z hz); omega
  generalize zs1.map Int.toNat = l1 at *
  obtain ⟨A2, n2, c2, rfl⟩ := okWide_slice Try.underlying24 (hval 2 24 v2 rfl rfl)
  obtain ⟨fuel2, hf2⟩ := h2
  obtain ⟨zs2, e2, m2, hr2, hw2, hd2⟩ := nums_at Try.underlying24 Try.underlying5 (by kernel_rfl) hf2
  rw [nums_nat .u8 (fun z hz => (wf_u8 (hw2 z hz)).1)] at hr2
  have s2 : n2 ≤ 1048576 := by have := bulk_slice hd2; dsimp only at this; omega
  have q2 : ∀ b ∈ zs2.map Int.toNat, b < 256 := fun b hb => by obtain ⟨z, hz, rfl⟩ := List.mem_map.1 hb; have := wf_u8 (hw2 z hz); omega
  generalize zs2.map Int.toNat = l2 at *
  clear hA0 hval0
  have hlt := fun x hx => hW'.lt x hx
  simp only [List.append_nil] at hW' hlt hAk
  refine (back_true x0 A1 n1 c1 l1 A2 n2 c2 l2 W b0 hr1 hr2 q1 q2 s1 s2).mono fun e W' ⟨he, hg⟩ => ?_
  subst he
  exact ⟨_, rfl, post_of_below (pa := _) (pv := []) hW' (fun _ _ _ => (trodAll_cons_mk (shut_bool Try.underlying4 _) trodAll_mk0)) (fun sp hsp => trodAll_below (by kernel_rfl) hg sp (by decide +kernel) hAk hlt hsp) (fun _ _ => rfl) (by simp)
    hg (ok_one (by kernel_rfl) rfl (okWide_bool_mk Try.underlying4 _))⟩

theorem over : Rows.varyBackUptoRow.holds Try.pinned (Rows.OpenSpec.upto Rows.varyBackSpec) :=
  OpenClaim.holds_of_cond 5 Try.f5 rfl rfl rfl rfl rfl rfl rfl ⟨rfl, rfl, rfl, rfl, rfl⟩ rfl rfl rfl rfl rfl (by kernel_rfl) Try.func5 (by kernel_rfl)
    (of_decide_eq_true (by kernel_rfl)) (by unfold Func.isWrapper; first | (rw [if_pos (by decide +kernel)]; kernel_rfl) | (rw [if_neg (by decide +kernel)]; exact ⟨rfl, rfl⟩))
    (fun os started H enc _ F => lifted os started H enc F)
end Go.Proofs.Ytmgmklhajapebaa.VBack

namespace Go.Proofs.Ytmgmklhajapebaa
theorem back_holds : Rows.VaryBackUptoSaid := VBack.over
end Go.Proofs.Ytmgmklhajapebaa
