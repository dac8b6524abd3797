/-
  The statement on cuecardlaw11.QuoteJoins: for every two rows of bytes, of a bulk of at most 1048576, the call returns true, and nothing that lay has turned.
  Conditions: the statement's own: what is read is of bulk at most 1048576.
-/
import Derived.Test.YtfpemegagangeaaRows
import Derived.Test.YtfpemegagangeaaQJoins
import Derived.Test.YtfpemegagangeaaRowEnd
import Derived.Test.YtfpemegagangeaaArgs
import Derived.JoinedCond
namespace Go.Proofs.Ytfpemegagangeaa.QJoins
open Go.ChangeShapes Go.WideShapes Go.ChangeAt Go.RowKit

theorem own : ownKnob Try.prog.godebug = none := by kernel_rfl

theorem bulk_all {H : Type} (l : List (DataW H)) : l.length ≤ Rows.uptoBulkAll l := by
  induction l with
  | nil => simp [Rows.uptoBulkAll]
  | cons x r ih =>
    have : 1 ≤ Rows.uptoBulk x := by
      cases x with
      | lit l => cases l <;> simp [Rows.uptoBulk]
      | _ => simp [Rows.uptoBulk]
    simp only [Rows.uptoBulkAll, List.length_cons]; omega
theorem bulk_slice {H : Type} {k : IntKind} {zs : List Int} {d : DataW H} (h : (d = .nil ∧ zs = []) ∨ ∃ r, d = .slice (lits k zs) r) : zs.length ≤ Rows.uptoBulk d := by
  rcases h with ⟨_, rfl⟩ | ⟨r, rfl⟩
  · simp
  · have := bulk_all (lits (H := H) k zs)
    rw [show (lits (H := H) k zs).length = zs.length by simp [lits]] at this
    simp only [Rows.uptoBulk]; omega

set_option maxRecDepth 100000 in
theorem lifted (os : Os) (started : os.Started) (H : Type) (enc : TypeId × Value → H) (F : Stop.Interp) :
    ReturnsInHanded {} Try.checked os 6 .any ((Rows.OpenSpec.upto Rows.quoteJoinsSpec).pre6 enc Try.prog Try.f6 Rows.quoteJoinsUptoRow.domain false) (((Rows.OpenSpec.upto Rows.quoteJoinsSpec).at F).post enc Try.prog Try.f6 false true false false) := by
  refine returnsInHanded_of_cond (C := Try.checked) (s := Rows.OpenSpec.upto Rows.quoteJoinsSpec) (k := Rows.uptoSmall) rfl own started (by kernel_rfl) Try.func6
    (OpenSpec.witness (enc := enc) (C := Try.checked) (s := Rows.OpenSpec.upto Rows.quoteJoinsSpec) (k := Rows.uptoSmall) rfl false ⟨#[], #[.slice none 0 0, .slice none 0 0], []⟩ 8 (by kernel_rfl) (by kernel_rfl) (by kernel_rfl)
      (x := ([.nil, .nil], [], [])) (by kernel_rfl) rfl (by kernel_rfl)) ?_
  intro W base args ds gs before hval0 hW _ hk _
  have hval : ∀ (j : Nat) t v, Try.f6.params[j]? = some t → args[j]? = some v → Value.okWide Try.prog W .any base t v := hval0
  have hW' := hW
  obtain ⟨p, q, hA0, hV, rfl, hfz, hnd⟩ := hW
  have hA : DataW.TrodAll enc Try.prog W 0 (fun _ => true) true Try.f6.params.toList args.toList ds p := hA0
  have hAk := hA
  rw [Try.params6] at hA hval
  obtain ⟨v0, vs0, d0, ds0, p0, q0, hargs, rfl, rfl, h0, r0⟩ := trodAll_cons hA
  obtain ⟨v1, vs1, d1, ds1, p1, q1, rfl, rfl, rfl, h1, r1⟩ := trodAll_cons r0
  obtain ⟨rfl, rfl, rfl⟩ := trodAll_nil r1
  obtain rfl : args = #[v0, v1] := by cases args; simp_all
  obtain ⟨rfl, rfl⟩ := trodVars_none hV
  have hbk : Rows.uptoBulkAll _ ≤ 1048576 := of_decide_eq_true hk
  simp only [List.append_nil, Rows.uptoBulkAll] at hbk
  obtain ⟨A0, n0, c0, rfl⟩ := okWide_slice Try.underlying22 (hval 0 22 v0 rfl rfl)
  obtain ⟨fuel0, hf0⟩ := h0
  obtain ⟨zs0, e0, m0, hr0, hw0, hd0⟩ := nums_at Try.underlying22 Try.underlying5 (by kernel_rfl) hf0
  rw [nums_nat .u8 (fun z hz => (wf_u8 (hw0 z hz)).1)] at hr0
  have s0 : n0 ≤ 1048576 := by have := bulk_slice hd0; dsimp only at this; omega
  have q0 : ∀ b ∈ zs0.map Int.toNat, b < 256 := fun b hb => by obtain ⟨z, hz, rfl⟩ := List.mem_map.1 hb; have := wf_u8 (hw0 z hz); omega
  generalize zs0.map Int.toNat = l0 at *
  obtain ⟨A1, n1, c1, rfl⟩ := okWide_slice Try.underlying22 (hval 1 22 v1 rfl rfl)
  obtain ⟨fuel1, hf1⟩ := h1
  obtain ⟨zs1, e1, m1, hr1, hw1, hd1⟩ := nums_at Try.underlying22 Try.underlying5 (by kernel_rfl) hf1
  rw [nums_nat .u8 (fun z hz => (wf_u8 (hw1 z hz)).1)] at hr1
  have s1 : n1 ≤ 1048576 := by have := bulk_slice hd1; dsimp only at this; omega
  have q1 : ∀ b ∈ zs1.map Int.toNat, b < 256 := fun b hb => by obtain ⟨z, hz, rfl⟩ := List.mem_map.1 hb; have := wf_u8 (hw1 z hz); omega
  generalize zs1.map Int.toNat = l1 at *
  clear hA0 hval0
  have hlt := fun x hx => hW'.lt x hx
  simp only [List.append_nil] at hW' hlt hAk
  refine (joins_true A0 n0 c0 l0 A1 n1 c1 l1 W hr0 hr1 q0 q1 (by have := hr0.bytes; omega) (by have := hr1.bytes; omega)).mono fun e W' ⟨he, hg⟩ => ?_
  subst he
  exact ⟨_, rfl, post_of_below (pa := _) (pv := []) hW' (fun _ _ _ => (trodAll_cons_mk (shut_bool Try.underlying4 _) trodAll_mk0)) (fun sp hsp => trodAll_below (by kernel_rfl) hg sp (by decide +kernel) hAk hlt hsp) (fun _ _ => rfl) (by simp)
    hg (ok_one (by kernel_rfl) rfl (okWide_bool_mk Try.underlying4 _))⟩

theorem over : Rows.quoteJoinsUptoRow.holds Try.pinned (Rows.OpenSpec.upto Rows.quoteJoinsSpec) :=
  OpenClaim.holds_of_cond 6 Try.f6 rfl rfl rfl rfl rfl rfl rfl ⟨rfl, rfl, rfl, rfl, rfl⟩ rfl rfl rfl rfl rfl (by kernel_rfl) Try.func6 (by kernel_rfl)
    (of_decide_eq_true (by kernel_rfl)) (by unfold Func.isWrapper; first | (rw [if_pos (by decide +kernel)]; kernel_rfl) | (rw [if_neg (by decide +kernel)]; exact ⟨rfl, rfl⟩))
    (fun os started H enc _ F => lifted os started H enc F)
end Go.Proofs.Ytfpemegagangeaa.QJoins

namespace Go.Proofs.Ytfpemegagangeaa
theorem joins_hold : Rows.QuoteJoinsUptoSaid := QJoins.over
end Go.Proofs.Ytfpemegagangeaa
