/-
  The statement on cuecardlaw09.TailJoins: for all bytes and every two lists of texts, of a bulk of at most 1048576, the call returns true, and nothing that lay has turned.
  Conditions: the statement's own: what is read is of bulk at most 1048576.
-/
import Derived.Test.YtialecghpekcnaaRows
import Derived.Test.YtialecghpekcnaaTLJn
import Derived.Test.YtialecghpekcnaaRowEnd
import Derived.Test.YtialecghpekcnaaArgs
import Derived.JoinedCond
import Derived.Test.YtialecghpekcnaaTLArgs
namespace Go.Proofs.Ytialecghpekcnaa.TLJn
open Go.ChangeShapes Go.WideShapes Go.ChangeAt Go.RowKit

theorem own : ownKnob Try.prog.godebug = none := by kernel_rfl

theorem bulk_all {H : Type} (l : List (DataW H)) : l.length ≤ Rows.uptoBulkAll l := by
  induction l with
  | nil => simp [Rows.uptoBulkAll]
  | cons x r ih =>
    have : 1 ≤ Rows.uptoBulk x := by
      cases x with
      | lit l => cases l <;> simp [Rows.uptoBulk]
      | _ => simp [Rows.uptoBulk]
    simp only [Rows.uptoBulkAll, List.length_cons]; omega
theorem bulk_slice {H : Type} {k : IntKind} {zs : List Int} {d : DataW H} (h : (d = .nil ∧ zs = []) ∨ ∃ r, d = .slice (lits k zs) r) : zs.length ≤ Rows.uptoBulk d := by
  rcases h with ⟨_, rfl⟩ | ⟨r, rfl⟩
  · simp
  · have := bulk_all (lits (H := H) k zs)
    rw [show (lits (H := H) k zs).length = zs.length by simp [lits]] at this
    simp only [Rows.uptoBulk]; omega

theorem bulk_lists {H : Type} {d : DataW H} {ll : List (List Nat)} (h : ListsRead d ll) : ∀ p ∈ ll, p.length ≤ Rows.uptoBulk d := by
  intro p hp
  rcases h with ⟨_, rfl⟩ | ⟨D, r, rfl, h⟩
  · cases hp
  · obtain ⟨i, hi, rfl⟩ := List.getElem_of_mem hp
    have hmem : D i ∈ (List.range ll.length).map D := List.mem_map.2 ⟨i, List.mem_range.2 hi, rfl⟩
    have key : ∀ (l : List (DataW H)) (x : DataW H), x ∈ l → Rows.uptoBulk x ≤ Rows.uptoBulkAll l := by
      intro l
      induction l with
      | nil => intro x hx; cases hx
      | cons y l ih =>
        intro x hx
        simp only [Rows.uptoBulkAll]
        rcases List.mem_cons.1 hx with rfl | hx
        · omega
        · have := ih x hx; omega
    have h1 := key _ _ hmem
    have h2 : (ll[i]).length ≤ Rows.uptoBulk (D i) := by
      rcases h i hi with e | ⟨zs, r, e, hl⟩
      · rw [e]; simp
      · rw [e, ← hl]
        have := bulk_all zs
        simp only [Rows.uptoBulk]; omega
    simp only [Rows.uptoBulk]
    omega

set_option maxRecDepth 100000 in
theorem lifted (os : Os) (started : os.Started) (H : Type) (enc : TypeId × Value → H) (F : Stop.Interp) :
    ReturnsInHanded {} Try.checked os 8 .any ((Rows.OpenSpec.upto Rows.tailJoinsSpec).pre6 enc Try.prog Try.f8 Rows.tailJoinsUptoRow.domain false) (((Rows.OpenSpec.upto Rows.tailJoinsSpec).at F).post enc Try.prog Try.f8 false true false false) := by
  refine returnsInHanded_of_cond (C := Try.checked) (s := Rows.OpenSpec.upto Rows.tailJoinsSpec) (k := Rows.uptoSmall) rfl own started (by kernel_rfl) Try.func8
    (OpenSpec.witness (enc := enc) (C := Try.checked) (s := Rows.OpenSpec.upto Rows.tailJoinsSpec) (k := Rows.uptoSmall) rfl false ⟨#[], #[.slice none 0 0, .slice none 0 0, .slice none 0 0], []⟩ 8 (by kernel_rfl) (by kernel_rfl) (by kernel_rfl)
      (x := ([.nil, .nil, .nil], [], [])) (by kernel_rfl) rfl (by kernel_rfl)) ?_
  intro W base args ds gs before hval0 hW _ hk _
  have hval : ∀ (j : Nat) t v, Try.f8.params[j]? = some t → args[j]? = some v → Value.okWide Try.prog W .any base t v := hval0
  have hW' := hW
  obtain ⟨p, q, hA0, hV, rfl, hfz, hnd⟩ := hW
  have hA : DataW.TrodAll enc Try.prog W 0 (fun _ => true) true Try.f8.params.toList args.toList ds p := hA0
  have hAk := hA
  rw [Try.params8] at hA hval
  obtain ⟨v0, vs0, d0, ds0, p0, q0, hargs, rfl, rfl, h0, r0⟩ := trodAll_cons hA
  obtain ⟨v1, vs1, d1, ds1, p1, q1, rfl, rfl, rfl, h1, r1⟩ := trodAll_cons r0
  obtain ⟨v2, vs2, d2, ds2, p2, q2, rfl, rfl, rfl, h2, r2⟩ := trodAll_cons r1
  obtain ⟨rfl, rfl, rfl⟩ := trodAll_nil r2
  obtain rfl : args = #[v0, v1, v2] := by cases args; simp_all
  obtain ⟨rfl, rfl⟩ := trodVars_none hV
  have hbk : Rows.uptoBulkAll _ ≤ 1048576 := of_decide_eq_true hk
  simp only [List.append_nil, Rows.uptoBulkAll] at hbk
  obtain ⟨A0, n0, c0, rfl⟩ := okWide_slice Try.underlying22 (hval 0 22 v0 rfl rfl)
  obtain ⟨fuel0, hf0⟩ := h0
  obtain ⟨zs0, -, m0, hr0, hw0, -⟩ := nums_at Try.underlying22 Try.underlying5 (by kernel_rfl) hf0
  rw [nums_nat .u8 (fun z hz => (wf_u8 (hw0 z hz)).1)] at hr0
  have q0 : ∀ b ∈ zs0.map Int.toNat, b < 256 := fun b hb => by obtain ⟨z, hz, rfl⟩ := List.mem_map.1 hb; have := wf_u8 (hw0 z hz); omega
  generalize zs0.map Int.toNat = l0 at *
  obtain ⟨A1, n1, c1, rfl⟩ := okWide_slice Try.underlying23 (hval 1 23 v1 rfl rfl)
  obtain ⟨fuel1, hf1⟩ := h1
  obtain ⟨l1, hr1, q1, hd1⟩ := lists_of_trod hf1
  have s1 : ∀ p ∈ l1, p.length ≤ 1048576 := fun p hp => by have := bulk_lists hd1 p hp; dsimp only at this; omega
  obtain ⟨A2, n2, c2, rfl⟩ := okWide_slice Try.underlying23 (hval 2 23 v2 rfl rfl)
  obtain ⟨fuel2, hf2⟩ := h2
  obtain ⟨l2, hr2, q2, hd2⟩ := lists_of_trod hf2
  have s2 : ∀ p ∈ l2, p.length ≤ 1048576 := fun p hp => by have := bulk_lists hd2 p hp; dsimp only at this; omega
  clear hA0 hval0
  have hlt := fun x hx => hW'.lt x hx
  simp only [List.append_nil] at hW' hlt hAk
  refine (joins_true A0 n0 c0 l0 A1 n1 c1 l1 A2 n2 c2 l2 W hr0 hr1 hr2 q0 q1 s1 q2 s2).mono fun e W' ⟨he, hg⟩ => ?_
  subst he
  exact ⟨_, rfl, post_of_below (pa := _) (pv := []) hW' (fun _ _ _ => (trodAll_cons_mk (shut_bool Try.underlying4 _) trodAll_mk0)) (fun sp hsp => trodAll_below (by kernel_rfl) hg sp (by decide +kernel) hAk hlt hsp) (fun _ _ => rfl) (by simp)
    hg (ok_one (by kernel_rfl) rfl (okWide_bool_mk Try.underlying4 _))⟩

theorem over : Rows.tailJoinsUptoRow.holds Try.pinned (Rows.OpenSpec.upto Rows.tailJoinsSpec) :=
  OpenClaim.holds_of_cond 8 Try.f8 rfl rfl rfl rfl rfl rfl rfl ⟨rfl, rfl, rfl, rfl, rfl⟩ rfl rfl rfl rfl rfl (by kernel_rfl) Try.func8 (by kernel_rfl)
    (of_decide_eq_true (by kernel_rfl)) (by unfold Func.isWrapper; first | (rw [if_pos (by decide +kernel)]; kernel_rfl) | (rw [if_neg (by decide +kernel)]; exact ⟨rfl, rfl⟩))
    (fun os started H enc _ F => lifted os started H enc F)
end Go.Proofs.Ytialecghpekcnaa.TLJn

namespace Go.Proofs.Ytialecghpekcnaa
theorem joins_holds : Rows.TailJoinsUptoSaid := TLJn.over
end Go.Proofs.Ytialecghpekcnaa
