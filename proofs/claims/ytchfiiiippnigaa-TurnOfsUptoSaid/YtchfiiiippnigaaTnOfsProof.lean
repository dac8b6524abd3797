/-
  The statement on cuecardlaw10.TurnOfs: for every list of events, of a bulk of at most 1048576, the call returns true, and nothing that lay has turned.
  Conditions: the statement's own: what is read is of bulk at most 1048576.
-/
import Derived.Test.YtchfiiiippnigaaRows
import Derived.Test.YtchfiiiippnigaaTnOfs
import Derived.Test.YtchfiiiippnigaaRowEnd
import Derived.Test.YtchfiiiippnigaaArgs
import Derived.JoinedCond
namespace Go.Proofs.Ytchfiiiippnigaa.TnOfs
open Go.ChangeShapes Go.WideShapes Go.ChangeAt Go.RowKit

theorem own : ownKnob Try.prog.godebug = none := by kernel_rfl

theorem bulk_all {H : Type} (l : List (DataW H)) : l.length ≤ Rows.uptoBulkAll l := by
  induction l with
  | nil => simp [Rows.uptoBulkAll]
  | cons x r ih =>
    have : 1 ≤ Rows.uptoBulk x := by
      cases x with
      | lit l => cases l <;> simp [Rows.uptoBulk]
      | _ => simp [Rows.uptoBulk]
    simp only [Rows.uptoBulkAll, List.length_cons]; omega
theorem bulk_slice {H : Type} {k : IntKind} {zs : List Int} {d : DataW H} (h : (d = .nil ∧ zs = []) ∨ ∃ r, d = .slice (lits k zs) r) : zs.length ≤ Rows.uptoBulk d := by
  rcases h with ⟨_, rfl⟩ | ⟨r, rfl⟩
  · simp
  · have := bulk_all (lits (H := H) k zs)
    rw [show (lits (H := H) k zs).length = zs.length by simp [lits]] at this
    simp only [Rows.uptoBulk]; omega

theorem bulk_ev {H : Type} {d : DataW H} {a : Ev} (h : EvRead d a) : 1 + a.data.length ≤ Rows.uptoBulk d := by
  obtain ⟨x, y, z, rfl, h⟩ := h
  simp only [Rows.uptoBulk, Rows.uptoBulkAll]
  rcases h with h | ⟨zs, r, rfl, hl⟩
  · rw [h, List.length_nil]; omega
  · have := bulk_all zs
    simp only [Rows.uptoBulk]
    omega
theorem bulk_row {H : Type} : ∀ (l : List Ev) (ds : List (DataW H)), l.length = ds.length → (∀ (i : Nat) (a : Ev) (d : DataW H), l[i]? = some a → ds[i]? = some d → EvRead d a) → l.length + whole (pes l) ≤ Rows.uptoBulkAll ds
  | [], _, _, _ => by simp [whole, pes]
  | a :: l, [], h, _ => by cases h
  | a :: l, d :: ds, h, hr => by
    have h1 := bulk_row l ds (by simpa using h) (fun i x y hx hy => hr (i + 1) x y (by simpa using hx) (by simpa using hy))
    have h2 := bulk_ev (hr 0 a d rfl rfl)
    have e : whole (pes (a :: l)) = a.data.length + whole (pes l) := by simp [pes, whole, Ev.pe]
    rw [e, List.length_cons]
    simp only [Rows.uptoBulkAll]
    omega
theorem bulk_evs {H : Type} {d : DataW H} {l : List Ev} (h : EvsRead d l) : l.length + whole (pes l) ≤ Rows.uptoBulk d := by
  rcases h with ⟨rfl, rfl⟩ | ⟨D, r, rfl, h⟩
  · simp [whole, pes]
  · have h1 := bulk_row l ((List.range l.length).map D) (by simp) (fun i a d ha hd => by
      have hi := (List.getElem?_eq_some_iff.1 ha).1
      rw [List.getElem?_map, List.getElem?_range hi] at hd
      simp at hd
      rw [← hd]
      exact h i a ha)
    simp only [Rows.uptoBulk]
    omega

set_option maxRecDepth 100000 in
theorem lifted (os : Os) (started : os.Started) (H : Type) (enc : TypeId × Value → H) (F : Stop.Interp) :
    ReturnsInHanded {} Try.checked os 3 .any ((Rows.OpenSpec.upto Rows.turnOfsSpec).pre6 enc Try.prog Try.f3 Rows.turnOfsUptoRow.domain false) (((Rows.OpenSpec.upto Rows.turnOfsSpec).at F).post enc Try.prog Try.f3 false true false false) := by
  refine returnsInHanded_of_cond (C := Try.checked) (s := Rows.OpenSpec.upto Rows.turnOfsSpec) (k := Rows.uptoSmall) rfl own started (by kernel_rfl) Try.func3
    (OpenSpec.witness (enc := enc) (C := Try.checked) (s := Rows.OpenSpec.upto Rows.turnOfsSpec) (k := Rows.uptoSmall) rfl false ⟨#[], #[.slice none 0 0], []⟩ 8 (by kernel_rfl) (by kernel_rfl) (by kernel_rfl)
      (x := ([.nil], [], [])) (by kernel_rfl) rfl (by kernel_rfl)) ?_
  intro W base args ds gs before hval0 hW _ hk _
  have hval : ∀ (j : Nat) t v, Try.f3.params[j]? = some t → args[j]? = some v → Value.okWide Try.prog W .any base t v := hval0
  have hW' := hW
  obtain ⟨p, q, hA0, hV, rfl, hfz, hnd⟩ := hW
  have hA : DataW.TrodAll enc Try.prog W 0 (fun _ => true) true Try.f3.params.toList args.toList ds p := hA0
  have hAk := hA
  rw [Try.params3] at hA hval
  obtain ⟨v0, vs0, d0, ds0, p0, q0, hargs, rfl, rfl, h0, r0⟩ := trodAll_cons hA
  obtain ⟨rfl, rfl, rfl⟩ := trodAll_nil r0
  obtain rfl : args = #[v0] := by cases args; simp_all
  obtain ⟨rfl, rfl⟩ := trodVars_none hV
  have hbk : Rows.uptoBulkAll _ ≤ 1048576 := of_decide_eq_true hk
  simp only [List.append_nil, Rows.uptoBulkAll] at hbk
  obtain ⟨A0, n0, c0, rfl⟩ := okWide_slice Try.underlying22 (hval 0 22 v0 rfl rfl)
  obtain ⟨fuel0, hf0⟩ := h0
  obtain ⟨l0, hr0, hd0⟩ := evs_of_trod hf0
  have s0 : l0.length + whole (pes l0) ≤ 1048576 := by have := bulk_evs hd0; dsimp only at this; omega
  clear hA0 hval0
  have hlt := fun x hx => hW'.lt x hx
  simp only [List.append_nil] at hW' hlt hAk
  refine (ofs_true _ l0 W hr0 s0).mono fun e W' ⟨he, hg⟩ => ?_
  subst he
  exact ⟨_, rfl, post_of_below (pa := _) (pv := []) hW' (fun _ _ _ => (trodAll_cons_mk (shut_bool Try.underlying4 _) trodAll_mk0)) (fun sp hsp => trodAll_below (by kernel_rfl) hg sp (by decide +kernel) hAk hlt hsp) (fun _ _ => rfl) (by simp)
    hg (ok_one (by kernel_rfl) rfl (okWide_bool_mk Try.underlying4 _))⟩

theorem over : Rows.turnOfsUptoRow.holds Try.pinned (Rows.OpenSpec.upto Rows.turnOfsSpec) :=
  OpenClaim.holds_of_cond 3 Try.f3 rfl rfl rfl rfl rfl rfl rfl ⟨rfl, rfl, rfl, rfl, rfl⟩ rfl rfl rfl rfl rfl (by kernel_rfl) Try.func3 (by kernel_rfl)
    (of_decide_eq_true (by kernel_rfl)) (by unfold Func.isWrapper; first | (rw [if_pos (by decide +kernel)]; kernel_rfl) | (rw [if_neg (by decide +kernel)]; exact ⟨rfl, rfl⟩))
    (fun os started H enc _ F => lifted os started H enc F)
end Go.Proofs.Ytchfiiiippnigaa.TnOfs

namespace Go.Proofs.Ytchfiiiippnigaa
theorem ofs_hold : Rows.TurnOfsUptoSaid := TnOfs.over
end Go.Proofs.Ytchfiiiippnigaa
