/-
  The statement on cuecardlaw10.TurnEvents: for every list of turns and every number, of a bulk of at most 1048576, the call returns true, and nothing that lay has turned.
  Conditions: the statement's own: what is read is of bulk at most 1048576.
-/
import Derived.Test.YtchfiiiippnigaaRows
import Derived.Test.YtchfiiiippnigaaTnEv
import Derived.Test.YtchfiiiippnigaaRowEnd
import Derived.Test.YtchfiiiippnigaaArgs
import Derived.JoinedCond
import Derived.Test.YtchfiiiippnigaaTnArgs
namespace Go.Proofs.Ytchfiiiippnigaa.TnEv
open Go.ChangeShapes Go.WideShapes Go.ChangeAt Go.RowKit

theorem own : ownKnob Try.prog.godebug = none := by kernel_rfl

theorem bulk_all {H : Type} (l : List (DataW H)) : l.length ≤ Rows.uptoBulkAll l := by
  induction l with
  | nil => simp [Rows.uptoBulkAll]
  | cons x r ih =>
    have : 1 ≤ Rows.uptoBulk x := by
      cases x with
      | lit l => cases l <;> simp [Rows.uptoBulk]
      | _ => simp [Rows.uptoBulk]
    simp only [Rows.uptoBulkAll, List.length_cons]; omega
theorem bulk_slice {H : Type} {k : IntKind} {zs : List Int} {d : DataW H} (h : (d = .nil ∧ zs = []) ∨ ∃ r, d = .slice (lits k zs) r) : zs.length ≤ Rows.uptoBulk d := by
  rcases h with ⟨_, rfl⟩ | ⟨r, rfl⟩
  · simp
  · have := bulk_all (lits (H := H) k zs)
    rw [show (lits (H := H) k zs).length = zs.length by simp [lits]] at this
    simp only [Rows.uptoBulk]; omega

theorem bulk_tb {H : Type} {d : DataW H} {l : List Nat} (h : TbRead d l) : l.length ≤ Rows.uptoBulk d := by
  rcases h with rfl | ⟨zs, r, rfl, hl⟩
  · simp
  · have := bulk_all zs
    simp only [Rows.uptoBulk]; omega
theorem bulk_tn {H : Type} {d : DataW H} {x : Tn} (h : TnRead d x) : 1 + x.out.length + x.inn.length ≤ Rows.uptoBulk d := by
  obtain ⟨y, z, rfl, h1, h2⟩ := h
  have e1 := bulk_tb h1
  have e2 := bulk_tb h2
  simp only [Rows.uptoBulk, Rows.uptoBulkAll]
  omega
theorem bulk_tns {H : Type} : ∀ (t : List Tn) (ds : List (DataW H)), t.length = ds.length → (∀ (i : Nat) (x : Tn) (d : DataW H), t[i]? = some x → ds[i]? = some d → TnRead d x) → t.length + (outs t).length + (inns t).length ≤ Rows.uptoBulkAll ds
  | [], _, _, _ => by simp [outs, inns]
  | x :: t, [], h, _ => by cases h
  | x :: t, d :: ds, h, hr => by
    have h1 := bulk_tns t ds (by simpa using h) (fun i y e hy he => hr (i + 1) y e (by simpa using hy) (by simpa using he))
    have h2 := bulk_tn (hr 0 x d rfl rfl)
    have e1 : outs (x :: t) = x.out ++ outs t := by simp [outs]
    have e2 : inns (x :: t) = x.inn ++ inns t := by simp [inns]
    rw [e1, e2, List.length_append, List.length_append, List.length_cons]
    simp only [Rows.uptoBulkAll]
    omega
theorem bulk_turns {H : Type} {d : DataW H} {t : List Tn} (h : TnsRead d t) : t.length + (outs t).length + (inns t).length ≤ Rows.uptoBulk d := by
  rcases h with ⟨rfl, rfl⟩ | ⟨D, r, rfl, h⟩
  · simp [outs, inns]
  · have h1 := bulk_tns t ((List.range t.length).map D) (by simp) (fun i x d hx hd => by
      have hi := (List.getElem?_eq_some_iff.1 hx).1
      rw [List.getElem?_map, List.getElem?_range hi] at hd
      simp at hd
      rw [← hd]
      have := h i hi
      rw [List.getElem?_eq_getElem hi] at hx
      injection hx with hx
      rwa [hx] at this)
    simp only [Rows.uptoBulk]
    omega

set_option maxRecDepth 100000 in
theorem lifted (os : Os) (started : os.Started) (H : Type) (enc : TypeId × Value → H) (F : Stop.Interp) :
    ReturnsInHanded {} Try.checked os 4 .any ((Rows.OpenSpec.upto Rows.turnEventsSpec).pre6 enc Try.prog Try.f4 Rows.turnEventsUptoRow.domain false) (((Rows.OpenSpec.upto Rows.turnEventsSpec).at F).post enc Try.prog Try.f4 false true false false) := by
  refine returnsInHanded_of_cond (C := Try.checked) (s := Rows.OpenSpec.upto Rows.turnEventsSpec) (k := Rows.uptoSmall) rfl own started (by kernel_rfl) Try.func4
    (OpenSpec.witness (enc := enc) (C := Try.checked) (s := Rows.OpenSpec.upto Rows.turnEventsSpec) (k := Rows.uptoSmall) rfl false ⟨#[], #[.slice none 0 0, .int .i64 0], []⟩ 8 (by kernel_rfl) (by kernel_rfl) (by kernel_rfl)
      (x := ([.nil, .lit (.int .i64 0)], [], [])) (by kernel_rfl) rfl (by kernel_rfl)) ?_
  intro W base args ds gs before hval0 hW _ hk _
  have hval : ∀ (j : Nat) t v, Try.f4.params[j]? = some t → args[j]? = some v → Value.okWide Try.prog W .any base t v := hval0
  have hW' := hW
  obtain ⟨p, q, hA0, hV, rfl, hfz, hnd⟩ := hW
  have hA : DataW.TrodAll enc Try.prog W 0 (fun _ => true) true Try.f4.params.toList args.toList ds p := hA0
  have hAk := hA
  rw [Try.params4] at hA hval
  obtain ⟨v0, vs0, d0, ds0, p0, q0, hargs, rfl, rfl, h0, r0⟩ := trodAll_cons hA
  obtain ⟨v1, vs1, d1, ds1, p1, q1, rfl, rfl, rfl, h1, r1⟩ := trodAll_cons r0
  obtain ⟨rfl, rfl, rfl⟩ := trodAll_nil r1
  obtain rfl : args = #[v0, v1] := by cases args; simp_all
  obtain ⟨rfl, rfl⟩ := trodVars_none hV
  have hbk : Rows.uptoBulkAll _ ≤ 1048576 := of_decide_eq_true hk
  simp only [List.append_nil, Rows.uptoBulkAll] at hbk
  obtain ⟨A0, n0, c0, rfl⟩ := okWide_slice Try.underlying24 (hval 0 24 v0 rfl rfl)
  obtain ⟨fuel0, hf0⟩ := h0
  obtain ⟨l0, hr0, q0, hd0⟩ := tns_of_trod hf0
  have s0 : l0.length + (outs l0).length + (inns l0).length ≤ 1048576 := by have := bulk_turns hd0; dsimp only at this; omega
  obtain ⟨a1, rfl, rfl, rfl, w1⟩ := open_int Try.underlying3 (hval 1 3 v1 rfl rfl) h1
  have b1 := wf_i64 w1
  clear hA0 hval0
  have hlt := fun x hx => hW'.lt x hx
  simp only [List.append_nil] at hW' hlt hAk
  refine (events_true _ l0 a1 W hr0 q0 s0 b1).mono fun e W' ⟨he, hg⟩ => ?_
  subst he
  exact ⟨_, rfl, post_of_below (pa := _) (pv := []) hW' (fun _ _ _ => (trodAll_cons_mk (shut_bool Try.underlying4 _) trodAll_mk0)) (fun sp hsp => trodAll_below (by kernel_rfl) hg sp (by decide +kernel) hAk hlt hsp) (fun _ _ => rfl) (by simp)
    hg (ok_one (by kernel_rfl) rfl (okWide_bool_mk Try.underlying4 _))⟩

theorem over : Rows.turnEventsUptoRow.holds Try.pinned (Rows.OpenSpec.upto Rows.turnEventsSpec) :=
  OpenClaim.holds_of_cond 4 Try.f4 rfl rfl rfl rfl rfl rfl rfl ⟨rfl, rfl, rfl, rfl, rfl⟩ rfl rfl rfl rfl rfl (by kernel_rfl) Try.func4 (by kernel_rfl)
    (of_decide_eq_true (by kernel_rfl)) (by unfold Func.isWrapper; first | (rw [if_pos (by decide +kernel)]; kernel_rfl) | (rw [if_neg (by decide +kernel)]; exact ⟨rfl, rfl⟩))
    (fun os started H enc _ F => lifted os started H enc F)
end Go.Proofs.Ytchfiiiippnigaa.TnEv

namespace Go.Proofs.Ytchfiiiippnigaa
theorem events_hold : Rows.TurnEventsUptoSaid := TnEv.over
end Go.Proofs.Ytchfiiiippnigaa
