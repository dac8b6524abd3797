/-
  The statement on cuecardlaw15.MatchBehind: for all bytes ahead and behind, every number and every list of branches, of a bulk of at most 1048576, the call returns true, and nothing that lay has turned.
  Conditions: the package's table begins as its initialiser lays it (the card ties that to the program's text).
-/
import Derived.Test.YtcipljpalohjiaaDoorRows
import Derived.Test.YtcipljpalohjiaaDoorMtBh
import Derived.Test.YtcipljpalohjiaaDoorRowEnd
import Derived.Test.YtcipljpalohjiaaDoorMtH
import Derived.Test.YtcipljpalohjiaaDoorCards
import Derived.Test.YtcipljpalohjiaaDoorTie
import Derived.Deep.DeepHandedRow
import Derived.Lib.LaidTab
import Derived.JoinedCond
import Derived.Test.YtcipljpalohjiaaDoorMtG
namespace Go.Proofs.YtcipljpalohjiaaDoor.MtBh
open Go.ChangeShapes Go.WideShapes Go.ChangeAt Go.RowKit

theorem own : ownKnob Tryd.prog.godebug = none := by kernel_rfl

theorem cellsR : Tryd.prog.cellsOf 22 = 1 := by kernel_rfl
theorem list2 (l : List Value) (h : l.length = 2) : ∃ a b, l = [a, b] :=
  match l, h with
  | [a, b], _ => ⟨a, b, rfl⟩
theorem bulk_mem {H : Type} : ∀ (l : List (DataW H)) (x : DataW H), x ∈ l → Rows.uptoBulk x ≤ Rows.uptoBulkAll l := by
  intro l
  induction l with
  | nil => intro x hx; cases hx
  | cons y l ih =>
    intro x hx
    simp only [Rows.uptoBulkAll]
    rcases List.mem_cons.1 hx with rfl | hx
    · omega
    · have := ih x hx; omega

theorem bulk_all {H : Type} (l : List (DataW H)) : l.length ≤ Rows.uptoBulkAll l := by
  induction l with
  | nil => simp [Rows.uptoBulkAll]
  | cons x r ih =>
    have : 1 ≤ Rows.uptoBulk x := by
      cases x with
      | lit l => cases l <;> simp [Rows.uptoBulk]
      | _ => simp [Rows.uptoBulk]
    simp only [Rows.uptoBulkAll, List.length_cons]; omega
theorem bulk_slice {H : Type} {k : IntKind} {zs : List Int} {d : DataW H} (h : (d = .nil ∧ zs = []) ∨ ∃ r, d = .slice (lits k zs) r) : zs.length ≤ Rows.uptoBulk d := by
  rcases h with ⟨_, rfl⟩ | ⟨r, rfl⟩
  · simp
  · have := bulk_all (lits (H := H) k zs)
    rw [show (lits (H := H) k zs).length = zs.length by simp [lits]] at this
    simp only [Rows.uptoBulk]; omega

theorem gTab : Tryd.prog.globalNamed "math/bits.deBruijn64tab" = some 0 := by kernel_rfl
theorem gTabType : (Tryd.prog.globals[0]?).map (·.type) = some 115 := by kernel_rfl
theorem cellsT : Tryd.prog.cellsOf 115 = 64 := by kernel_rfl
theorem cellsE : Tryd.prog.cellsOf 5 = 1 := by kernel_rfl

/-- What the row's list gives: the table's cells. -/
theorem table {W : World} (h : laidMetH Tryd.prog Rows.matchBehindUptoRow.laid W) : Lib.TabIs Tryd.prog W "math/bits.deBruijn64tab" .u8 [0, 1, 56, 2, 57, 49, 28, 3, 61, 58, 42, 50, 38, 29, 17, 4, 62, 47, 59, 36, 45, 43, 51, 22, 53, 39, 33, 30, 24, 18, 12, 5, 63, 55, 48, 27, 60, 41, 37, 16, 46, 35, 44, 21, 52, 32, 23, 11, 54, 26, 40, 15, 34, 20, 31, 10, 25, 14, 19, 9, 13, 8, 7, 6] :=
  Lib.tabIs_of_head (rest := []) gTab gTabType Tryd.underlying115 Tryd.underlying5 cellsE cellsT h
theorem tab_at : ∀ j, j < 64 → ([0, 1, 56, 2, 57, 49, 28, 3, 61, 58, 42, 50, 38, 29, 17, 4, 62, 47, 59, 36, 45, 43, 51, 22, 53, 39, 33, 30, 24, 18, 12, 5, 63, 55, 48, 27, 60, 41, 37, 16, 46, 35, 44, 21, 52, 32, 23, 11, 54, 26, 40, 15, 34, 20, 31, 10, 25, 14, 19, 9, 13, 8, 7, 6] : List Int).getD j 0 = ((Lib.deBruijn64tab.getD j 0 : Nat) : Int) := by decide +kernel
theorem oth {W : World} (h : laidMetH Tryd.prog Rows.matchBehindUptoRow.laid W) : Tz W := ⟨World.block_lt_of_cell? W _ ((table h).cell gTab 0 (by decide)), fun j hj => by
    have := (table h).cell gTab j (by simpa using hj)
    rw [this]
    exact congrArg (fun z => some (Value.int .u8 z)) (tab_at j hj)⟩

/-- A world for the witness: the table holds what its initialiser lays. -/
noncomputable def laidWorld (os : Os) : World :=
  { World.holding Tryd.prog os ⟨#[], #[], []⟩ with heap := (World.holding Tryd.prog os ⟨#[], #[], []⟩).heap.modify 0 fun
      | .cells _ t frozen => .cells #[.int .u8 0, .int .u8 1, .int .u8 56, .int .u8 2, .int .u8 57, .int .u8 49, .int .u8 28, .int .u8 3, .int .u8 61, .int .u8 58, .int .u8 42, .int .u8 50, .int .u8 38, .int .u8 29, .int .u8 17, .int .u8 4, .int .u8 62, .int .u8 47, .int .u8 59, .int .u8 36, .int .u8 45, .int .u8 43, .int .u8 51, .int .u8 22, .int .u8 53, .int .u8 39, .int .u8 33, .int .u8 30, .int .u8 24, .int .u8 18, .int .u8 12, .int .u8 5, .int .u8 63, .int .u8 55, .int .u8 48, .int .u8 27, .int .u8 60, .int .u8 41, .int .u8 37, .int .u8 16, .int .u8 46, .int .u8 35, .int .u8 44, .int .u8 21, .int .u8 52, .int .u8 32, .int .u8 23, .int .u8 11, .int .u8 54, .int .u8 26, .int .u8 40, .int .u8 15, .int .u8 34, .int .u8 20, .int .u8 31, .int .u8 10, .int .u8 25, .int .u8 14, .int .u8 19, .int .u8 9, .int .u8 13, .int .u8 8, .int .u8 7, .int .u8 6] t frozen
      | o => o }
theorem laid_met (os : Os) : laidMet Tryd.prog Rows.matchBehindUptoRow.laid ((laidWorld os).forCall (fun _ _ => 0) ⟨#[], #[.agg #[.slice none 0 0, .slice none 0 0], .int .i64 0, .slice none 0 0], []⟩).memory :=
  laidMet_of_run' 8 (by kernel_rfl) (by kernel_rfl)
theorem reads (os : Os) {H : Type} (enc : TypeId × Value → H) : ∃ places, DataW.whole enc Tryd.prog ((laidWorld os).forCall (fun _ _ => 0) ⟨#[], #[.agg #[.slice none 0 0, .slice none 0 0], .int .i64 0, .slice none 0 0], []⟩).memory Tryd.f8.params.toList Rows.matchBehindSpec.vars false #[.agg #[.slice none 0 0, .slice none 0 0], .int .i64 0, .slice none 0 0].toList 8 = some ([.agg [.nil, .nil], .lit (.int .i64 0), .nil], [], places) :=
  ⟨[], by kernel_rfl⟩

set_option maxRecDepth 100000 in
theorem lifted (os : Os) (started : os.Started) (H : Type) (enc : TypeId × Value → H) (F : Stop.Interp) :
    ReturnsInHanded {} Tryd.checked os 8 .any ((Rows.OpenSpec.upto Rows.matchBehindSpec).preRow enc Tryd.prog Tryd.f8 Rows.matchBehindUptoRow.domain false Rows.matchBehindUptoRow.laid) (((Rows.OpenSpec.upto Rows.matchBehindSpec).at F).post enc Tryd.prog Tryd.f8 false true false false) := by
  obtain ⟨places, hx⟩ := reads os enc
  refine returnsInHanded_of_row (C := Tryd.checked) (s := Rows.OpenSpec.upto Rows.matchBehindSpec) own started (by kernel_rfl) Tryd.func8
    (witness_row_at (enc := enc) (C := Tryd.checked) false (laidWorld os) #[.agg #[.slice none 0 0, .slice none 0 0], .int .i64 0, .slice none 0 0] rfl (by kernel_rfl) (by kernel_rfl) (by kernel_rfl)
      (OpenSpec.preRow_of_cond 8 hx (by kernel_rfl) (fun k hk => by cases hk; kernel_rfl) (by kernel_rfl) (laid_met os))) ?_
  intro W base args ds gs before hval0 hW _ hk0 _ hL _ _
  have hk := hk0 _ rfl
  haveI hO : TzW W := ⟨oth hL⟩
  have hval : ∀ (j : Nat) t v, Tryd.f8.params[j]? = some t → args[j]? = some v → Value.okWide Tryd.prog W .any base t v := hval0
  have hW' := hW
  obtain ⟨p, q, hA0, hV, rfl, hfz, hnd⟩ := hW
  have hA : DataW.TrodAll enc Tryd.prog W 0 (fun _ => true) true Tryd.f8.params.toList args.toList ds p := hA0
  have hAk := hA
  rw [Tryd.params8] at hA hval
  obtain ⟨v0, vs0, d0, ds0, p0, q0, hargs, rfl, rfl, h0, r0⟩ := trodAll_cons hA
  obtain ⟨v1, vs1, d1, ds1, p1, q1, rfl, rfl, rfl, h1, r1⟩ := trodAll_cons r0
  obtain ⟨v2, vs2, d2, ds2, p2, q2, rfl, rfl, rfl, h2, r2⟩ := trodAll_cons r1
  obtain ⟨rfl, rfl, rfl⟩ := trodAll_nil r2
  obtain rfl : args = #[v0, v1, v2] := by cases args; simp_all
  obtain ⟨rfl, rfl⟩ := trodVars_none hV
  have hbk : Rows.uptoBulkAll _ ≤ 1048576 := of_decide_eq_true hk
  simp only [List.append_nil, Rows.uptoBulkAll] at hbk
  obtain ⟨⟨cs0⟩, rfl, hcz0, _⟩ : ∃ cs, v0 = .agg cs ∧ cs.size = Tryd.prog.cellsOf 49 ∧ Row.okWide Tryd.prog W .any base 49 cs := by
    have := hval 0 49 v0 rfl rfl
    simpa [Value.okWide, Tryd.underlying49] using this
  obtain ⟨u0a, u0b, rfl⟩ := list2 cs0 (hcz0.trans (show Tryd.prog.cellsOf 49 = 2 by kernel_rfl))
  obtain ⟨fuel0, hf0⟩ := h0
  obtain ⟨ys0, f0, -, hx0, -, hyl0, hi0⟩ := DataW.trod_array Tryd.underlying49 hf0
  have hdd0 := (Prod.mk.inj hx0).1
  have g0a := hi0 0 (by omega)
  rw [cellsR, List.getElem?_eq_getElem (by omega)] at g0a
  change DataW.trod enc Tryd.prog W 0 (fun _ => true) true f0 22 [u0a] = some _ at g0a
  obtain ⟨A0a, n0a, c0a, zs0a, rfl, en0a, m0a, hr0a, hw0a, hd0a⟩ := nums_of_trod Tryd.underlying22 Tryd.underlying5 (by kernel_rfl) g0a
  rw [nums_nat .u8 (fun z hz => (wf_u8 (hw0a z hz)).1)] at hr0a
  have q0a : ∀ b ∈ zs0a.map Int.toNat, b < 256 := fun b hb => by obtain ⟨z, hz, rfl⟩ := List.mem_map.1 hb; have := wf_u8 (hw0a z hz); omega
  have s0a : n0a ≤ 1048576 := by
    have h1 := bulk_slice hd0a
    have h2 := bulk_mem (ys0.map (·.1)) (ys0[0]'(by omega)).1 (List.mem_map.2 ⟨_, List.getElem_mem _, rfl⟩)
    have h3 : Rows.uptoBulk d0 = Rows.uptoBulkAll (ys0.map (·.1)) + 1 := by rw [hdd0]; rfl
    omega
  generalize zs0a.map Int.toNat = l0a at *
  have g0b := hi0 1 (by omega)
  rw [cellsR, List.getElem?_eq_getElem (by omega)] at g0b
  change DataW.trod enc Tryd.prog W 0 (fun _ => true) true f0 22 [u0b] = some _ at g0b
  obtain ⟨A0b, n0b, c0b, zs0b, rfl, en0b, m0b, hr0b, hw0b, hd0b⟩ := nums_of_trod Tryd.underlying22 Tryd.underlying5 (by kernel_rfl) g0b
  rw [nums_nat .u8 (fun z hz => (wf_u8 (hw0b z hz)).1)] at hr0b
  have q0b : ∀ b ∈ zs0b.map Int.toNat, b < 256 := fun b hb => by obtain ⟨z, hz, rfl⟩ := List.mem_map.1 hb; have := wf_u8 (hw0b z hz); omega
  have s0b : n0b ≤ 1048576 := by
    have h1 := bulk_slice hd0b
    have h2 := bulk_mem (ys0.map (·.1)) (ys0[1]'(by omega)).1 (List.mem_map.2 ⟨_, List.getElem_mem _, rfl⟩)
    have h3 : Rows.uptoBulk d0 = Rows.uptoBulkAll (ys0.map (·.1)) + 1 := by rw [hdd0]; rfl
    omega
  generalize zs0b.map Int.toNat = l0b at *
  obtain ⟨a1, rfl, rfl, rfl, w1⟩ := open_int Tryd.underlying3 (hval 1 3 v1 rfl rfl) h1
  have b1 := wf_i64 w1
  obtain ⟨A2, n2, c2, rfl⟩ := okWide_slice Tryd.underlying23 (hval 2 23 v2 rfl rfl)
  obtain ⟨fuel2, hf2⟩ := h2
  obtain ⟨l2, hr2, q2, -, m2⟩ := brs_of_trod hf2
  clear hA0 hval0
  have hlt := fun x hx => hW'.lt x hx
  simp only [List.append_nil] at hW' hlt hAk
  refine (behind_true A0a n0a c0a l0a A0b n0b c0b l0b a1 _ l2 W hr0a hr0b q0a q0b s0a s0b b1.2 hr2 q2 m2).mono fun e W' ⟨he, hg⟩ => ?_
  subst he
  exact ⟨_, rfl, post_of_below (pa := _) (pv := []) hW' (fun _ _ _ => (trodAll_cons_mk (shut_bool Tryd.underlying4 _) trodAll_mk0)) (fun sp hsp => trodAll_below (by kernel_rfl) hg sp (by decide +kernel) hAk hlt hsp) (fun _ _ => rfl) (by simp)
    hg (Go.RowKit.ok_one (by kernel_rfl) rfl (okWide_bool_mk Tryd.underlying4 _))⟩

theorem over : Rows.MatchBehindUptoSaid :=
  OpenClaim.holds_of_cond 8 Tryd.f8 rfl rfl rfl rfl rfl rfl rfl ⟨rfl, rfl, rfl, rfl, rfl⟩ rfl rfl rfl rfl rfl (by kernel_rfl) Tryd.func8 (by kernel_rfl)
    (of_decide_eq_true (by kernel_rfl)) (by unfold Func.isWrapper; first | (rw [if_pos (by decide +kernel)]; kernel_rfl) | (rw [if_neg (by decide +kernel)]; exact ⟨rfl, rfl⟩))
    (fun os started H enc _ F => by rw [OpenClaim.pre_eq_preRow]; exact lifted os started H enc F)

/-- No parameter wants a stand-in; the program's own looks are off: what the card asks. -/
theorem plain (f : FuncId) (fn : Func) (hf : Tryd.pinned.checked.prog.funcNamed "cuecard/cuecardlaw15.MatchBehind" = some f) (hfn : Tryd.pinned.checked.prog.funcs[f]? = some fn) :
    false = Tryd.pinned.checked.prog.looks [] ∧ ∀ (j : Nat) t, fn.params[j]? = some t → Tryd.pinned.checked.prog.wantsStandIn t = false := by
  obtain rfl : f = 8 := Option.some.inj ((show Tryd.prog.funcNamed "cuecard/cuecardlaw15.MatchBehind" = some 8 by kernel_rfl).symm.trans hf) |>.symm
  obtain rfl : fn = Tryd.f8 := (Option.some.inj (Tryd.func8.symm.trans hfn)).symm
  refine ⟨by kernel_rfl, fun j t ht => ?_⟩
  rw [Tryd.params8] at ht
  have hm := Array.mem_of_getElem? ht
  simp only [List.mem_toArray, List.mem_cons, List.not_mem_nil, or_false] at hm
  rcases hm with rfl | rfl | rfl
  · exact (show Tryd.prog.wantsStandIn 49 = false by kernel_rfl)
  · exact (show Tryd.prog.wantsStandIn 3 = false by kernel_rfl)
  · exact (show Tryd.prog.wantsStandIn 23 = false by kernel_rfl)

theorem card : Rows.MatchBehindUptoCardSaid :=
  Claim7.holds_tied_plain_at .later [] _ _ _ _ over (fun _ h => by cases h) (by kernel_rfl) (fun _ h => by cases h) matchBehindUpto_row_tie rfl ⟨rfl, rfl⟩ (by kernel_rfl) rfl plain (by kernel_rfl)
end Go.Proofs.YtcipljpalohjiaaDoor.MtBh

namespace Go.Proofs.YtcipljpalohjiaaDoor
theorem behind_holds : Rows.MatchBehindUptoCardSaid := MtBh.card
end Go.Proofs.YtcipljpalohjiaaDoor
