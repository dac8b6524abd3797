/-
  env's Names, and the law's names.
  Conditions: at most 256 variables.
-/
import Derived.Test.YteapcahpkapbbaaEnKy
import Derived.Test.YteapcahpkapbbaaRowEnd
namespace Go.Proofs.Yteapcahpkapbbaa
open Go.RowKit Go.Shelf Go.Maps

attribute [local go_sem] Oper.semAt_some

set_option maxRecDepth 100000 in
set_option maxHeartbeats 1000000 in
theorem maps_Keys_is (mb : Option Nat) (w : World) : Calls Try.prog 38 #[.map mb] w fun e w' => e = .returned (.func (.func 44) #[] #[.pointer (some ⟨w.heap.size, 0, none⟩)]) ∧ w' = w.alloc (.cells #[.map mb] 54) := by
  go_enter Try.func38, Try.ntmps38
  go_wp2
  go_ret
  exact ⟨rfl, rfl⟩
set_option maxRecDepth 100000 in
set_option maxHeartbeats 1000000 in
theorem slices_Values_is (A : Option Addr) (n c : Nat) (w : World) : Calls Try.prog 40 #[.slice A n c] w fun e w' => e = .returned (.func (.func 47) #[] #[.pointer (some ⟨w.heap.size, 0, none⟩)]) ∧ w' = w.alloc (.cells #[.slice A n c] 45) := by
  go_enter Try.func40, Try.ntmps40
  go_wp2
  go_ret
  exact ⟨rfl, rfl⟩

/-- Between two rounds of a loop that gathers texts in a box made first. -/
def GatI (w : World) (g : Option Nat) (pre : List (List Nat)) (W : World) : Prop :=
  ∃ v go, Blk W w.heap.size 45 #[v] ∧ Row W 9 go v (sv pre) ∧ (∀ b, go = some b → w.heap.size ≤ b ∧ g ≠ some b) ∧ Below w.heap.size w W ∧ ∀ b, g = some b → b < W.heap.size
theorem GatI.own (w : World) (g : Option Nat) (B : Nat) (hB : w.heap.size ≤ B) : OwnFrom B (GatI w g) := by
  rintro s W W' row ⟨v, go, hb, hr, hgo, hbel, hlt⟩ hg hrow
  have hcell : ∀ (k : Nat) (cs : Array Value) (t : TypeId), W.heap[k]? = some (.cells cs t (0, 0)) → some k ≠ row := by
    intro k cs t hk e
    obtain ⟨_, o, ho, hc⟩ := hrow k e.symm
    rw [hk] at ho
    cases ho
    cases hc
  refine ⟨v, go, hb.keep (hg.block _ hb.lt (hcell _ _ _ hb)), hr.keep (fun b e => hg.block b (hr.lt e) ?_), hgo, hbel.grown hg hbel.size (fun k e => by have := (hrow k e).1; omega), fun b e => Nat.lt_of_lt_of_le (hlt b e) hg.size⟩
  obtain ⟨_, _, _, _, _, _, hh⟩ := hr
  rcases hh with ⟨_, e'⟩ | ⟨b', _, cs, _, e', _, hh, _⟩
  · rw [e'] at e; cases e
  · rw [e'] at e; cases e
    exact hcell _ _ _ hh
theorem GatI.step {w W w1 : World} {g go go' : Option Nat} {pre : List (List Nat)} {x : List Nat} {v V : Value} {tmp : Obj} (hb : Blk W w.heap.size 45 #[v]) (hr : Row W 9 go v (sv pre))
    (hgo : ∀ b, go = some b → w.heap.size ≤ b ∧ g ≠ some b) (hbel : Below w.heap.size w W) (hlt : ∀ b, g = some b → b < W.heap.size) (hgb : ∀ b, g = some b → w.heap.size < b)
    (hrow' : Row w1 9 go' V (sv pre ++ [.string (str x)])) (hgr : (W.alloc tmp).grownBy w1 go) (hg' : go' = go ∨ go' = some (W.alloc tmp).heap.size) :
    KeepsOthers W (w1.setCell ⟨w.heap.size, 0, none⟩ V) ∧ Kpt g W (w1.setCell ⟨w.heap.size, 0, none⟩ V) ∧ GatI w g (pre ++ [x]) (w1.setCell ⟨w.heap.size, 0, none⟩ V) := by
  have hne : go ≠ some w.heap.size := hr.ne_ hb (by decide)
  have hb1 : Blk w1 w.heap.size 45 #[v] := (hb.alloc tmp).keep (hgr.block _ (hb.alloc tmp).lt (Ne.symm hne))
  have hne' : go' ≠ some w.heap.size := hrow'.ne_ hb1 (by decide)
  have hkg : ∀ b, g = some b → w1.heap[b]? = W.heap[b]? := fun b e =>
    (hgr.block b (by have := hlt b e; simp; omega) (fun e' => by have := (hgo b e'.symm).2; exact this e)).trans (Below.heap_alloc W tmp b (hlt b e))
  refine ⟨?_, ?_, V, go', ?_, ?_, ?_, ?_, ?_⟩
  · refine ((KeepsOthers.alloc W tmp).trans (KeepsOthers.of_grownBy hgr fun j o ej hj => ?_)).trans (KeepsOthers.setCell _ _ _)
    obtain ⟨_, _, _, _, _, _, hh⟩ := hr.alloc tmp
    rcases hh with ⟨_, e'⟩ | ⟨b', _, cs, _, e', _, hh, _⟩
    · rw [e'] at ej; cases ej
    · rw [e'] at ej; cases ej
      rw [hh] at hj; cases hj; rfl
  · exact fun b e => (Below.heap_setCell w1 _ V b (by have := hgb b e; simp; omega)).trans (hkg b e)
  · have := hb1.set_ 0 V; simpa using this
  · rw [sv_append]; exact hrow'.far (p := ⟨w.heap.size, 0, none⟩) hne' V
  · intro b e
    rcases hg' with e' | e'
    · exact hgo b (by rw [← e', e])
    · rw [e] at e'
      have e2 : b = W.heap.size + 1 := by simpa using e'
      have := hbel.size
      exact ⟨by omega, fun e3 => by have := hlt b e3; omega⟩
  · exact ((hbel.alloc hbel.size tmp).grown hgr (by have := hbel.size; simp; omega) (fun k e => (hgo k e).1)).setCell (p := ⟨w.heap.size, 0, none⟩) (Nat.le_refl _) V
  · intro b e
    have := hlt b e
    have := hgr.size
    simp [World.setCell] at this ⊢
    omega

/-- What Names hands out: a function that tells xs, out of a row of its own. -/
def NamesTo (w : World) (xs : List (List Nat)) (e : Ending) (w' : World) : Prop :=
  ∃ Bs v g, e = .returned (.func (.func 47) #[] #[.pointer (some ⟨Bs, 0, none⟩)]) ∧ Blk w' Bs 45 #[v] ∧ Row w' 9 g v (sv xs) ∧ Below w.heap.size w w' ∧ w.heap.size ≤ Bs ∧ ∀ b, g = some b → w.heap.size ≤ b

set_option maxRecDepth 100000 in
set_option maxHeartbeats 4000000 in
theorem Names_of (p : Value) (mb : Option Nat) (M : List (List Nat)) (hM : M.length ≤ 256) (hMb : ∀ x ∈ M, ∀ c ∈ x, c < 256) (hMn : M.Nodup) (w : World)
    (hv : Calls Try.prog 27 #[p] (w.alloc (.cells #[.slice none 0 0] 45)) fun e w' => e = .returned (.map mb) ∧ w.alloc (.cells #[.slice none 0 0] 45) = w')
    (hst : ∀ (Bm : Nat) (w2 : World), Below w.heap.size w w2 → Blk w2 Bm 54 #[.map mb] → SeqStopsK Fence.wide 2 Try.prog 44 #[.pointer (some ⟨Bm, 0, none⟩)] (fun x : List Nat => #[Value.string (str x)]) KeepsWalks (fun ys => ys.Perm M) (fun pre => pre.Nodup) M.length w2) :
    Calls Try.prog 32 #[p] w (NamesTo w (sortN M)) := by
  refine (callsIn_wide (n := 3)).1 ?_
  obtain ⟨i0, hi0, hz0, hz1, hz2⟩ := info_parts str_info
  have HV := Lib.hid ((callsIn_wide (n := 2)).2 hv)
  have HK := Lib.hid ((callsIn_wide (n := 2)).2 (maps_Keys_is mb (w.alloc (.cells #[.slice none 0 0] 45))))
  have HST := Lib.hid hst
  have HM := Lib.hid (And.intro hM (And.intro hMb hMn))
  clear hv hst hMb hMn
  have hob : Blk ((w.alloc (.cells #[.slice none 0 0] 45)).alloc (.cells #[.map mb] 54)) w.heap.size 45 #[.slice none 0 0] := (Blk.new w _ _).alloc _
  have hmb := Blk.new (w.alloc (.cells #[.slice none 0 0] 45)) 54 #[.map mb]
  have hbw : Below w.heap.size w ((w.alloc (.cells #[.slice none 0 0] 45)).alloc (.cells #[.map mb] 54)) := ((Below.refl _ w).alloc (Nat.le_refl _) _).alloc (by simp) _
  refine callsIn_of_wp_marks Try.func32 rfl trivial ?_ rfl
  simp only [Try.ntmps32, List.size_toArray, List.length_cons, List.length_nil, Nat.reduceAdd, Nat.reduceSub, Array.replicate_succ, Array.replicate_zero, List.push_toArray, List.append_toArray, List.nil_append, List.cons_append]
  gi_wp2_with fail
  refine ⟨trivial, ?_⟩
  refine HV.out.mono ?_
  rintro e w1 ⟨rfl, rfl⟩
  gi_wp2_with fail
  refine ⟨trivial, ?_⟩
  refine HK.out.mono ?_
  rintro e w2 ⟨rfl, rfl⟩
  generalize hBm : (w.alloc (.cells #[.slice none 0 0] 45)).heap.size = Bm at *
  generalize World.alloc (World.alloc w _) _ = w2 at *
  have X := Lib.hid (And.intro hbw (And.intro hob hmb))
  clear hbw hob hmb HV HK
  gi_wp2_with fail
  refine wpIn_rangeFunc_ownG rfl (by omega) (gf := 44) (lb := #[.pointer (some ⟨Bm, 0, none⟩)]) rfl trivial (enters_of Try.func44 (by kernel_rfl) rfl)
    (HST.out Bm w2 X.out.1 X.out.2.2) (fun h k => KeepsWalks.trans h k) (fun W l o o' _ h1 _ h3 => KeepsWalks.putObj o' h1 h3) (Below.refl _ _) (fun _ => rfl)
    (GatI w none) (fun _ _ _ => False) (GatI.own w none _ X.out.1.size) (fun _ _ _ _ _ hs _ _ => hs)
    ⟨_, none, X.out.2.1, Row.nil w2 _, fun b e => (by cases e), X.out.1, fun b e => (by cases e)⟩
    (fun x => { tmps := #[p, undef, .nilFunc, .pointer (some ⟨w.heap.size, 0, none⟩), .string (str x), p, .map mb, .func (.func 44) #[] #[.pointer (some ⟨Bm, 0, none⟩)], .string (str x), undef, undef, undef, undef, undef, undef, undef, undef], defers := [] }) ?assign ?body ?done ?stop
  case assign =>
    intro l x W K hK
    gi_wp2
    exact hK
  case body =>
    rintro l pre x W ⟨v1, go, hb, hr, hgo, hB, hlt⟩ hpl
    obtain ⟨A1, c1, rfl⟩ := hr.form
    rw [sv_len] at hr hb
    have hc : W.cell? ⟨w.heap.size, 0, none⟩ = some (.slice A1 pre.length c1) := hb.cell 0
    have Y := Lib.hid (And.intro hb (And.intro hr (And.intro hgo (And.intro hB hlt))))
    clear hb hr hgo hB hlt
    gi_wp2_with (gi_at_builtin; refine wpListIn_append_row _ rfl _ _ 45 rfl 9 i0 _ 16 Try.underlying45 hi0 hz0 hz1 hz2 rfl go _ (sv pre) rfl (Y.out.2.1.alloc _) _ [.string (str x)] rfl (Row.new W 9 #[.string (str x)] 1 rfl (by simp only [maxLen]; omega) (by omega) (by simp [Value.oneCell'])).rd (by simp only [maxLen, sv_len]; simp; omega) (by simp [sv_len]; omega) ?_; intro A' c' w1 g' hrow' hgr hg'; have hc1 : w1.cell? ⟨w.heap.size, 0, none⟩ = some (.slice A1 pre.length c1) := ((Y.out.1.alloc _).keep (hgr.block _ (Y.out.1.alloc _).lt (Ne.symm (Y.out.2.1.ne_ Y.out.1 (by decide))))).cell 0; have hf1 : w1.frozen? ⟨w.heap.size, 0, none⟩ = false := ((Y.out.1.alloc _).keep (hgr.block _ (Y.out.1.alloc _).lt (Ne.symm (Y.out.2.1.ne_ Y.out.1 (by decide))))).frozen 0; have Z := Lib.hid (And.intro hrow' (And.intro hgr hg')); clear hrow' hgr hg')
    obtain ⟨hb, hr, hgo, hB, hlt⟩ := Y.out
    obtain ⟨hrow', hgr, hg'⟩ := Z.out
    simp only [List.length_cons, List.length_nil, Nat.zero_add] at hrow'
    obtain ⟨h1, _, h3⟩ := GatI.step hb hr hgo hB hlt (fun b e => by cases e) hrow' hgr hg'
    exact ⟨h1.from _, h1.walks, h3⟩
  case done =>
    rintro D ys W hD hys ⟨v1, go, hb, hr, hgo, hB, hlt⟩ hK
    obtain ⟨A1, c1, rfl⟩ := hr.form
    rw [sv_len] at hr hb
    have hc : W.cell? ⟨w.heap.size, 0, none⟩ = some (.slice A1 ys.length c1) := hb.cell 0
    have hyl : ys.length = M.length := hys.length_eq
    have hyb : ∀ x ∈ ys, ∀ c ∈ x, c < 256 := fun x hx => HM.out.2.1 x (hys.mem_iff.1 hx)
    have HSo := Lib.hid ((callsIn_wide (n := 2)).2 (Sort_is hr hyb (by omega)))
    have HYS : Hid (sortN ys = sortN M) := Lib.hid (sort_of_perm HM.out.2.2 hys)
    have HYL : Hid (ys.length = (sortN ys).length) := Lib.hid (sort_len ys).symm
    have hne : go ≠ some w.heap.size := hr.ne_ hb (by decide)
    have hgD : go ≠ some D := by
      intro e
      obtain ⟨_, _, _, _, _, _, hh⟩ := hr
      rcases hh with ⟨_, e2⟩ | ⟨b', _, cs, _, e2, _, hh, _⟩
      · rw [e2] at e; cases e
      · rw [e2] at e; injection e with e; subst e; rw [hh] at hK; cases hK
    have hDl := lt_of_heap hK
    have Y := Lib.hid (And.intro hb (And.intro hgo (And.intro hB (And.intro hne (And.intro hgD (And.intro hK hDl))))))
    clear hb hr hgo hB hlt hyl hyb hne hgD hK hDl hys
    gi_wp2_with fail
    refine ⟨trivial, ?_⟩
    refine HSo.out.mono ?_
    rintro e w5 ⟨rfl, hrow, hgr⟩
    obtain ⟨hb, hgo, hB, hne, hgD, hK, hDl⟩ := Y.out
    have hb5 : Blk w5 w.heap.size 45 #[.slice A1 ys.length c1] := hb.keep (hgr.block _ hb.lt (fun e => hne e.symm))
    have hc5 : w5.cell? ⟨w.heap.size, 0, none⟩ = some (.slice A1 ys.length c1) := hb5.cell 0
    have hK5 : w5.heap[D]? = some (.deferred (some [])) := (hgr.block _ hDl (fun e => hgD e.symm)).trans hK
    have hB5 : Below w.heap.size w w5 := hB.grown hgr hB.size (fun k e => (hgo k e).1)
    have HVa := Lib.hid ((callsIn_wide (n := 2)).2 (slices_Values_is A1 ys.length c1 w5))
    have Y5 := Lib.hid (And.intro hrow (And.intro hgo (And.intro hB5 (And.intro hgD hK5))))
    clear hb hgo hB hne hgD hK hDl hrow hgr hb5 hK5 hB5 HSo
    gi_wp2_with fail
    refine ⟨trivial, ?_⟩
    refine HVa.out.mono ?_
    rintro e w6 ⟨rfl, rfl⟩
    clear HVa
    gi_wp2_with fail
    refine ⟨by simp, .inl ⟨_, _, rfl, run_takeDeferred ((Below.heap_alloc _ _ _ (lt_of_heap Y5.out.2.2.2.2)).trans Y5.out.2.2.2.2), ?_⟩⟩
    obtain ⟨hrow, hgo, hB5, hgD, hK5⟩ := Y5.out
    have hsz := X.out.1.size
    have h5 := hB5.size
    have hDl := lt_of_heap hK5
    rw [HYS.out] at hrow HYL
    refine ⟨_, results_tmp rfl _ _ _, w5.heap.size, .slice A1 ys.length c1, go, rfl, ?_, ?_, ?_, h5, fun b e => (hgo b e).1⟩
    · exact (Blk.new w5 _ _).keep (World.putObj_heap_other (by omega))
    · refine (hrow.alloc _).keep (fun b e => World.putObj_heap_other (fun e' => hgD (e' ▸ e)))
    · exact (hB5.alloc h5 _).trans (belowK_b (w := w) (Nat.le_refl _) _ D _ _ (by omega) ((Below.heap_alloc _ _ _ hDl).trans hK5) rfl rfl)
  case stop =>
    rintro D c pre W _ _ h _
    exact h.elim

/-! ### The law's names -/
set_option maxRecDepth 100000 in
set_option maxHeartbeats 4000000 in
theorem names_of (p : Value) (xs : List (List Nat)) (hl : xs.length ≤ 256) (w : World) (hA : Calls Try.prog 32 #[p] (w.alloc (.cells #[.slice none 0 0] 45)) (NamesTo (w.alloc (.cells #[.slice none 0 0] 45)) xs)) :
    Calls Try.prog 19 #[p] w (StrsTo w xs) := by
  refine (callsIn_wide (n := 3)).1 ?_
  obtain ⟨i0, hi0, hz0, hz1, hz2⟩ := info_parts str_info
  have HA := Lib.hid ((callsIn_wide (n := 2)).2 hA)
  clear hA
  refine callsIn_of_wp_marks Try.func19 rfl trivial ?_ rfl
  simp only [Try.ntmps19, List.size_toArray, List.length_cons, List.length_nil, Nat.reduceAdd, Nat.reduceSub, Array.replicate_succ, Array.replicate_zero, List.push_toArray, List.append_toArray, List.nil_append, List.cons_append]
  gi_wp2_with fail
  refine ⟨trivial, ?_⟩
  refine HA.out.mono ?_
  rintro e w2 ⟨Bs, v, g, rfl, hBs, hrow, hbel, hle, hfr⟩
  have hbw : Below w.heap.size w w2 := ((Below.refl _ w).alloc (Nat.le_refl _) _).trans (hbel.mono (by simp))
  have hgb : ∀ b, g = some b → w.heap.size < b := fun b e => by have := hfr b e; simp at this; omega
  have hob : Blk w2 w.heap.size 45 #[.slice none 0 0] := (Blk.new w _ _).below hbel (by simp)
  have X := Lib.hid (And.intro hbw (And.intro hgb (And.intro hob (And.intro hrow hBs))))
  clear hbw hgb hob hrow hBs hbel hle hfr HA
  gi_wp2_with fail
  refine wpIn_rangeFunc_ownG rfl (by omega) (gf := 47) (lb := #[.pointer (some ⟨Bs, 0, none⟩)]) rfl trivial (enters_of Try.func47 (by kernel_rfl) rfl)
    (values_stops 2 (by omega) Bs g v xs (by omega) w2 X.out.2.2.2.2 X.out.2.2.2.1) Kpt.t (Kpt.b (fun b e => X.out.2.2.2.1.lt e)) (Below.refl _ _) (fun _ => rfl)
    (GatI w g) (fun _ _ _ => False) (GatI.own w g _ X.out.1.size) (fun _ _ _ _ _ hs _ _ => hs)
    ⟨_, none, X.out.2.2.1, Row.nil w2 _, fun b e => (by cases e), X.out.1, fun b e => X.out.2.2.2.1.lt e⟩
    (fun x => { tmps := #[p, undef, .slice none 0 0, .pointer (some ⟨w.heap.size, 0, none⟩), .string (str x), p, .func (.func 47) #[] #[.pointer (some ⟨Bs, 0, none⟩)], .string (str x), undef, undef, undef, undef, undef], defers := [] }) ?assign ?body ?done ?stop
  case assign =>
    intro l x W K hK
    gi_wp2
    exact hK
  case body =>
    rintro l pre x W ⟨v1, go, hb, hr, hgo, hB, hlt⟩ hpl
    have hgb := X.out.2.1
    obtain ⟨A1, c1, rfl⟩ := hr.form
    rw [sv_len] at hr hb
    have hc : W.cell? ⟨w.heap.size, 0, none⟩ = some (.slice A1 pre.length c1) := hb.cell 0
    have Y := Lib.hid (And.intro hb (And.intro hr (And.intro hgo (And.intro hB (And.intro hlt hgb)))))
    clear hb hr hgo hB hlt hgb
    gi_wp2_with (gi_at_builtin; refine wpListIn_append_row _ rfl _ _ 45 rfl 9 i0 _ 16 Try.underlying45 hi0 hz0 hz1 hz2 rfl go _ (sv pre) rfl (Y.out.2.1.alloc _) _ [.string (str x)] rfl (Row.new W 9 #[.string (str x)] 1 rfl (by simp only [maxLen]; omega) (by omega) (by simp [Value.oneCell'])).rd (by simp only [maxLen, sv_len]; simp; omega) (by simp [sv_len]; omega) ?_; intro A' c' w1 g' hrow' hgr hg'; have hc1 : w1.cell? ⟨w.heap.size, 0, none⟩ = some (.slice A1 pre.length c1) := ((Y.out.1.alloc _).keep (hgr.block _ (Y.out.1.alloc _).lt (Ne.symm (Y.out.2.1.ne_ Y.out.1 (by decide))))).cell 0; have hf1 : w1.frozen? ⟨w.heap.size, 0, none⟩ = false := ((Y.out.1.alloc _).keep (hgr.block _ (Y.out.1.alloc _).lt (Ne.symm (Y.out.2.1.ne_ Y.out.1 (by decide))))).frozen 0; have Z := Lib.hid (And.intro hrow' (And.intro hgr hg')); clear hrow' hgr hg')
    obtain ⟨hb, hr, hgo, hB, hlt, hgb⟩ := Y.out
    obtain ⟨hrow', hgr, hg'⟩ := Z.out
    simp only [List.length_cons, List.length_nil, Nat.zero_add] at hrow'
    obtain ⟨h1, h2, h3⟩ := GatI.step hb hr hgo hB hlt hgb hrow' hgr hg'
    exact ⟨h1.from _, h2, h3⟩
  case done =>
    rintro D ys W hD rfl ⟨v1, go, hb, hr, hgo, hB, hlt⟩ hK
    obtain ⟨A1, c1, rfl⟩ := hr.form
    rw [sv_len] at hr hb
    have hc : W.cell? ⟨w.heap.size, 0, none⟩ = some (.slice A1 ys.length c1) := hb.cell 0
    have Y := Lib.hid (And.intro hr (And.intro hgo hB))
    clear hb hr hgo hB hlt
    gi_wp2
    refine ⟨by simp, .inl ⟨_, _, rfl, run_takeDeferred hK, ?_⟩⟩
    obtain ⟨hr, hgo, hB⟩ := Y.out
    have hsz := X.out.1.size
    refine ⟨_, results_tmp rfl _ _ _, A1, c1, rfl, go, hr.keep (fun b e => World.putObj_heap_other (fun e' => ?_)), fun b e => (hgo b e).1, hB.trans (belowK_b (w := w) (Nat.le_refl _) W D _ _ (by omega) hK rfl rfl)⟩
    obtain ⟨_, _, _, _, _, _, hh⟩ := hr
    rcases hh with ⟨_, e2⟩ | ⟨b', _, cs, _, e2, _, hh, _⟩
    · rw [e2] at e; cases e
    · rw [e2] at e; cases e; subst e'; rw [hh] at hK; cases hK
  case stop =>
    rintro D c pre W _ _ h _
    exact h.elim

theorem names_is {b : Nat} {l : Vrs} {F : Nat → Prop} {w : World} (h : EnvT b l F w) :
    Calls Try.prog 19 #[.pointer (some ⟨b, 0, none⟩)] w (StrsTo w (namesV l)) := by
  obtain ⟨m, h⟩ := h
  have hb1 : Below w.heap.size w (w.alloc (.cells #[.slice none 0 0] 45)) := (Below.refl _ w).alloc (Nat.le_refl _) _
  have hb2 : Below w.heap.size w ((w.alloc (.cells #[.slice none 0 0] 45)).alloc (.cells #[.slice none 0 0] 45)) := hb1.alloc (by simp) _
  have h1 : EnvV b m l F ((w.alloc (.cells #[.slice none 0 0] 45)).alloc (.cells #[.slice none 0 0] 45)) :=
    ⟨h.blk.below hb2 h.blk.lt, h.map.below hb2, h.own, h.ok, h.nd⟩
  have hm1 : MapV (w.alloc (.cells #[.slice none 0 0] 45)) m l.length l := h.map.below hb1
  have hl : (l.map (·.1)).length ≤ 256 := by rw [List.length_map]; exact h.ok.1
  refine names_of _ (namesV l) (by rw [namesV, sort_len]; exact hl) w ?_
  refine Names_of _ (some m) (l.map (·.1)) hl (fun x hx => ?_) h.nd _ (variables_is h1) fun Bm w2 hw2 hBm => ?_
  · obtain ⟨p, hp, rfl⟩ := List.mem_map.1 hx
    exact (h.ok.2 p hp).1
  · have := keys_stops 2 (by omega) Bm m l.length l h.nd w2 hBm (hm1.below hw2)
    have e : (l.map (·.1)).length = l.length := List.length_map ..
    rw [← e] at this
    exact this
theorem Nnames_is (w : World) : Calls Try.prog 19 #[.pointer none] w (StrsTo w []) := by
  refine names_of _ [] (by simp) w ?_
  exact Names_of _ none [] (by simp) (by simp) List.nodup_nil _ (Nvariables_is _) fun Bm w2 _ hBm => keys_stops_nil 2 Bm w2 hBm
end Go.Proofs.Yteapcahpkapbbaa
