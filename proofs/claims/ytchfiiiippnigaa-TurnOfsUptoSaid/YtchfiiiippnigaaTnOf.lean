/-
  turn.Of: the turns, all at once.
  Conditions: events and bytes together at most 4194304.
-/
import Derived.Test.YtchfiiiippnigaaTnList
namespace Go.Proofs.Ytchfiiiippnigaa
open Go.RowKit Go.Shelf

attribute [local go_sem] Oper.semAt_some

theorem wpListIn_append_tn {F : Fence} {n : Nat} (w : World) {ops : Array Oper} {rest : List Oper} {o : Oper} {a : Act} {Q : Exit → Act → World → Prop}
    (hgd : o.guard = none) (s x : Operand) (ho : o.op = Op.call { callee := Callee.builtin Builtin.append, args := #[s, x], argTypes := #[24, 24] })
    (g : Option Nat) (v : Value) (m : Nat) (xs : List Value) (hs : a.eval s = v) (hrow : RowS w 33 2 g v m xs) (xv : Value) (ys : List Value) (hx : a.eval x = xv) (hsrc : Src Try.prog 2 24 xv 1 ys w)
    (hm : m ≤ 16777216)
    (h : ∀ A' c' w' g', RowS w' 33 2 g' (.slice A' (m + 1) c') (m + 1) (xs ++ ys) → w.grownBy w' g → (g' = g ∨ g' = some w.heap.size) → wpListIn F n Try.prog ops Q rest (a.put o.dst (.slice A' (m + 1) c')) w') :
    wpListIn F n Try.prog ops Q (o :: rest) a w := by
  obtain ⟨i0, hi0, hz0, hz1, hz2⟩ := info_parts tn_info
  refine wpListIn_plain hgd fun K hK' => ?_
  obtain ⟨v', w', g', hrun, h2, h3, h4⟩ := run_append_rowS (P := Try.prog) w 24 24 o.type 33 i0 _ 2 48 Try.underlying24 hi0 hz0 hz1 hz2 rfl hrow xv 1 ys hsrc (by simp only [maxLen]; omega) (by omega)
  obtain ⟨A', c', rfl, _⟩ := h2.form
  unfold Oper.wpIn
  refine ⟨?_, ?_⟩
  · simp [Oper.about, ho, resolve, Target.leads, Sem.run_pure]
  · rw [Oper.semAt_plain F _ _ (by rw [ho]; intro c hc'; cases hc')]
    simp [execOp, ho, resolve, invoke, builtin, hs, hx, hrun, Result.andThen]
    exact hK' _ _ (h A' c' w' g' h2 h3 h4)

/-- What hands out turns, read. -/
def TnsTo (w : World) (t : List Tn) (e : Ending) (w' : World) : Prop := ∃ A c, e = .returned (.slice A t.length c) ∧ Tns w' (.slice A t.length c) t ∧ Below w.heap.size w w'
theorem TrnTo.tns {w w' : World} {t : List Tn} {e : Ending} (h : TrnTo w t e w') : TnsTo w t e w' := by
  obtain ⟨A, c, g, rfl, ht, hb⟩ := h
  exact ⟨A, c, rfl, ht.tns.any, hb⟩
/-- Turns are no more than bytes. -/
theorem turns_few (l : List PE) : (turns l).length ≤ whole l := by
  have : ∀ t : List Tn, (∀ x ∈ t, x.out ≠ [] ∨ x.inn ≠ []) → t.length ≤ (outs t).length + (inns t).length := by
    intro t
    induction t with
    | nil => intro _; simp
    | cons b t ih =>
      intro h
      have h1 := ih fun x hx => h x (List.mem_cons_of_mem _ hx)
      have e1 : outs (b :: t) = b.out ++ outs t := by simp [outs]
      have e2 : inns (b :: t) = b.inn ++ inns t := by simp [inns]
      rw [e1, e2, List.length_append, List.length_append, List.length_cons]
      rcases h b (by simp) with k | k
      · have := List.length_pos_iff.2 k; omega
      · have := List.length_pos_iff.2 k; omega
  have h2 := this _ (turns_sound l).any
  rw [turns_outs, turns_inns] at h2
  have : ∀ l : List PE, (byts 0 l).length + (byts 1 l).length ≤ whole l := by
    intro l
    induction l with
    | nil => simp [byts, whole]
    | cons a l ih =>
      rw [byts_cons, byts_cons, whole_cons, List.length_append, List.length_append]
      by_cases h0 : a.dir = 0
      · rw [if_pos h0, if_neg (by omega)]; simp; omega
      · rw [if_neg h0]
        by_cases h1 : a.dir = 1
        · rw [if_pos h1]; simp; omega
        · rw [if_neg h1]; simp; omega
  have := this l
  omega
theorem turns_byte {l : List PE} (h : ∀ a ∈ l, ∀ x ∈ a.data, x < 256) : ∀ b ∈ turns l, (∀ x ∈ b.out, x < 256) ∧ ∀ x ∈ b.inn, x < 256 := by
  intro b hb
  refine ⟨fun x hx => ?_, fun x hx => ?_⟩
  · have h1 : x ∈ outs (turns l) := List.mem_flatMap.2 ⟨b, hb, hx⟩
    rw [turns_outs] at h1; exact byts_byte h x h1
  · have h1 : x ∈ inns (turns l) := List.mem_flatMap.2 ⟨b, hb, hx⟩
    rw [turns_inns] at h1; exact byts_byte h x h1
theorem turns_part {l : List PE} {b : Tn} (hb : b ∈ turns l) : b.out.length ≤ whole l ∧ b.inn.length ≤ whole l := by
  have h1 := outs_mem hb
  have h2 := inns_mem hb
  rw [turns_outs] at h1
  rw [turns_inns] at h2
  have := byts_le 0 l
  have := byts_le 1 l
  omega

set_option maxRecDepth 100000 in
set_option maxHeartbeats 4000000 in
theorem Of_is (v : Value) (L : List Ev) (w : World) (h : Evs w v L) (hw : L.length + whole (pes L) ≤ 4194304) : Calls Try.prog 12 #[v] w (TnsTo w (turns (pes L))) := by
  refine (callsIn_wide (n := 3)).1 ?_
  obtain ⟨A, c, rfl, -⟩ := h.form
  have HT := Lib.hid ((callsIn_wide (n := 2)).2 (All_is _ L (w.alloc (.cells #[.slice none 0 0] 24)) (h.alloc _) hw))
  have HTW : Hid (turns (mrg (spk (pes L))) = turns (pes L) ∧ whole (mrg (spk (pes L))) ≤ 4194304 ∧ (mrg (spk (pes L))).length ≤ 4194304 ∧ (turns (pes L)).length ≤ 4194304 ∧ (∀ b ∈ turns (pes L), b.out.length ≤ 4194304 ∧ b.inn.length ≤ 4194304) ∧ ∀ b ∈ turns (pes L), (∀ x ∈ b.out, x < 256) ∧ ∀ x ∈ b.inn, x < 256) := by
    refine Lib.hid ⟨turns_all _, ?_, ?_, ?_, fun b hb => ?_, turns_byte fun a ha x hx => ?_⟩
    · rw [mrg_whole]; have := spk_whole (pes L); omega
    · have := mrg_len (spk (pes L)); have := spk_len (pes L); rw [pes_len] at *; omega
    · have := turns_few (pes L); omega
    · have := turns_part hb; omega
    · obtain ⟨y, hy, rfl⟩ := List.mem_map.1 ha
      exact (h.ok hy).byte x hx
  clear h hw
  generalize hTT : turns (pes L) = T at *
  refine callsIn_of_wp_marks Try.func12 rfl trivial ?_ rfl
  simp only [Try.ntmps12, List.size_toArray, List.length_cons, List.length_nil, Nat.reduceAdd, Nat.reduceSub, Array.replicate_succ, Array.replicate_zero, List.push_toArray, List.append_toArray, List.nil_append, List.cons_append]
  gi_wp2_with fail
  refine ⟨trivial, ?_⟩
  refine HT.out.mono ?_
  rintro e w2 ⟨Bo, vo, lo, rfl, hBo, hEo, hpo, hbel, hle⟩
  rw [World.size_alloc] at hle
  obtain ⟨S, hS⟩ : ∃ S : Nat → Prop, S = fun b => w.heap.size + 1 ≤ b ∧ b < w2.heap.size := ⟨_, rfl⟩
  have hbw : Below w.heap.size w w2 := ((Below.refl _ w).alloc (Nat.le_refl _) _).trans (hbel.mono (by simp))
  have hob : Blk w2 w.heap.size 24 #[.slice none 0 0] := (Blk.new w _ _).below hbel (by simp)
  have hSlt : ∀ b, S b → b < w2.heap.size := by rw [hS]; exact fun b hb => hb.2
  have hnS : ¬ S w.heap.size := by rw [hS]; simp; omega
  have hEv : EvsIn S w2 vo lo := hEo.mono fun b hlt hb => by rw [hS]; exact ⟨by rw [World.size_alloc] at hb; exact hb, hlt⟩
  have hnS2 : ∀ b, w2.heap.size ≤ b → ¬ S b := by rw [hS]; exact fun b hb h => by have := h.2; omega
  have hlo : lo.length ≤ 4194304 := by have h1 := congrArg List.length hpo; rw [pes_len] at h1; have := HTW.out.2.2.1; omega
  have hal : Alt (pes lo) := by rw [hpo]; exact alt_mrg _
  have hwo : whole (pes lo) ≤ 4194304 := by rw [hpo]; exact HTW.out.2.1
  have hto : turns (pes lo) = T := by rw [hpo]; exact HTW.out.1
  have hseq := All1_told 2 (by omega) Bo vo lo S w2 hSlt hBo hEv hal hwo hlo
  rw [hto] at hseq
  have X := Lib.hid (And.intro hbw (And.intro hob (And.intro hseq (And.intro hSlt (And.intro hnS hnS2)))))
  have hown : OwnFrom w2.heap.size (fun (pre : List TE) W => ListT w S w.heap.size (pre.map TE.tn) W) := ListT.own w S _ _ _ hbw.size
  clear hbw hob hBo hSlt hnS hEv hS hbel hle hEo hpo HT hnS2 hal hwo hto hseq hlo
  gi_wp2_with fail
  refine wpIn_range_told rfl (by omega) (gf := 25) (lb := #[.pointer (some ⟨Bo, 0, none⟩)]) rfl trivial (enters_of Try.func25 (by kernel_rfl) rfl)
    X.out.2.2.1 KeptZ.t (KeptZ.b X.out.2.2.2.1) (Below.refl _ _) (fun _ => rfl)
    (fun pre W => ListT w S w.heap.size (pre.map TE.tn) W) hown
    ⟨_, none, [], rfl, X.out.2.1, TL.nil _ _, X.out.1, X.out.2.2.2.1⟩
    (fun pre x a' W => ∃ Be, a' = { tmps := #[.slice A L.length c, undef, .slice none 0 0, .pointer (some ⟨w.heap.size, 0, none⟩), undef, .pointer (some ⟨Be, 0, none⟩), .slice A L.length c, .func (.func 25) #[] #[.pointer (some ⟨Bo, 0, none⟩)], .int .i64 (x.num : Nat), .agg #[.slice x.a.A x.a.l.length x.a.c, .slice x.b.A x.b.l.length x.b.c], undef, undef, undef, undef, undef], defers := [] } ∧ Blk W Be 33 #[.slice x.a.A x.a.l.length x.a.c, .slice x.b.A x.b.l.length x.b.c] ∧ HandedT w2.heap.size T pre x W)
    ?ax ?assign ?body ?done
  case ax =>
    rintro pre x a' _ W W' row ⟨Be, ha, hb, hx, ht, ho⟩ hg hrow
    exact ⟨Be, ha, hb.keep (cells_kept hg hrow hb), hx, ht, ho.keep fun k cs _ hc => cells_kept hg hrow hc⟩
  case assign =>
    intro l pre x W K hI hR hK
    have HI := Lib.hid (And.intro hI hR)
    clear hI hR
    simp only [TE.vals] at hK ⊢
    gi_wp2
    refine hK _ _ ((KeepsOthers.alloc _ _).from _) ⟨fun b hb => Below.heap_alloc W _ b (HI.out.1.choose_spec.choose_spec.choose_spec.2.2.2.2 b hb), by simp⟩ (hown.alloc _ HI.out.1) ⟨_, rfl, Blk.new W _ _, HI.out.2.1, HI.out.2.2.1, HI.out.2.2.2.keep fun k cs _ hc => Below.heap_alloc W _ k (lt_of_heap hc)⟩
  case body =>
    rintro l pre x a' W - - ⟨v1, go, lp, hps, hb, hl, hB, hlt⟩ ⟨Be, rfl, hBe, hnum, hTx, hown2⟩ hpl
    obtain ⟨A1, c1, rfl, -⟩ := hl.row.form
    have hlp : lp.length ≤ 4194304 := by
      have h1 := congrArg List.length hps
      rw [List.length_map, List.length_map] at h1
      have := HTW.out.2.2.2.1
      omega
    have hc : W.cell? ⟨w.heap.size, 0, none⟩ = some (.slice A1 lp.length c1) := hb.cell 0
    have he0 : W.cell? ⟨Be, 0, none⟩ = some (.slice x.a.A x.a.l.length x.a.c) := hBe.cell 0
    have he1 : W.cell? ⟨Be, 1, none⟩ = some (.slice x.b.A x.b.l.length x.b.c) := hBe.cell 1
    have hsz := X.out.1.size
    have hmem := List.mem_of_getElem? hTx
    have hok : EvOk (fun b => False ∨ ((w.heap.size ≤ b ∧ ¬ S b) ∧ ∃ cs, W.heap[b]? = some (.cells cs 5 (0, 0)))) W x.a.ev ∧ EvOk (fun b => False ∨ ((w.heap.size ≤ b ∧ ¬ S b) ∧ ∃ cs, W.heap[b]? = some (.cells cs 5 (0, 0)))) W x.b.ev := by
      refine ⟨EvOk.ofRow (d := 0) (t := 0) hown2.ra (HTW.out.2.2.2.2.2 _ hmem).1 (by have : x.a.l.length ≤ 4194304 := (HTW.out.2.2.2.2.1 _ hmem).1; omega) fun b e hc => .inr ⟨⟨Nat.le_trans hsz (hown2.fa b e), X.out.2.2.2.2.2 b (hown2.fa b e)⟩, hc⟩,
        EvOk.ofRow (d := 0) (t := 0) hown2.rb (HTW.out.2.2.2.2.2 _ hmem).2 (by have : x.b.l.length ≤ 4194304 := (HTW.out.2.2.2.2.1 _ hmem).2; omega) fun b e hc => .inr ⟨⟨Nat.le_trans hsz (hown2.fb b e), X.out.2.2.2.2.2 b (hown2.fb b e)⟩, hc⟩⟩
    have Y := Lib.hid (And.intro hb (And.intro hl (And.intro hB (And.intro hlt (And.intro hok hps)))))
    have hne : Hid (go ≠ some w.heap.size) := hl.row.ne_ hb (by decide)
    clear hb hl hB hlt hok hps hBe hown2 hTx hmem
    gi_wp2_with (gi_at_builtin; refine wpListIn_append_tn _ rfl _ _ rfl go _ lp.length (tcs lp) rfl (Y.out.2.1.row.alloc _) _ [x.a.val, x.b.val] rfl (tn_src x.a.val x.b.val rfl rfl) (by omega) ?_; intro A' c' w1 g' hrow' hgr hg'; have hk1 := (Y.out.1.alloc _).keep (hgr.block _ (Y.out.1.alloc _).lt (Ne.symm hne.out)); have hc1 : w1.cell? ⟨w.heap.size, 0, none⟩ = some (.slice A1 lp.length c1) := hk1.cell 0; have hf1 : w1.frozen? ⟨w.heap.size, 0, none⟩ = false := hk1.frozen 0; have Z := Lib.hid (And.intro hrow' (And.intro hgr hg')); clear hrow' hgr hg' hk1)
    obtain ⟨hb, hl, hB, hlt, hok, hps⟩ := Y.out
    obtain ⟨hrow', hgr, hg'⟩ := Z.out
    obtain ⟨h1, h2, h3⟩ := ListT.step (x := x) hb hl hB hlt X.out.2.2.2.2.1 (Nat.le_refl _) hok rfl hrow' hgr hg'
    exact ⟨h1.from _, ⟨h2, h1.size⟩, by rw [List.map_append, ← hps]; exact h3⟩
  case done =>
    rintro D ys W hD hys ⟨v1, go, lp, hps, hb, hl, hB, hlt⟩ hK
    obtain ⟨A1, c1, rfl, -⟩ := hl.row.form
    have hc : W.cell? ⟨w.heap.size, 0, none⟩ = some (.slice A1 lp.length c1) := hb.cell 0
    have Y := Lib.hid (And.intro hl (And.intro hB (hps.trans hys)))
    clear hb hl hB hps hlt hys
    gi_wp2
    refine ⟨by simp, .inl ⟨_, _, rfl, run_takeDeferred hK, ?_⟩⟩
    obtain ⟨hl, hB, hps⟩ := Y.out
    have hsz := X.out.1.size
    have hl' : TL (fun b => w.heap.size ≤ b ∧ ¬ S b) (W.putObj D (.deferred none)) go (.slice A1 lp.length c1) lp := hl.keep fun b _ hh => by
      obtain ⟨_, cs, t, _, hc⟩ := hh
      exact World.putObj_heap_other (fun e' => by subst e'; rw [hc] at hK; cases hK)
    have hll : lp.length = T.length := by rw [← hps, List.length_map]
    exact ⟨_, results_tmp rfl _ _ _, A1, c1, by rw [hll]; rfl, by rw [← hll, ← hps]; exact hl'.tns fun _ _ => trivial, hB.trans (belowK_b (w := w) (Nat.le_refl _) W D _ _ (by omega) hK rfl rfl)⟩
end Go.Proofs.Ytchfiiiippnigaa
