/-
  The law TurnOfs: of any events the turns are the document's, all at once, and one by one, with their numbers.
  Conditions: events and bytes together at most 1048576.
-/
import Derived.Test.YtchfiiiippnigaaTnAlive
import Derived.Test.YtchfiiiippnigaaRndReg
import Derived.Deep.RegionHeld3
namespace Go.Proofs.Ytchfiiiippnigaa
open Go.RowKit Go.Shelf

attribute [local go_sem] Oper.semAt_some

/-- Between the rounds: how many turns have come; all that lay when the range began lies as it was. -/
def OfI (w5 : World) (S : Nat → Prop) (b4 : Nat) (T : List Tn) (pre : List TE) (W : World) : Prop :=
  Blk W b4 3 #[.int .i64 (pre.length : Nat)] ∧ Below w5.heap.size w5 W ∧ (∀ b, S b → b < W.heap.size) ∧ pre.map TE.tn = T.take pre.length
theorem OfI.own (w5 : World) (S : Nat → Prop) (b4 B : Nat) (T : List Tn) (hB : w5.heap.size ≤ B) : OwnFrom B (OfI w5 S b4 T) := by
  rintro s W W' row ⟨hb, hbel, hlt, hp⟩ hg hrow
  exact ⟨hb.keep (cells_kept hg hrow hb), hbel.grown hg hbel.size (fun k e => by have := (hrow k e).1; omega), fun b e => Nat.lt_of_lt_of_le (hlt b e) hg.size, hp⟩
theorem OfI.step {w5 W w3 : World} {S : Nat → Prop} {b4 : Nat} {T : List Tn} {pre : List TE} {x : TE} (h : OfI w5 S b4 T pre W) (hx : T[pre.length]? = some x.tn) (hb : Below W.heap.size W w3) (hS : ¬ S b4) (h4 : w5.heap.size ≤ b4) {V : Value} (hV : V = .int .i64 ((pre.length + 1 : Nat) : Int)) :
    KeepsOthers W (w3.setCell ⟨b4, 0, none⟩ V) ∧ KeptZ S W (w3.setCell ⟨b4, 0, none⟩ V) ∧ OfI w5 S b4 T (pre ++ [x]) (w3.setCell ⟨b4, 0, none⟩ V) := by
  obtain ⟨hB, hbel, hlt, hp⟩ := h
  have hz : (w3.setCell ⟨b4, 0, none⟩ V).heap.size = w3.heap.size := by simp [World.setCell]
  refine ⟨?_, ⟨fun b e => ?_, ?_⟩, ?_, ?_, fun b e => ?_, ?_⟩
  · exact KeepsOthers.trans ⟨hb.size, fun k o hk _ => (hb.block k (lt_of_heap hk)).trans hk⟩ (KeepsOthers.setCell _ _ _)
  · exact (Below.heap_setCell w3 _ V b (by rintro rfl; exact hS e)).trans (hb.block b (hlt b e))
  · rw [hz]; exact hb.size
  · have := (hB.below hb hB.lt).set_ 0 V
    rw [List.length_append, hV] at *
    simpa using this
  · exact (hbel.trans (hb.mono hbel.size)).setCell (p := ⟨b4, 0, none⟩) h4 V
  · rw [hz]; exact Nat.lt_of_lt_of_le (hlt b e) hb.size
  · rw [List.map_append, List.length_append, hp, List.length_singleton, List.take_add_one, hx]
    rfl

/-- t[k:k+1] of turns, under one name. -/
theorem run_one_T {S : Nat → Prop} {w : World} {A : Option Addr} {n c k : Nat} {t : List Tn} {x : Tn} (h : TnsIn S w (.slice A n c) t) (hx : t[k]? = some x) :
    ∃ A' c', (∀ W, (Instr.slice 24 (.slice A n c) (some (.int .i64 (k : Int))) (some (.int .i64 ((k : Int) + 1))) none).run Try.prog W = .ok (.slice A' 1 c') W) ∧ TnsIn S w (.slice A' 1 c') [x] := by
  have hn := h.n
  have hk := (List.getElem?_eq_some_iff.1 hx).1
  obtain ⟨A', c', e, hle, hr⟩ := h
  injection e with e1 e2 e3
  subst e1 e3
  obtain ⟨b, o, rfl, hb, hc⟩ := hr (by omega)
  refine ⟨some ⟨b, o + k * 2, none⟩, c - k, fun W => ?_, ?_⟩
  · obtain ⟨i0, hi0, hz0, hz1, hz2⟩ := info_parts tn_info
    have hs : (sizeOf (Try.prog.elem 24)).run Try.prog W = .ok 2 W := by
      rw [show Try.prog.elem 24 = 33 by kernel_rfl]
      simp [sizeOf, typeInfo, hi0, hz1]
    rw [run_slice_lh W 24 _ n c (by kernel_rfl) .i64 .i64 (k : Int) ((k : Int) + 1) (by omega) (by omega) (by omega), hs]
    rw [show ((k : Int) + 1) = ((k + 1 : Nat) : Int) by omega]
    simp only [Result.andThen, Int.toNat_natCast, sliced, Nat.add_sub_cancel_left]
    rw [if_neg (by omega)]
    simp [add_eq]
  · refine ⟨_, c - k, rfl, by simp; omega, fun _ => ⟨b, o + k * 2, rfl, hb, fun j y hj => ?_⟩⟩
    cases j with
    | zero =>
      simp at hj
      subst hj
      have := hc k x hx
      simpa using this
    | succ j => simp at hj

theorem tn_one {W : World} {b : Nat} {x : Tn} {A1 A2 : Option Addr} {c1 c2 : Nat} (h : Blk W b 33 #[.slice A1 x.out.length c1, .slice A2 x.inn.length c2]) (h1 : Rd W (.slice A1 x.out.length c1) (bv x.out)) (h2 : Rd W (.slice A2 x.inn.length c2) (bv x.inn)) : Tns W (.slice (some ⟨b, 0, none⟩) 1 1) [x] := by
  refine ⟨_, 1, rfl, Nat.le_refl _, fun _ => ⟨b, 0, rfl, trivial, fun j y hj => ?_⟩⟩
  cases j with
  | zero =>
    simp at hj
    subst hj
    exact ⟨A1, c1, A2, c2, h.cell 0, h.cell 1, ⟨h1, fun _ _ _ _ _ _ => trivial⟩, ⟨h2, fun _ _ _ _ _ _ => trivial⟩⟩
  | succ j => simp at hj

set_option maxRecDepth 100000 in
set_option maxHeartbeats 8000000 in
theorem ofs_true (v : Value) (L : List Ev) (w : World) (h : Evs w v L) (hw : L.length + whole (pes L) ≤ 1048576) :
    Calls Try.prog 3 #[v] w fun e w' => e = .returned (.bool true) ∧ Below w.heap.size w w' := by
  refine (callsIn_wide (n := 4)).1 ?_
  obtain ⟨A, c, rfl, -⟩ := h.form
  have HR : Hid (∀ W, Below w.heap.size w W → Calls Try.prog 10 #[.slice A L.length c] W (TrnTo W (turns (pes L)))) := Lib.hid fun W hb => ROf_is _ L W (h.below hb) hw
  have HO : Hid (∀ W, Below w.heap.size w W → Calls Try.prog 12 #[.slice A L.length c] W (TnsTo W (turns (pes L)))) := Lib.hid fun W hb => Of_is _ L W (h.below hb) (by omega)
  have HA : Hid (∀ W, Below w.heap.size w W → Calls Try.prog 13 #[.slice A L.length c] W (AllTo W (pes L))) := Lib.hid fun W hb => All_is _ L W (h.below hb) (by omega)
  have HTW : Hid (turns (mrg (spk (pes L))) = turns (pes L) ∧ whole (mrg (spk (pes L))) ≤ 4194304 ∧ (mrg (spk (pes L))).length ≤ 4194304) := by
    refine Lib.hid ⟨turns_all _, ?_, ?_⟩
    · rw [mrg_whole]; have := spk_whole (pes L); omega
    · have := mrg_len (spk (pes L)); have := spk_len (pes L); rw [pes_len] at *; omega
  have hTl : (turns (pes L)).length ≤ 1048576 := by have := turns_few (pes L); omega
  clear h hw
  generalize hTT : turns (pes L) = T at *
  have HTT := Lib.hid hTT
  clear hTT
  refine callsIn_of_wp_marks Try.func3 rfl trivial ?_ rfl
  simp only [Try.ntmps3, List.size_toArray, List.length_cons, List.length_nil, Nat.reduceAdd, Nat.reduceSub, Array.replicate_succ, Array.replicate_zero, List.push_toArray, List.append_toArray, List.nil_append, List.cons_append]
  refine wpIn_wide.2 ?_
  go_wp2_with fail
  refine (alive_true _).mono ?_
  rintro e w1 ⟨rfl, hb1⟩
  have b2 : Blk w1 w.heap.size 4 #[.bool false] := (Blk.new w _ _).below hb1 (by simp)
  have X1 : Hid (Below w.heap.size w w1 ∧ Blk w1 w.heap.size 4 #[.bool false]) := Lib.hid ⟨((Below.refl _ w).alloc (Nat.le_refl _) _).trans (hb1.mono (by simp)), b2⟩
  clear b2 hb1
  go_wp2_with fail
  refine (HR.out w1 X1.out.1).mono ?_
  rintro e w2 hto
  obtain ⟨A3, c3, rfl, ht2, hb2⟩ := hto.tns
  have X2 := Lib.hid (And.intro (X1.out.1.trans (hb2.mono X1.out.1.size)) (And.intro (X1.out.2.below hb2 X1.out.2.lt) ht2))
  clear hto ht2 hb2 X1 HR
  go_upto_region 4 with (fail)
  obtain ⟨w3, hw3⟩ : ∃ w3, w2.alloc (.cells #[.slice A3 T.length c3] 24) = w3 := ⟨_, rfl⟩
  obtain ⟨b3, hb3⟩ : ∃ b3, w2.heap.size = b3 := ⟨_, rfl⟩
  have hbl3 : Below w2.heap.size w2 w3 := by rw [← hw3]; exact (Below.refl _ w2).alloc (Nat.le_refl _) _
  have kb3 : Blk w3 b3 24 #[.slice A3 T.length c3] := by rw [← hw3, ← hb3]; exact Blk.new w2 _ _
  have X3 := Lib.hid (And.intro (X2.out.1.trans (hbl3.mono X2.out.1.size)) (And.intro (X2.out.2.1.below hbl3 X2.out.2.1.lt) (And.intro kb3 (X2.out.2.2.below hbl3))))
  have y3 : w3.cell? ⟨b3, 0, none⟩ = some (.slice A3 T.length c3) := kb3.cell 0
  have HO3 := Lib.hid (HO.out w3.drew X3.out.1.drew)
  rw [hw3, hb3]
  clear hw3 hb3 hbl3 kb3 X2 HO
  go_region_held3 (fun w' => w'.cell? ⟨b3, 0, none⟩ = some (.slice A3 T.length c3)) (go_keep) (first
    | (go_at_call 12; (with_reducible refine HO3.out.mono ?_); rintro e w4 ⟨A4, c4, rfl, ht4, hb4⟩; have hb34 : Below w3.heap.size w3 w4 := ((Below.refl w3.heap.size w3).drew).trans hb4; have X4 := Lib.hid (And.intro (X3.out.1.trans (hb34.mono X3.out.1.size)) (And.intro (X3.out.2.1.below hb34 X3.out.2.1.lt) (And.intro (X3.out.2.2.1.below hb34 X3.out.2.2.1.lt) (And.intro (X3.out.2.2.2.below hb34) ht4)))); have y4 : w4.cell? ⟨b3, 0, none⟩ = some (.slice A3 T.length c3) := X4.out.2.2.1.cell 0; clear ht4 hb4 hb34)
    | (go_at_call 11; (with_reducible refine (RSame_eq T _ _ w4 X4.out.2.2.2.2 X4.out.2.2.2.1 (by omega)).mono ?_); rintro e w5 ⟨rfl, hb5⟩; have X5 := Lib.hid (And.intro (X4.out.1.trans (hb5.mono X4.out.1.size)) (And.intro (X4.out.2.1.below hb5 X4.out.2.1.lt) (And.intro (X4.out.2.2.1.below hb5 X4.out.2.2.1.lt) (X4.out.2.2.2.1.below hb5)))); have y5 : w5.cell? ⟨b3, 0, none⟩ = some (.slice A3 T.length c3) := X5.out.2.2.1.cell 0; clear hb5))
  clear y3 y4 X3 X4 HO3
  go_wp2_with fail
  refine (HA.out _ (X5.out.1.alloc X5.out.1.size _)).mono ?_
  rintro e w7 ⟨Bo, vo, lo, rfl, hBo, hEo, hpo, hbel, hle⟩
  rw [World.size_alloc] at hle hbel
  obtain ⟨b4, hb4⟩ : ∃ b4, w5.heap.size = b4 := ⟨_, rfl⟩
  have k4 : Blk w7 b4 3 #[.int .i64 0] := by rw [← hb4]; exact (Blk.new w5 _ _).below hbel (by simp)
  have hb57 : Below w5.heap.size w5 w7 := ((Below.refl _ w5).alloc (Nat.le_refl _) _).trans (hbel.mono (by simp))
  obtain ⟨S, hS⟩ : ∃ S : Nat → Prop, S = fun b => b4 + 1 ≤ b ∧ b < w7.heap.size := ⟨_, rfl⟩
  have hSlt : ∀ b, S b → b < w7.heap.size := by rw [hS]; exact fun b hb => hb.2
  have hnS : ¬ S b4 := by rw [hS]; exact fun h => by have := h.1; omega
  have hEv : EvsIn S w7 vo lo := hEo.mono fun b hlt hb => by rw [hS, ← hb4]; exact ⟨by rw [World.size_alloc] at hb; exact hb, hlt⟩
  have hlo : lo.length ≤ 4194304 := by have h1 := congrArg List.length hpo; rw [pes_len] at h1; have := HTW.out.2.2; omega
  have hal : Alt (pes lo) := by rw [hpo]; exact alt_mrg _
  have hwo : whole (pes lo) ≤ 4194304 := by rw [hpo]; exact HTW.out.2.1
  have hto : turns (pes lo) = T := by rw [hpo]; exact HTW.out.1
  have hseq := All1_told 3 (by omega) Bo vo lo S w7 hSlt hBo hEv hal hwo hlo
  rw [hto] at hseq
  have h45 : w5.heap.size ≤ b4 := Nat.le_of_eq hb4
  have hown : OwnFrom w7.heap.size (OfI w5 S b4 T) := OfI.own w5 S b4 _ T hb57.size
  have X := Lib.hid (And.intro hb57 (And.intro hseq (And.intro hSlt (And.intro hnS h45))))
  have HI0 : Hid (OfI w5 S b4 T [] w7) := Lib.hid ⟨k4, hb57, hSlt, rfl⟩
  rw [hb4]
  clear hb4 k4 hb57 hS hSlt hnS hEv hlo hal hwo hto hseq h45 hBo hEo hpo hbel hle HTT HTW HA y5
  go_wp2_with fail
  refine (wpIn_wide (n := 4)).1 ?_
  refine wpIn_range_told rfl (by omega) (gf := 25) (lb := #[.pointer (some ⟨Bo, 0, none⟩)]) rfl trivial (enters_of Try.func25 (by kernel_rfl) rfl)
    X.out.2.1 KeptZ.t (KeptZ.b X.out.2.2.1) (Below.refl _ _) (fun _ => rfl)
    (OfI w5 S b4 T) hown HI0.out
    (fun pre x a' W => ∃ Be, a' = { tmps := #[.slice A L.length c, undef, .pointer (some ⟨w.heap.size, 0, none⟩), .pointer (some ⟨b3, 0, none⟩), .pointer (some ⟨b4, 0, none⟩), .int .i64 (x.num : Nat), .pointer (some ⟨Be, 0, none⟩), .bool true, .bool false, .slice A L.length c, .slice A3 T.length c3, .slice A L.length c, .slice A4 T.length c4, .slice A3 T.length c3, .bool true, .bool false, .slice A L.length c, .func (.func 25) #[] #[.pointer (some ⟨Bo, 0, none⟩)], .int .i64 (x.num : Nat), .agg #[.slice x.a.A x.a.l.length x.a.c, .slice x.b.A x.b.l.length x.b.c], undef, undef, undef, undef, undef, undef, undef, undef, undef, undef, undef, undef, undef, undef, undef, undef, undef, undef, undef, undef, undef, undef, undef, undef, undef, undef], defers := [] } ∧ Blk W Be 33 #[.slice x.a.A x.a.l.length x.a.c, .slice x.b.A x.b.l.length x.b.c] ∧ HandedT w7.heap.size T pre x W)
    ?ax ?assign ?body ?done
  case ax =>
    rintro pre x a' _ W W' row ⟨Be, ha, hb, hx, ht, ho⟩ hg hrow
    exact ⟨Be, ha, hb.keep (cells_kept hg hrow hb), hx, ht, ho.keep fun k cs _ hc => cells_kept hg hrow hc⟩
  case assign =>
    intro l pre x W K hI hR hK
    have HI := Lib.hid (And.intro hI hR)
    clear hI hR
    simp only [TE.vals] at hK ⊢
    gi_wp2
    refine hK _ _ ((KeepsOthers.alloc _ _).from _) ⟨fun b hb => Below.heap_alloc W _ b (HI.out.1.2.2.1 b hb), by simp⟩ (hown.alloc _ HI.out.1) ⟨_, rfl, Blk.new W _ _, HI.out.2.1, HI.out.2.2.1, HI.out.2.2.2.keep fun k cs _ hc => Below.heap_alloc W _ k (lt_of_heap hc)⟩
  case body =>
    rintro l pre ⟨num, xa, xb⟩ a' W - - hI ⟨Be, rfl, hBe, hnum, hTx, hown2⟩ hpl
    dsimp only at hnum hTx hBe hown2 ⊢
    subst hnum
    have hkb : pre.length ≤ 1048576 := by omega
    obtain ⟨A7, c7, hs7, ht7⟩ := run_one_T X5.out.2.2.2 hTx
    have hb5W := hI.2.1
    have y3 : W.cell? ⟨b3, 0, none⟩ = some (.slice A3 T.length c3) := (X5.out.2.2.1.below hb5W X5.out.2.2.1.lt).cell 0
    have y4 : W.cell? ⟨b4, 0, none⟩ = some (.int .i64 (pre.length : Nat)) := hI.1.cell 0
    have y6 : W.cell? ⟨Be, 0, none⟩ = some (.slice xa.A xa.l.length xa.c) := hBe.cell 0
    have y7 : W.cell? ⟨Be, 1, none⟩ = some (.slice xb.A xb.l.length xb.c) := hBe.cell 1
    have HKS : Hid (∀ V, Below W.heap.size W V → V.cell? ⟨b3, 0, none⟩ = some (.slice A3 T.length c3) ∧ V.cell? ⟨b4, 0, none⟩ = some (.int .i64 (pre.length : Nat)) ∧ V.cell? ⟨Be, 0, none⟩ = some (.slice xa.A xa.l.length xa.c) ∧ V.cell? ⟨Be, 1, none⟩ = some (.slice xb.A xb.l.length xb.c)) := Lib.hid fun V hV =>
      ⟨((X5.out.2.2.1.below hb5W X5.out.2.2.1.lt).below hV (X5.out.2.2.1.below hb5W X5.out.2.2.1.lt).lt).cell 0, (hI.1.below hV hI.1.lt).cell 0, (hBe.below hV hBe.lt).cell 0, (hBe.below hV hBe.lt).cell 1⟩
    have HSM : Hid (∀ V, V = W.drew.alloc (.cells #[.slice xa.A xa.l.length xa.c, .slice xb.A xb.l.length xb.c] 33) → Calls Try.prog 11 #[.slice (some ⟨W.heap.size, 0, none⟩) 1 1, .slice A7 1 c7] V fun e w' => e = .returned (.bool true) ∧ Below W.heap.size W w') := Lib.hid fun V e => by
      have hbV : Below W.heap.size W V := by rw [e]; exact (Below.refl W.heap.size W).drew.alloc (Nat.le_refl _) _
      have kV : Blk V W.heap.size 33 #[.slice xa.A xa.l.length xa.c, .slice xb.A xb.l.length xb.c] := by rw [e]; exact Blk.new W.drew _ _
      refine (RSame_eq [⟨xa.l, xb.l⟩] _ _ V (tn_one kV (hown2.ra.rd.kept hbV) (hown2.rb.rd.kept hbV)) (ht7.any.below (hb5W.trans (hbV.mono hb5W.size))) (by simp)).mono ?_
      rintro e w' ⟨rfl, hb⟩
      exact ⟨rfl, hbV.trans (hb.mono hbV.size)⟩
    have f1 : IntKind.i64.wrap ((pre.length : Int) + 1) = (pre.length : Int) + 1 := by rw [IntKind.wrap_i64]; omega
    have q1 : ((pre.length : Int) != (pre.length : Int)) = false := by simp
    have q2 : decide ((T.length : Int) ≤ (pre.length : Int)) = false := by simp; omega
    have q3 : decide (T.length ≤ pre.length) = false := by simp; omega
    have q4 : decide ((pre.length : Int) ≥ (T.length : Int)) = false := by simp; omega
    have Y := Lib.hid (And.intro hI (And.intro hTx hb5W))
    clear hI hTx hown2 hBe ht7 hb5W X5
    generalize hk : pre.length = k at *
    gi_wp2_with fail
    refine wpIn_region_round (fun V => V.cell? ⟨b3, 0, none⟩ = some (.slice A3 T.length c3) ∧ V.cell? ⟨b4, 0, none⟩ = some (.int .i64 (k : Nat)) ∧ V.cell? ⟨Be, 0, none⟩ = some (.slice xa.A xa.l.length xa.c) ∧ V.cell? ⟨Be, 1, none⟩ = some (.slice xb.A xb.l.length xb.c)) 20 (by kernel_rfl) (by kernel_rfl) ⟨y3, y4, y6, y7⟩ (fun hHeld => ?_)
    refine wpUpto.takeAll 0 (by kernel_rfl) (by kernel_rfl) (by kernel_rfl) (by kernel_rfl) (by assumption) ?_
    intro o ho
    simp only [List.getElem?_toArray, List.getElem?_cons_zero, Option.some.injEq] at ho
    subst ho
    refine ⟨?_, fun _ _ _ h => h, Or.inl ⟨by rfl, ?_⟩, ?_⟩
    rotate_left
    · intro w hSw
      go_simp
      try with_reducible rfl
    simp only [Act.put, List.setIfInBounds_toArray, List.set_cons_zero, List.set_cons_succ]
    refine wpUpto.takeAll 1 (by kernel_rfl) (by kernel_rfl) (by kernel_rfl) (by kernel_rfl) (by assumption) ?_
    intro o ho
    simp only [List.getElem?_toArray, List.getElem?_cons_succ, List.getElem?_cons_zero, Option.some.injEq] at ho
    subst ho
    refine ⟨?_, fun _ _ _ h => h, Or.inl ⟨by rfl, ?_⟩, ?_⟩
    rotate_left
    · intro w hSw
      go_simp
      try with_reducible rfl
    simp only [Act.put, List.setIfInBounds_toArray, List.set_cons_zero, List.set_cons_succ]
    refine wpUpto.takeAll 2 (by kernel_rfl) (by kernel_rfl) (by kernel_rfl) (by kernel_rfl) (by assumption) ?_
    intro o ho
    simp only [List.getElem?_toArray, List.getElem?_cons_succ, List.getElem?_cons_zero, Option.some.injEq] at ho
    subst ho
    refine ⟨?_, fun _ _ _ h => h, Or.inl ⟨by rfl, ?_⟩, ?_⟩
    rotate_left
    · intro w hSw
      go_simp
      try with_reducible rfl
    simp only [Act.put, List.setIfInBounds_toArray, List.set_cons_zero, List.set_cons_succ]
    refine wpUpto.takeAll 3 (by kernel_rfl) (by kernel_rfl) (by kernel_rfl) (by kernel_rfl) (by assumption) ?_
    intro o ho
    simp only [List.getElem?_toArray, List.getElem?_cons_succ, List.getElem?_cons_zero, Option.some.injEq] at ho
    subst ho
    refine ⟨?_, fun _ _ _ h => h, Or.inl ⟨by rfl, ?_⟩, ?_⟩
    rotate_left
    · intro w hSw
      go_simp
      try with_reducible rfl
    simp only [Act.put, List.setIfInBounds_toArray, List.set_cons_zero, List.set_cons_succ]
    refine wpUpto.takeAll 4 (by kernel_rfl) (by kernel_rfl) (by kernel_rfl) (by kernel_rfl) (by assumption) ?_
    intro o ho
    simp only [List.getElem?_toArray, List.getElem?_cons_succ, List.getElem?_cons_zero, Option.some.injEq] at ho
    subst ho
    refine ⟨?_, fun _ _ _ h => h, Or.inl ⟨by rfl, ?_⟩, ?_⟩
    rotate_left
    · intro w hSw
      go_simp
      try with_reducible rfl
    simp only [Act.put, List.setIfInBounds_toArray, List.set_cons_zero, List.set_cons_succ]
    refine wpUpto.takeAll 5 (by kernel_rfl) (by kernel_rfl) (by kernel_rfl) (by kernel_rfl) (by assumption) ?_
    intro o ho
    simp only [List.getElem?_toArray, List.getElem?_cons_succ, List.getElem?_cons_zero, Option.some.injEq] at ho
    subst ho
    refine ⟨?_, fun _ _ _ h => h, Or.inl ⟨by rfl, ?_⟩, ?_⟩
    rotate_left
    · intro w hSw
      go_simp
      try with_reducible rfl
    simp only [Act.put, List.setIfInBounds_toArray, List.set_cons_zero, List.set_cons_succ]
    refine wpUpto.takeAll 6 (by kernel_rfl) (by kernel_rfl) (by kernel_rfl) (by kernel_rfl) (by assumption) ?_
    intro o ho
    simp only [List.getElem?_toArray, List.getElem?_cons_succ, List.getElem?_cons_zero, Option.some.injEq] at ho
    subst ho
    refine ⟨?_, fun _ _ _ h => h, Or.inl ⟨by rfl, ?_⟩, ?_⟩
    rotate_left
    · intro w hSw
      go_simp
      try with_reducible rfl
    simp only [Act.put, List.setIfInBounds_toArray, List.set_cons_zero, List.set_cons_succ]
    refine wpUpto.takeAll 7 (by kernel_rfl) (by kernel_rfl) (by kernel_rfl) (by kernel_rfl) (by assumption) ?_
    intro o ho
    simp only [List.getElem?_toArray, List.getElem?_cons_succ, List.getElem?_cons_zero, Option.some.injEq] at ho
    subst ho
    refine ⟨?_, fun _ _ _ h => h, Or.inl ⟨by rfl, ?_⟩, ?_⟩
    rotate_left
    · intro w hSw
      go_simp
      try with_reducible rfl
    simp only [Act.put, List.setIfInBounds_toArray, List.set_cons_zero, List.set_cons_succ]
    refine wpUpto.takeAll 8 (by kernel_rfl) (by kernel_rfl) (by kernel_rfl) (by kernel_rfl) (by assumption) ?_
    intro o ho
    simp only [List.getElem?_toArray, List.getElem?_cons_succ, List.getElem?_cons_zero, Option.some.injEq] at ho
    subst ho
    refine ⟨?_, fun _ _ _ h => h, Or.inl ⟨by rfl, ?_⟩, ?_⟩
    rotate_left
    · intro w hSw
      go_simp
      try with_reducible rfl
    simp only [Act.put, List.setIfInBounds_toArray, List.set_cons_zero, List.set_cons_succ]
    refine wpUpto.takeAll 9 (by kernel_rfl) (by kernel_rfl) (by kernel_rfl) (by kernel_rfl) (by assumption) ?_
    intro o ho
    simp only [List.getElem?_toArray, List.getElem?_cons_succ, List.getElem?_cons_zero, Option.some.injEq] at ho
    subst ho
    refine ⟨?_, fun _ _ _ h => h, Or.inl ⟨by rfl, ?_⟩, ?_⟩
    rotate_left
    · intro w hSw
      go_simp
      try with_reducible rfl
    simp only [Act.put, List.setIfInBounds_toArray, List.set_cons_zero, List.set_cons_succ]
    refine wpUpto.takeAll 10 (by kernel_rfl) (by kernel_rfl) (by kernel_rfl) (by kernel_rfl) (by assumption) ?_
    intro o ho
    simp only [List.getElem?_toArray, List.getElem?_cons_succ, List.getElem?_cons_zero, Option.some.injEq] at ho
    subst ho
    refine ⟨?_, fun _ _ _ h => h, Or.inl ⟨by rfl, ?_⟩, ?_⟩
    rotate_left
    · intro w hSw
      go_simp
      try with_reducible rfl
    simp only [Act.put, List.setIfInBounds_toArray, List.set_cons_zero, List.set_cons_succ]
    refine wpUpto.takeAll 12 (by kernel_rfl) (by kernel_rfl) (by kernel_rfl) (by kernel_rfl) (by assumption) ?_
    intro o ho
    simp only [List.getElem?_toArray, List.getElem?_cons_succ, List.getElem?_cons_zero, Option.some.injEq] at ho
    subst ho
    refine ⟨?_, fun _ _ _ h => h, Or.inl ⟨by rfl, ?_⟩, ?_⟩
    rotate_left
    · intro w hSw
      go_simp
      try with_reducible rfl
    simp only [Act.put, List.setIfInBounds_toArray, List.set_cons_zero, List.set_cons_succ]
    refine wpUpto.takeAll 13 (by kernel_rfl) (by kernel_rfl) (by kernel_rfl) (by kernel_rfl) (by assumption) ?_
    intro o ho
    simp only [List.getElem?_toArray, List.getElem?_cons_succ, List.getElem?_cons_zero, Option.some.injEq] at ho
    subst ho
    refine ⟨?_, fun _ _ _ h => h, Or.inl ⟨by rfl, ?_⟩, ?_⟩
    rotate_left
    · intro w hSw
      go_simp
      try with_reducible rfl
    simp only [Act.put, List.setIfInBounds_toArray, List.set_cons_zero, List.set_cons_succ]
    refine wpUpto.takeAll 14 (by kernel_rfl) (by kernel_rfl) (by kernel_rfl) (by kernel_rfl) (by assumption) ?_
    intro o ho
    simp only [List.getElem?_toArray, List.getElem?_cons_succ, List.getElem?_cons_zero, Option.some.injEq] at ho
    subst ho
    refine ⟨?_, fun _ _ _ h => h, Or.inl ⟨by rfl, ?_⟩, ?_⟩
    rotate_left
    · intro w hSw
      go_simp
      try with_reducible rfl
    simp only [Act.put, List.setIfInBounds_toArray, List.set_cons_zero, List.set_cons_succ]
    refine wpUpto.takeAll 15 (by kernel_rfl) (by kernel_rfl) (by kernel_rfl) (by kernel_rfl) (by assumption) ?_
    intro o ho
    simp only [List.getElem?_toArray, List.getElem?_cons_succ, List.getElem?_cons_zero, Option.some.injEq] at ho
    subst ho
    refine ⟨?_, fun _ _ _ h => h, Or.inl ⟨by rfl, ?_⟩, ?_⟩
    rotate_left
    · intro w hSw
      go_simp
      try with_reducible rfl
    simp only [Act.put, List.setIfInBounds_toArray, List.set_cons_zero, List.set_cons_succ]
    refine wpUpto.takeAll 16 (by kernel_rfl) (by kernel_rfl) (by kernel_rfl) (by kernel_rfl) (by assumption) ?_
    intro o ho
    simp only [List.getElem?_toArray, List.getElem?_cons_succ, List.getElem?_cons_zero, Option.some.injEq] at ho
    subst ho
    refine ⟨?_, fun _ _ _ h => h, Or.inl ⟨by rfl, ?_⟩, ?_⟩
    rotate_left
    · intro w hSw
      go_simp
      try with_reducible rfl
    simp only [Act.put, List.setIfInBounds_toArray, List.set_cons_zero, List.set_cons_succ]
    refine wpUpto.one 11 (by kernel_rfl) ?_
    intro o ho K hK
    simp only [List.getElem?_toArray, List.getElem?_cons_succ, List.getElem?_cons_zero, Option.some.injEq] at ho
    subst ho
    go_simp
    refine hK.out _ _ ?_ (fun hHeld => ?_)
    · first | exact HKS.out _ ((Below.refl W.heap.size W).drew.alloc (Nat.le_refl _) _) | exact HKS.out _ (((Below.refl W.heap.size W).alloc (Nat.le_refl _) _).drew)
    clear hK K
    try simp only [Act.put, List.setIfInBounds_toArray, List.set_cons_zero, List.set_cons_succ]
    refine wpUpto.one 17 (by kernel_rfl) ?_
    intro o ho K hK
    simp only [List.getElem?_toArray, List.getElem?_cons_succ, List.getElem?_cons_zero, Option.some.injEq] at ho
    subst ho
    go_simp
    go_at_call 11
    refine (HSM.out _ rfl).mono ?_
    rintro e w9 ⟨rfl, hb9⟩
    have Y9 := Lib.hid hb9
    clear hb9
    refine hK.out _ _ ?_ (fun hHeld => ?_)
    · exact HKS.out _ Y9.out
    clear hK K
    try simp only [Act.put, List.setIfInBounds_toArray, List.set_cons_zero, List.set_cons_succ]
    refine wpUpto.takeAll 18 (by kernel_rfl) (by kernel_rfl) (by kernel_rfl) (by kernel_rfl) (by assumption) ?_
    intro o ho
    simp only [List.getElem?_toArray, List.getElem?_cons_succ, List.getElem?_cons_zero, Option.some.injEq] at ho
    subst ho
    refine ⟨?_, fun _ _ _ h => h, Or.inl ⟨by rfl, ?_⟩, ?_⟩
    rotate_left
    · intro w hSw
      go_simp
      try with_reducible rfl
    simp only [Act.put, List.setIfInBounds_toArray, List.set_cons_zero, List.set_cons_succ]
    refine wpUpto.takeAll 19 (by kernel_rfl) (by kernel_rfl) (by kernel_rfl) (by kernel_rfl) (by assumption) ?_
    intro o ho
    simp only [List.getElem?_toArray, List.getElem?_cons_succ, List.getElem?_cons_zero, Option.some.injEq] at ho
    subst ho
    refine ⟨?_, fun _ _ _ h => h, Or.inl ⟨by rfl, ?_⟩, ?_⟩
    rotate_left
    · intro w hSw
      go_simp
      try with_reducible rfl
    simp only [Act.put, List.setIfInBounds_toArray, List.set_cons_zero, List.set_cons_succ]
    refine wpUpto.done (by kernel_rfl) ?_ _
    refine AtEnd.normal ?_
    try simp only [Act.put, List.setIfInBounds_toArray, List.set_cons_zero, List.set_cons_succ]
    have z4 : w9.cell? ⟨b4, 0, none⟩ = some (.int .i64 (k : Nat)) := (HKS.out _ Y9.out).2.1
    have g4 : w9.frozen? ⟨b4, 0, none⟩ = false := (Y.out.1.1.below Y9.out Y.out.1.1.lt).frozen 0
    clear HKS HSM y3 y4 y6 y7 hHeld
    gi_wp2
    subst hk
    obtain ⟨h1, h2, h3⟩ := OfI.step (x := ⟨pre.length, xa, xb⟩) Y.out.1 Y.out.2.1 Y9.out X.out.2.2.2.1 X.out.2.2.2.2 (V := .int .i64 ((pre.length : Int) + 1)) (by simp)
    exact ⟨h1.from _, h2, h3⟩
  case done =>
    rintro D ys W hD hys ⟨hb, hbelW, hlt, hps⟩ hK
    have hlen : ys.length = T.length := by rw [← hys, List.length_map]
    rw [hlen] at hb
    have kb2 : Blk W w.heap.size 4 #[.bool false] := X5.out.2.1.below hbelW X5.out.2.1.lt
    have y4 : W.cell? ⟨b4, 0, none⟩ = some (.int .i64 (T.length : Nat)) := hb.cell 0
    have y3 : W.cell? ⟨b3, 0, none⟩ = some (.slice A3 T.length c3) := (X5.out.2.2.1.below hbelW X5.out.2.2.1.lt).cell 0
    have y2 : W.cell? ⟨w.heap.size, 0, none⟩ = some (.bool false) := kb2.cell 0
    have g2 := kb2.frozen 0
    have hwW : Below w.heap.size w W := X5.out.1.trans (hbelW.mono X5.out.1.size)
    have hwD : w.heap.size ≤ D := by have := X5.out.1.size; have := X.out.1.size; omega
    have Y := Lib.hid (And.intro kb2 (And.intro hwW (And.intro hK hwD)))
    clear hb hbelW hlt hps hys hlen hK kb2 hwW hwD hD X5 X
    go_wp2
    obtain ⟨kb2, hwW, hK, hwD⟩ := Y.out
    have hK14 := (KeepsOthers.setCell W ⟨w.heap.size, 0, none⟩ (.bool true)).same D _ hK rfl
    refine ⟨by simp, .inl ⟨_, _, rfl, run_takeDeferred hK14, ?_⟩⟩
    have hb2' : Blk (W.setCell ⟨w.heap.size, 0, none⟩ (.bool true)) w.heap.size 4 #[.bool true] := Blk.set_ kb2 0 (.bool true)
    have hc5 := cell_kept (hb2'.cell 0) (grownBy_putObj' _ D (.deferred none)) (fun r e => by cases e; exact ⟨_, hK14, rfl⟩)
    refine ⟨.bool true, ?_, rfl, (hwW.setCell (p := ⟨w.heap.size, 0, none⟩) (by simp) _).trans (belowK_b (w := w) (Nat.le_refl _) _ D _ _ hwD hK14 rfl rfl)⟩
    simp [results, Try.f3, go_sem, hc5]
end Go.Proofs.Ytchfiiiippnigaa
