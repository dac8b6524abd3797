/-
  The closure that event.Of hands out, and cuecardlaw04.of: the events of a direction, one by one.
  Conditions: at most 1048576 events, of at most 1048576 bytes each.
-/
import Derived.Test.YtakcoplpmhgoiaaEvOf
import Derived.Test.YtakcoplpmhgoiaaTold
namespace Go.Proofs.Ytakcoplpmhgoiaa
open Go.RowKit Go.Shelf

attribute [local go_sem] Oper.semAt_some

/-- An event whose bytes were made since n1, in a row of their own. -/
def Handed (n1 : Nat) (x : Ev) (W : World) : Prop :=
  ∃ g, Row W 5 g (.slice x.A x.data.length x.c) (bv x.data) ∧ (∀ b, g = some b → n1 ≤ b) ∧ (∀ d ∈ x.data, d < 256) ∧ x.data.length ≤ 1048576
/-- These blocks are as they were, and none is gone. -/
def KeptZ (S : Nat → Prop) (W W' : World) : Prop := Kept S W W' ∧ W.heap.size ≤ W'.heap.size
theorem KeptZ.t {S : Nat → Prop} {A B C : World} (h : KeptZ S A B) (k : KeptZ S B C) : KeptZ S A C := ⟨h.1.t k.1, Nat.le_trans h.2 k.2⟩
theorem KeptZ.b {S : Nat → Prop} {w : World} (hS : ∀ b, S b → b < w.heap.size) (W : World) (l : Nat) (o o' : Obj) (hl : w.heap.size ≤ l) (h1 : W.heap[l]? = some o) (h2 : o.isCells = false) (h3 : o.isWalk = false) : KeptZ S W (W.putObj l o') :=
  ⟨Kept.b hS W l o o' hl h1 h2 h3, by simp⟩
theorem below_grown {W W' : World} (h : Below W.heap.size W W') : W.grownBy W' none := ⟨h.os, h.tape, h.output, h.size, fun i hi _ => h.block i hi⟩

set_option maxRecDepth 100000 in
set_option maxHeartbeats 2000000 in
theorem Of1_told (n : Nat) (hn : 1 ≤ n) (Bo : Nat) (v : Value) (L : List Ev) (S : Nat → Prop) (hSo : S Bo) (w : World) (hBo : Blk w Bo 22 #[v]) (hL : EvsIn S w v L) (hd : ∀ a ∈ L, a.data.length ≤ 1048576) :
    SeqTold Fence.wide n Try.prog 28 #[.pointer (some ⟨Bo, 0, none⟩)] (fun x : Ev => #[x.val]) (Handed w.heap.size) (KeptZ S) (fun xs => pes xs = pes L) L.length w := by
  intro l J W hW hab hY h0
  have hBo' := hBo.below hW hBo.lt
  have hL' : EvsIn S W v L := hL.keep fun b _ hlt => hW.block b hlt
  have hwW := hW.size
  clear hBo hL hW
  obtain ⟨A, c, rfl, -⟩ := hL'.form
  have hmax := hL'.max
  have cl : W.cell? ⟨Bo, 0, none⟩ = some (.slice A L.length c) := hBo'.cell 0
  have HH := Lib.hid (And.intro hBo' (And.intro hL' hwW))
  have HAB := Lib.hid hab
  have HD := Lib.hid hd
  clear hBo' hL' hwW hab hd
  refine callsIn_of_wp Try.func28 rfl trivial ?_ rfl
  simp only [Try.ntmps28, List.size_toArray, List.length_cons, List.length_nil, Nat.reduceAdd, Nat.reduceSub, Array.replicate_succ, Array.replicate_zero, List.push_toArray, List.append_toArray, List.nil_append, List.cons_append]
  gi_wp2
  gi_loopw [7] (fun i wr => ∃ (k : Nat) (pre : List Ev), k ≤ L.length ∧ i = .int .i64 k ∧ J pre wr ∧ Hid (pes pre = (pes L).take k ∧ Blk wr Bo 22 #[.slice A L.length c] ∧ EvsIn S wr (.slice A L.length c) L ∧ w.heap.size ≤ wr.heap.size))
    (fun i _ => L.length - (intOf i).toNat)
  case atStart => exact ⟨0, [], Nat.zero_le _, rfl, h0, rfl, HH.out.1, HH.out.2.1, HH.out.2.2⟩
  case round =>
    obtain ⟨k, pre, hk, rfl, hJs, HR⟩ := hrel
    by_cases hlt : k < L.length
    · obtain ⟨b, o, ⟨d, t, Aa, ca, bs⟩, rfl, ha, hat, hok, -⟩ := HR.out.2.2.1.at hlt
      have c0 := hat.dir
      have c1 := hat.time
      have c2 := hat.data
      have hbm := hok.max
      dsimp only at c0 c1 c2 hbm
      have hbs : bs.length ≤ 1048576 := HD.out _ (List.mem_of_getElem? ha)
      have hpl : pre.length < L.length := by
        have h1 := congrArg List.length HR.out.1
        rw [pes_len, List.length_take, pes_len] at h1
        omega
      have HN : Hid (∀ A5 c5, pes (pre ++ [⟨d, t, A5, c5, bs⟩]) = (pes L).take (k + 1)) := fun A5 c5 => by rw [pes_snoc, HR.out.1, pes_take ha]; rfl
      obtain ⟨O, hO⟩ : ∃ O : Obj, O = .cells #[.int .i64 d, .int .i64 t, .slice Aa bs.length ca] 25 := ⟨_, rfl⟩
      have HC : Hid (Calls Try.prog 26 #[.agg #[.int .i64 d, .int .i64 t, .slice Aa bs.length ca]] (wr.alloc O) fun e w5 => ∃ A5 c5, e = .returned (.agg #[.int .i64 d, .int .i64 t, .slice A5 bs.length c5]) ∧ J pre w5 ∧ Handed w.heap.size ⟨d, t, A5, c5, bs⟩ w5 ∧
          Hid (Blk w5 Bo 22 #[.slice (some ⟨b, o, none⟩) L.length c] ∧ EvsIn S w5 (.slice (some ⟨b, o, none⟩) L.length c) L ∧ w.heap.size ≤ w5.heap.size)) := by
        refine (copied_any d t Aa ca bs (wr.alloc O) (hok.rd.alloc O) hbs).mono ?_
        rintro e w5 ⟨A5, c5, g5, rfl, hr5, hf5, hb5⟩
        have hb6 : Below wr.heap.size wr w5 := ((Below.refl _ wr).alloc (Nat.le_refl _) O).trans (hb5.mono (by simp))
        have hsz := HR.out.2.2.2
        refine ⟨A5, c5, rfl, HAB.out _ _ _ hJs (below_grown hb6), ⟨g5, hr5, fun b e => ?_, hok.byte, hbs⟩, HR.out.2.1.below hb6 HR.out.2.1.lt, HR.out.2.2.1.keep (fun b _ hlt => hb6.block b hlt), Nat.le_trans hsz hb6.size⟩
        have := hf5 b e
        rw [World.size_alloc] at this
        omega
      subst hO
      clear hat hok ha
      gi_wp2_with fail
      refine ⟨trivial, ?_⟩
      refine (callsIn_wide.2 HC.out).mono ?_
      rintro e w5 ⟨A5, c5, rfl, hJ5, hH5, HR5⟩
      clear HC
      obtain ⟨fn, tmps, assign, body, hy, hR⟩ := hY pre ⟨d, t, A5, c5, bs⟩ w5 hJ5 hH5 hpl
      simp only [Ev.val] at hy
      gi_wp2
      refine hR.mono ?_
      rintro e W3 ⟨rfl, hJ3, hk3⟩
      have HR3 : Hid (pes (pre ++ [⟨d, t, A5, c5, bs⟩]) = (pes L).take (k + 1) ∧ Blk W3 Bo 22 #[.slice (some ⟨b, o, none⟩) L.length c] ∧ EvsIn S W3 (.slice (some ⟨b, o, none⟩) L.length c) L ∧ w.heap.size ≤ W3.heap.size) := ⟨HN.out A5 c5, HR5.out.1.keep (hk3.1 _ hSo), HR5.out.2.1.keep fun b hb _ => hk3.1 b hb, Nat.le_trans HR5.out.2.2 hk3.2⟩
      clear hk3
      gi_wp2
      go_roundw
      case rel => exact ⟨k + 1, _, by omega, by simp, hJ3, HR3⟩
      case measure => simp [intOf]; omega
    · obtain rfl : k = L.length := by omega
      gi_wp2
      go_end0
      exact ⟨⟨_, rfl⟩, pre, by rw [HR.out.1, pes_all], hJs⟩

/-- What of leaves. -/
def OfsTo (w : World) (ps : List PE) (e : Ending) (w' : World) : Prop :=
  ∃ A c l, e = .returned (.slice A l.length c) ∧ Evs w' (.slice A l.length c) l ∧ pes l = ps ∧ Below w.heap.size w w'

theorem filt_le {l : List Ev} {ps : List PE} {m : Nat} (h : pes l = ps) (hd : ∀ a ∈ ps, a.data.length ≤ m) : ∀ a ∈ l, a.data.length ≤ m := fun a ha => hd a.pe (by rw [← h]; exact List.mem_map_of_mem ha)

set_option maxRecDepth 100000 in
set_option maxHeartbeats 2000000 in
theorem of_any (dir : Int) (v : Value) (L : List Ev) (w : World) (h : Evs w v L) (hn : L.length ≤ 1048576) (hd : ∀ a ∈ L, a.data.length ≤ 1048576) :
    Calls Try.prog 15 #[.int .i64 dir, v] w (OfsTo w (fil dir (pes L))) := by
  refine (callsIn_wide (n := 3)).1 ?_
  obtain ⟨A, c, rfl, -⟩ := h.form
  have HT := Lib.hid ((callsIn_wide (n := 2)).2 (Of_any dir _ L (w.alloc (.cells #[.slice none 0 0] 22)) (h.alloc _) hn hd))
  have HD : Hid (∀ a ∈ fil dir (pes L), a.data.length ≤ 1048576) := fun a ha => by
    obtain ⟨x, hx, rfl⟩ := List.mem_map.1 (List.mem_filter.1 ha).1
    exact hd x hx
  have HF : Hid ((fil dir (pes L)).length ≤ 1048576) := by
    show _ ≤ _
    have h2 := List.length_filter_le (fun a : PE => decide (a.dir = dir)) (pes L)
    rw [pes_len] at h2
    unfold fil
    omega
  clear h hd
  refine callsIn_of_wp_marks Try.func15 rfl trivial ?_ rfl
  simp only [Try.ntmps15, List.size_toArray, List.length_cons, List.length_nil, Nat.reduceAdd, Nat.reduceSub, Array.replicate_succ, Array.replicate_zero, List.push_toArray, List.append_toArray, List.nil_append, List.cons_append]
  gi_wp2_with fail
  refine ⟨trivial, ?_⟩
  refine HT.out.mono ?_
  rintro e w2 ⟨Bo, vo, lo, rfl, hBo, hEo, hpo, hbel, hle⟩
  rw [World.size_alloc] at hle
  obtain ⟨S, hS⟩ : ∃ S : Nat → Prop, S = fun b => w.heap.size + 1 ≤ b ∧ b < w2.heap.size := ⟨_, rfl⟩
  have hbw : Below w.heap.size w w2 := ((Below.refl _ w).alloc (Nat.le_refl _) _).trans (hbel.mono (by simp))
  have hob : Blk w2 w.heap.size 22 #[.slice none 0 0] := (Blk.new w _ _).below hbel (by simp)
  have hSlt : ∀ b, S b → b < w2.heap.size := by rw [hS]; exact fun b hb => hb.2
  have hnS : ¬ S w.heap.size := by rw [hS]; simp; omega
  have hEv : EvsIn S w2 vo lo := hEo.mono fun b hlt hb => by rw [hS]; exact ⟨by rw [World.size_alloc] at hb; exact hb, hlt⟩
  have hSo : S Bo := by rw [hS]; exact ⟨hle, hBo.lt⟩
  have hdo : ∀ a ∈ lo, a.data.length ≤ 1048576 := filt_le hpo HD.out
  have hlo : lo.length ≤ 1048576 := by have h1 := congrArg List.length hpo; rw [pes_len] at h1; have := HF.out; omega
  have hnS2 : ∀ b, w2.heap.size ≤ b → ¬ S b := by rw [hS]; exact fun b hb h => by have := h.2; omega
  have X := Lib.hid (And.intro hbw (And.intro hob (And.intro hBo (And.intro hSlt (And.intro hnS (And.intro hEv (And.intro hdo (And.intro hpo hnS2))))))))
  have hown : OwnFrom w2.heap.size (fun (pre : List Ev) W => ListI w S (fun _ => False) w.heap.size (pes pre) W) := ListI.own w S _ _ _ _ hbw.size (fun _ h => h.elim)
  clear hbw hob hBo hSlt hnS hEv hS hbel hle hEo hdo hpo HT HD HF hnS2
  gi_wp2_with fail
  refine wpIn_range_told rfl (by omega) (gf := 28) (lb := #[.pointer (some ⟨Bo, 0, none⟩)]) rfl trivial (enters_of Try.func28 (by kernel_rfl) rfl)
    (Of1_told 2 (by omega) Bo vo lo S hSo w2 X.out.2.2.1 X.out.2.2.2.2.2.1 X.out.2.2.2.2.2.2.1) KeptZ.t (KeptZ.b X.out.2.2.2.1) (Below.refl _ _) (fun _ => rfl)
    (fun pre W => ListI w S (fun _ => False) w.heap.size (pes pre) W) hown
    ⟨_, none, [], rfl, X.out.2.1, EL.nil _ _ _, X.out.1, X.out.2.2.2.1⟩
    (fun x a' W => ∃ Be, a' = { tmps := #[.int .i64 dir, .slice A L.length c, undef, undef, .slice none 0 0, .pointer (some ⟨w.heap.size, 0, none⟩), .pointer (some ⟨Be, 0, none⟩), .int .i64 dir, .slice A L.length c, .func (.func 28) #[] #[.pointer (some ⟨Bo, 0, none⟩)], x.val, undef, undef, undef, undef, undef], defers := [] } ∧ Blk W Be 25 #[.int .i64 x.dir, .int .i64 x.time, .slice x.A x.data.length x.c] ∧ Handed w2.heap.size x W)
    ?ax ?assign ?body ?done
  case ax =>
    rintro x a' _ W W' row ⟨Be, ha, hb, g, hr, hx⟩ hg hrow
    exact ⟨Be, ha, hb.keep (cells_kept hg hrow hb), g, hr.keep (fun b e => by obtain ⟨cs, hh⟩ := hr.obj e; exact cells_kept hg hrow hh), hx⟩
  case assign =>
    intro l pre x W K hI hR hK
    have HI := Lib.hid (And.intro hI hR)
    clear hI hR
    simp only [Ev.val] at hK ⊢
    gi_wp2
    refine hK _ _ ((KeepsOthers.alloc _ _).from _) ⟨fun b hb => Below.heap_alloc W _ b (HI.out.1.choose_spec.choose_spec.choose_spec.2.2.2.2 b hb), by simp⟩ (hown.alloc _ HI.out.1) ⟨_, rfl, Blk.new W _ _, ?_⟩
    obtain ⟨g, hr, hx⟩ := HI.out.2
    exact ⟨g, hr.alloc _, hx⟩
  case body =>
    rintro l pre x a' W - - ⟨v1, go, lp, hps, hb, hl, hB, hlt⟩ ⟨Be, rfl, hBe, gx, hrx, hgx, hbx, hnx⟩ hpl
    obtain ⟨A1, c1, rfl, -⟩ := hl.row.form
    have hlp : lp.length ≤ 1048576 := by
      have h1 := congrArg List.length hps
      rw [pes_len, pes_len] at h1
      omega
    have hc : W.cell? ⟨w.heap.size, 0, none⟩ = some (.slice A1 lp.length c1) := hb.cell 0
    have he0 : W.cell? ⟨Be, 0, none⟩ = some (.int .i64 x.dir) := hBe.cell 0
    have he1 : W.cell? ⟨Be, 1, none⟩ = some (.int .i64 x.time) := hBe.cell 1
    have he2 : W.cell? ⟨Be, 2, none⟩ = some (.slice x.A x.data.length x.c) := hBe.cell 2
    have hsz := X.out.1.size
    have hok : EvOk (fun b => False ∨ ((w.heap.size ≤ b ∧ ¬ S b) ∧ ∃ cs, W.heap[b]? = some (.cells cs 5 (0, 0)))) W x :=
      EvOk.ofRow (d := x.dir) (t := x.time) hrx hbx (by omega) fun b e hc => .inr ⟨⟨Nat.le_trans hsz (hgx b e), X.out.2.2.2.2.2.2.2.2 b (hgx b e)⟩, hc⟩
    have Y := Lib.hid (And.intro hb (And.intro hl (And.intro hB (And.intro hlt (And.intro hok hps)))))
    have hne : Hid (go ≠ some w.heap.size) := hl.row.ne_ hb (by decide)
    clear hb hl hB hlt hok hps hBe hrx hgx hbx
    gi_wp2_with (gi_at_builtin; refine wpListIn_append_ev _ rfl _ _ rfl go _ lp.length (evcs lp) rfl (Y.out.2.1.row.alloc _) _ (evc x) rfl (ev_src x) (by omega) ?_; intro A' c' w1 g' hrow' hgr hg'; have hk1 := (Y.out.1.alloc _).keep (hgr.block _ (Y.out.1.alloc _).lt (Ne.symm hne.out)); have hc1 : w1.cell? ⟨w.heap.size, 0, none⟩ = some (.slice A1 lp.length c1) := hk1.cell 0; have hf1 : w1.frozen? ⟨w.heap.size, 0, none⟩ = false := hk1.frozen 0; have Z := Lib.hid (And.intro hrow' (And.intro hgr hg')); clear hrow' hgr hg' hk1)
    obtain ⟨hb, hl, hB, hlt, hok, hps⟩ := Y.out
    obtain ⟨hrow', hgr, hg'⟩ := Z.out
    obtain ⟨h1, h2, h3⟩ := ListI.step (a := x) hb hl hB hlt (fun _ h => h.elim) X.out.2.2.2.2.1 (Nat.le_refl _) (Below.refl _ W) hok rfl hrow' hgr hg'
    exact ⟨h1.from _, ⟨h2, h1.size⟩, by rw [pes_snoc, ← hps]; exact h3⟩
  case done =>
    rintro D ys W hD hys ⟨v1, go, lp, hps, hb, hl, hB, hlt⟩ hK
    obtain ⟨A1, c1, rfl, -⟩ := hl.row.form
    have hlp : lp.length ≤ 9223372036854775807 := by
      have h1 := congrArg List.length hps
      have h2 := congrArg List.length hys
      rw [pes_len, pes_len] at h1 h2
      omega
    have hc : W.cell? ⟨w.heap.size, 0, none⟩ = some (.slice A1 lp.length c1) := hb.cell 0
    have Y := Lib.hid (And.intro hl (And.intro hB (hps.trans (hys.trans X.out.2.2.2.2.2.2.2.1))))
    clear hb hl hB hps hlt hys
    gi_wp2
    refine ⟨by simp, .inl ⟨_, _, rfl, run_takeDeferred hK, ?_⟩⟩
    obtain ⟨hl, hB, hps⟩ := Y.out
    have hsz := X.out.1.size
    have hl' : EL (fun _ => False) (fun b => w.heap.size ≤ b ∧ ¬ S b) (W.putObj D (.deferred none)) go (.slice A1 lp.length c1) lp := hl.keep fun b _ hh => by
      rcases hh with hh | ⟨_, cs, t, _, hc⟩
      · exact hh.elim
      · exact World.putObj_heap_other (fun e' => by subst e'; rw [hc] at hK; cases hK)
    exact ⟨_, results_tmp rfl _ _ _, A1, c1, lp, rfl, hl'.evsIn hlp (fun _ h => h.elim) (fun _ _ => trivial), hps, hB.trans (belowK_b (w := w) (Nat.le_refl _) W D _ _ (by omega) hK rfl rfl)⟩
end Go.Proofs.Ytakcoplpmhgoiaa
