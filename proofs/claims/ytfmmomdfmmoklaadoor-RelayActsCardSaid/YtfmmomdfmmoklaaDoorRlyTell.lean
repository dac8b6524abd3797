/-
  The contract of the relay's Transcript: the events and the end, in memory of its own.
  Conditions: none but that the relay was made by New, or is nil.
-/
import Derived.Test.YtfmmomdfmmoklaaDoorRly
import Derived.Test.YtfmmomdfmmoklaaDoorAppRun
import Derived.Deep.DeepCutAuto
import Derived.Deep.CutBlock
namespace Go.Proofs.YtfmmomdfmmoklaaDoor
open Go.RowKit

theorem EL.keep2 {T : Nat → Prop} {W W' : World} {g : Option Nat} {v : Value} {l : List Ev} (h : EL (fun _ => False) T W g v l) (hk : ∀ b, b < W.heap.size → T b → (∃ cs, W.heap[b]? = some (.cells cs 5 (0, 0))) → W'.heap[b]? = W.heap[b]?) (hg : ∀ b, g = some b → W'.heap[b]? = W.heap[b]?) : EL (fun _ => False) T W' g v l :=
  ⟨h.row.keep hg, h.fresh, fun a ha => EvOk.tkeep (D := fun _ => False) (T := T) (h.ok a ha) fun b hb hlt => hb.elim (fun e => e.elim) fun k => hk b hlt k.1 k.2⟩

/-- What Transcript leaves. -/
def Told (w : World) (x : Sys) (e : Ending) (w' : World) : Prop := ∃ A c g l, e = .returned (.agg #[.slice A (List.length l) c, .bool (x.ov 0)]) ∧ EL (fun _ => False) (fun b => w.heap.size ≤ b) w' g (.slice A l.length c) l ∧ pes l = x.ev ∧ Below w.heap.size w w'

theorem Tell_nil (w : World) : Calls Tryd.prog 19 #[.pointer none] w fun e w' => e = .returned (.agg #[.slice none 0 0, .bool false]) ∧ Below w.heap.size w w' := by
  go_enter Tryd.func19, Tryd.ntmps19
  go_wp2_with fail
  exact bodyPost_ret (v := .agg #[.slice none 0 0, .bool false]) (by simp [results, Tryd.results19, go_sem]) rfl ⟨rfl, (Below.refl _ w).alloc (Nat.le_refl _) _⟩

section
variable {L : Nat → Nat} {r : Nat} {x : Sys} {F : Nat → Prop} {w : World}

/-- Behind k rounds. -/
structure TellAt (w wr : World) (s2 s3 : Nat) (ov : Bool) (v : Value) (g : Option Nat) (l : List Ev) : Prop where
  res : Blk wr s2 56 #[.slice none 0 0, .bool false]
  it : Blk wr s3 56 #[v, .bool ov]
  el : EL (fun _ => False) (fun b => w.heap.size ≤ b) wr g v l
  b2 : w.heap.size ≤ s2
  b3 : w.heap.size ≤ s3
  ne_ : s2 ≠ s3
  below : Below w.heap.size w wr

theorem TellAt.keep {w wr wn : World} {s2 s3 : Nat} {ov : Bool} {v : Value} {g : Option Nat} {l : List Ev} (h : TellAt w wr s2 s3 ov v g l) (hb : Below wr.heap.size wr wn) : TellAt w wn s2 s3 ov v g l :=
  ⟨h.res.below hb h.res.lt, h.it.below hb h.it.lt, h.el.below hb, h.b2, h.b3, h.ne_, h.below.trans (hb.mono h.below.size)⟩
/-- A store into another block. -/
theorem TellAt.far {w wr : World} {s2 s3 b : Nat} {ov : Bool} {v : Value} {g : Option Nat} {l : List Ev} (h : TellAt w wr s2 s3 ov v g l) (h2 : s2 ≠ b) (h3 : s3 ≠ b) (hg : g ≠ some b) (hb : w.heap.size ≤ b) (hn : ∀ cs, wr.heap[b]? ≠ some (.cells cs 5 (0, 0))) (i : Nat) (u : Value) : TellAt w (wr.setCell ⟨b, i, none⟩ u) s2 s3 ov v g l :=
  ⟨h.res.far (p := ⟨b, i, none⟩) h2 u, h.it.far (p := ⟨b, i, none⟩) h3 u, h.el.keep2 (fun c _ _ ⟨cs, hc⟩ => Below.heap_setCell wr ⟨b, i, none⟩ u c (fun e => hn cs ((show c = b from e) ▸ hc))) (fun c e => Below.heap_setCell wr ⟨b, i, none⟩ u c (fun e2 => hg (by rw [e]; exact congrArg some e2))), h.b2, h.b3, h.ne_, h.below.setCell (p := ⟨b, i, none⟩) hb u⟩

/-- One event more. -/
theorem TellAt.next {w w3 w7 : World} {s2 s3 k dd : Nat} {ov : Bool} {B A9 A' : Option Addr} {c9 c' : Nat} {g g9 g' : Option Nat} {l : List Ev} {d t : Int} {bs : List Nat} (h : TellAt w w3 s2 s3 ov (.slice B k dd) g l) (hk : l.length = k) (hr : Row w3 5 g9 (.slice A9 bs.length c9) (bv bs)) (hg9 : ∀ b, g9 = some b → w.heap.size ≤ b) (hby : ∀ b ∈ bs, b < 256) (hn : bs.length ≤ 65536)
    (hrow : RowS w7 69 3 g' (.slice A' (k + 1) c') (k + 1) (evcs l ++ evc ⟨d, t, A9, c9, bs⟩)) (hgr : (w3.alloc (.cells #[.int .i64 d, .int .i64 t, .slice A9 bs.length c9] 69)).grownBy w7 g) (hg' : g' = g ∨ g' = some (w3.alloc (.cells #[.int .i64 d, .int .i64 t, .slice A9 bs.length c9] 69)).heap.size) :
    TellAt w (w7.setCell ⟨s3, 0, none⟩ (.slice A' (k + 1) c')) s2 s3 ov (.slice A' (k + 1) c') g' (l ++ [⟨d, t, A9, c9, bs⟩]) := by
  subst hk
  have h0 := h.below.size
  have e1 := h.el.alloc (.cells #[.int .i64 d, .int .i64 t, .slice A9 bs.length c9] 69)
  have ha : EvOk (fun b => (fun _ => False) b ∨ (w.heap.size ≤ b ∧ ∃ cs, (w3.alloc (.cells #[.int .i64 d, .int .i64 t, .slice A9 bs.length c9] 69)).heap[b]? = some (.cells cs 5 (0, 0)))) (w3.alloc (.cells #[.int .i64 d, .int .i64 t, .slice A9 bs.length c9] 69)) ⟨d, t, A9, c9, bs⟩ :=
    EvOk.ofRow (hr.alloc _) hby (by omega) fun b e hc => .inr ⟨hg9 b e, hc⟩
  have e2 : EL (fun _ => False) (fun b => w.heap.size ≤ b) w7 g' (.slice A' (l.length + 1) c') (l ++ [⟨d, t, A9, c9, bs⟩]) := EL.snoc e1 ha hrow hgr hg' ⟨by simp; omega, id⟩
  have z2 := (h.res.alloc (.cells #[.int .i64 d, .int .i64 t, .slice A9 bs.length c9] 69))
  have z2' := z2.keep (hgr.block s2 z2.lt (fun e => h.el.row.ne_ h.res (by decide) e.symm))
  have z3 := (h.it.alloc (.cells #[.int .i64 d, .int .i64 t, .slice A9 bs.length c9] 69))
  have z3' := z3.keep (hgr.block s3 z3.lt (fun e => h.el.row.ne_ h.it (by decide) e.symm))
  have b7 : Below w.heap.size w w7 := (h.below.alloc h0 _).grown hgr (by simp; omega) (fun b e => (h.el.fresh b e).1)
  refine ⟨z2'.far (p := ⟨s3, 0, none⟩) h.ne_ _, ?_, e2.farR z3' (by decide) (by decide) fun b _ hne => Below.heap_setCell w7 _ _ b hne, h.b2, h.b3, h.ne_, b7.setCell (p := ⟨s3, 0, none⟩) h.b3 _⟩
  have := z3'.set_ 0 (.slice A' (l.length + 1) c')
  simp only [List.setIfInBounds_toArray, List.set_cons_zero] at this
  exact this

set_option maxHeartbeats 2000000 in
set_option maxRecDepth 100000 in
theorem Tell_at (h : Rly L r x F w) (hx : x.Ok) : Calls Tryd.prog 19 #[.pointer (some ⟨r, 0, none⟩)] w (Told w x) := by
  obtain ⟨A, c, q, g0, v0, l0, hr⟩ := h
  have hev : Evs w v0 l0 := (hr.el.evsIn (S := fun _ => True) (by have := hx.len; rw [← hr.pe, pes_len] at this; omega) (fun _ _ => trivial) (fun _ _ => trivial))
  obtain ⟨A0, c0, rfl, -⟩ := hr.el.row.form
  have h5 : w.cell? ⟨r, 5, none⟩ = some (.bool (x.ov 0)) := hr.blk.cell 5
  have h13 : w.cell? ⟨r, 13, none⟩ = some (.slice A0 l0.length c0) := hr.blk.cell 13
  have hlt := hr.blk.lt
  have hl0 : l0.length ≤ 4096 := by have := hx.len; rw [← hr.pe, pes_len] at this; exact this
  obtain ⟨ov, hov⟩ : ∃ ov, x.ov 0 = ov := ⟨_, rfl⟩
  rw [hov] at h5
  have HL := Lib.hid (And.intro hev (And.intro hr.pe (And.intro hx hov)))
  clear hr hev hx hov
  go_enter Tryd.func19, Tryd.ntmps19
  go_upto_region 4 with (fail)
  obtain ⟨s2, hs2⟩ : ∃ s2, w.heap.size = s2 := ⟨_, rfl⟩
  obtain ⟨s3, hs3⟩ : ∃ s3, s2 + 1 = s3 := ⟨_, rfl⟩
  generalize hW : (w.alloc (.cells #[.slice none 0 0, .bool false] 56)).alloc (.cells #[.slice none 0 0, .bool ov] 56) = w4
  have hT : TellAt w w4 s2 s3 ov (.slice none 0 0) none [] := by
    have hb : Below w.heap.size w w4 := by rw [← hW]; exact ((Below.refl _ w).alloc (Nat.le_refl _) _).alloc (by simp) _
    refine ⟨?_, ?_, EL.nil .., by omega, by omega, by omega, hb⟩
    · rw [← hW, ← hs2]; exact (Blk.new w _ _).alloc _
    · rw [← hW, ← hs3, ← hs2]
      have := Blk.new (w.alloc (.cells #[.slice none 0 0, .bool false] 56)) 56 #[.slice none 0 0, .bool ov]
      rwa [World.size_alloc] at this
  have h13' : w4.cell? ⟨r, 13, none⟩ = some (.slice A0 l0.length c0) := (hT.below.cell (p := ⟨r, 13, none⟩) hlt).trans h13
  rw [hs2, hs3]
  have H4 := Lib.hid hT
  clear hT hW hs2 hs3 h5 h13 hlt
  go_wp2_with fail
  go_loopw [21] (fun i wr => ∃ (k : Nat) (B : Option Addr) (d : Nat) (g : Option Nat) (l : List Ev), k ≤ l0.length ∧ i = .int .i64 k ∧ Hid (TellAt w wr s2 s3 ov (.slice B k d) g l ∧ pes l = (pes l0).take k ∧ l.length = k)) (fun i _ => l0.length - (intOf i).toNat)
  case atStart => exact ⟨0, none, 0, none, [], Nat.zero_le _, rfl, H4.out, rfl, rfl⟩
  case round =>
    obtain ⟨k, B, dd, g, l, hk, rfl, HW⟩ := hrel
    by_cases hlt : k < l0.length
    · obtain ⟨b, o, d, t, Aa, ca, bs, rfl, ha, c0', c1, c2, hbm, hok⟩ := HL.out.1.seeAt HW.out.1.below hlt
      have hbs : bs.length ≤ 65536 := by
        have := HL.out.2.2.1.eless ⟨d, t, bs⟩ (by rw [← HL.out.2.1]; exact List.mem_map_of_mem (List.mem_of_getElem? ha))
        exact this
      have HN : Hid ((pes l0).take (k + 1) = (pes l0).take k ++ [⟨d, t, bs⟩]) := by show _ = _; rw [pes_take ha]; rfl
      have HK := Lib.hid hok
      clear ha hok
      go_upto_region 7 with (fail)
      obtain ⟨Be, hBe⟩ : ∃ Be, wr.heap.size = Be := ⟨_, rfl⟩
      generalize hW1 : wr.alloc (.cells #[.int .i64 d, .int .i64 t, .slice Aa bs.length ca] 69) = W1
      rw [hBe]
      have hbx : Blk W1 Be 69 #[.int .i64 d, .int .i64 t, .slice Aa bs.length ca] := by rw [← hW1, ← hBe]; exact Blk.new wr _ _
      have hwW : Below wr.heap.size wr W1 := by rw [← hW1]; exact (Below.refl _ wr).alloc (Nat.le_refl _) _
      have hT1 := HW.out.1.keep hwW
      have hB3 : s3 ≠ Be := by have := HW.out.1.it.lt; omega
      have hB2 : s2 ≠ Be := by have := HW.out.1.res.lt; omega
      have hBg : g ≠ some Be := fun e => by have := HW.out.1.el.row.lt e; omega
      have hBw : w.heap.size ≤ Be := by have := HW.out.1.below.size; omega
      have hok1 := HK.out.below hwW
      have x2 : W1.cell? ⟨Be, 2, none⟩ = some (.slice Aa bs.length ca) := hbx.cell 2
      have H1 := Lib.hid (And.intro hbx (And.intro hT1 hok1.rd))
      clear hbx hwW hT1 hok1 hW1 hBe c0' c1 c2
      go_wp2_with fail
      refine (Clone_any Aa bs.length ca bs W1 H1.out.2.2 (by omega)).mono ?_
      rintro e w2 ⟨A9, c9, g9, rfl, hr9, hg9, hb9⟩
      have hbx2 := H1.out.1.below hb9 H1.out.1.lt
      have hT2 := H1.out.2.1.keep hb9
      have j2 : w2.cell? ⟨Be, 2, none⟩ = some (.slice Aa bs.length ca) := hbx2.cell 2
      have jf : w2.frozen? ⟨Be, 2, none⟩ = false := hbx2.frozen 2
      have hBl : Be < W1.heap.size := H1.out.1.lt
      have H2 := Lib.hid (And.intro hbx2 (And.intro hT2 (And.intro hr9 hg9)))
      clear hbx2 hT2 hr9 hg9 hb9 x2
      go_upto_region 8 with (fail)
      generalize hW3 : World.setCell w2 _ _ = w3
      have hbx3 : Blk w3 Be 69 #[.int .i64 d, .int .i64 t, .slice A9 bs.length c9] := by
        rw [← hW3]
        have := H2.out.1.set_ 2 (.slice A9 bs.length c9)
        simp only [List.setIfInBounds_toArray, List.set_cons_zero, List.set_cons_succ] at this
        exact this
      have hT3 : TellAt w w3 s2 s3 ov (.slice B k dd) g l := by rw [← hW3]; exact H2.out.2.1.far hB2 hB3 hBg hBw (by intro cs h; exact byte_ne h H2.out.1 (by decide) rfl) 2 _
      have hr3 : Row w3 5 g9 (.slice A9 bs.length c9) (bv bs) := by rw [← hW3]; exact H2.out.2.2.1.far (p := ⟨Be, 2, none⟩) (H2.out.2.2.1.ne_ H2.out.1 (by decide)) _
      have y0 : w3.cell? ⟨Be, 0, none⟩ = some (.int .i64 d) := hbx3.cell 0
      have y1 : w3.cell? ⟨Be, 1, none⟩ = some (.int .i64 t) := hbx3.cell 1
      have y2 : w3.cell? ⟨Be, 2, none⟩ = some (.slice A9 bs.length c9) := hbx3.cell 2
      have y3 : w3.cell? ⟨s3, 0, none⟩ = some (.slice B k dd) := hT3.it.cell 0
      have hg9' : ∀ b, g9 = some b → w.heap.size ≤ b := fun b e => by have := H2.out.2.2.2 b e; omega
      have H3 := Lib.hid (And.intro hT3 (And.intro hr3 hg9'))
      clear hbx3 hT3 hr3 hg9' hW3 j2 jf
      go_wp2_with (at_builtin; refine wpList_append_ev _ rfl (.tmp 30) (.tmp 32) rfl g _ k (evcs l) rfl (by have h1 := H3.out.1.el.row.alloc (.cells #[.int .i64 d, .int .i64 t, .slice A9 bs.length c9] 69); rw [HW.out.2.2] at h1; exact h1) _ (evc ⟨d, t, A9, c9, bs⟩) rfl (ev_src ⟨d, t, A9, c9, bs⟩) (by omega) ?_; intro A' c' w7 g' hrow' hgr hg'; have z3 := H3.out.1.it.alloc (.cells #[.int .i64 d, .int .i64 t, .slice A9 bs.length c9] 69); have z4 := z3.keep (hgr.block s3 z3.lt (fun e => H3.out.1.el.row.ne_ H3.out.1.it (by decide) e.symm)); have z5 : w7.cell? ⟨s3, 0, none⟩ = some (.slice B k dd) := z4.cell 0; have z6 : w7.frozen? ⟨s3, 0, none⟩ = false := z4.frozen 0; have Y := Lib.hid (And.intro hrow' (And.intro hgr (And.intro hg' z4))); clear hrow' hgr hg' z3 z4)
      go_roundw
      case rel =>
        refine ⟨k + 1, A', c', g', l ++ [⟨d, t, A9, c9, bs⟩], by omega, by go_num, H3.out.1.next HW.out.2.2 H3.out.2.1 H3.out.2.2 HK.out.byte hbs Y.out.1 Y.out.2.1 Y.out.2.2.1, ?_, by simp [HW.out.2.2]⟩
        rw [pes_snoc, HW.out.2.1, HN.out]; rfl
      case measure => simp [intOf]; omega
    · obtain rfl : k = l0.length := by omega
      have y2 : wr.cell? ⟨s3, 0, none⟩ = some (.slice B l0.length dd) := HW.out.1.it.cell 0
      have y3 : wr.cell? ⟨s3, 1, none⟩ = some (.bool ov) := HW.out.1.it.cell 1
      have z2 : wr.cell? ⟨s2, 0, none⟩ = some (.slice none 0 0) := HW.out.1.res.cell 0
      have z3 : wr.cell? ⟨s2, 1, none⟩ = some (.bool false) := HW.out.1.res.cell 1
      have f2 : wr.frozen? ⟨s2, 0, none⟩ = false := HW.out.1.res.frozen 0
      have f3 : wr.frozen? ⟨s2, 1, none⟩ = false := HW.out.1.res.frozen 1
      have hne := HW.out.1.ne_
      go_wp2_with fail
      have hb := (HW.out.1.res.set_ 0 (.slice B l0.length dd)).set_ 1 (.bool ov)
      have r0 : ((wr.setCell ⟨s2, 0, none⟩ (.slice B l0.length dd)).setCell ⟨s2, 1, none⟩ (.bool ov)).cell? ⟨s2, 0, none⟩ = some (.slice B l0.length dd) := hb.cell 0
      have r1 : ((wr.setCell ⟨s2, 0, none⟩ (.slice B l0.length dd)).setCell ⟨s2, 1, none⟩ (.bool ov)).cell? ⟨s2, 1, none⟩ = some (.bool ov) := hb.cell 1
      refine bodyPost_ret (v := .agg #[.slice B l0.length dd, .bool ov]) (by simp [results, Tryd.results19, go_sem, r0, r1]) rfl ⟨B, dd, g, l, ?_, ?_, ?_, ?_⟩
      · rw [HL.out.2.2.2, HW.out.2.2]
      · rw [HW.out.2.2]
        have c1 := HW.out.1.res.set_ 0 (.slice B l0.length dd)
        exact (HW.out.1.el.farR HW.out.1.res (by decide) (by decide) fun b _ hne => Below.heap_setCell wr _ _ b hne).farR c1 (by decide) (by decide) fun b _ hne => Below.heap_setCell _ _ _ b hne
      · rw [HW.out.2.1, pes_all]; exact HL.out.2.1
      · exact (HW.out.1.below.setCell (p := ⟨s2, 0, none⟩) HW.out.1.b2 _).setCell (p := ⟨s2, 1, none⟩) HW.out.1.b2 _
end
end Go.Proofs.YtfmmomdfmmoklaaDoor
