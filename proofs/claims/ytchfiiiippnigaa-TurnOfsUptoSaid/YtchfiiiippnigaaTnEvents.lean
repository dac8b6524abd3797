/-
  turn.Events: an event of each turn's Out and In that has bytes, in memory of its own.
  Conditions: at most 1048576 turns, 4194304 bytes.
-/
import Derived.Test.YtchfiiiippnigaaTnOf
import Derived.Test.YtchfiiiippnigaaTnCount
namespace Go.Proofs.Ytchfiiiippnigaa
open Go.RowKit

/-- What said leaves. -/
def SaidTo (w0 W : World) (g0 : Option Nat) (l : List Ev) (dir : Int) (d : List Nat) (e : Ending) (w' : World) : Prop :=
  ∃ A c g l', e = .returned (.slice A (List.length l') c) ∧ EL (fun _ => False) (fun b => w0.heap.size ≤ b) w' g (.slice A (List.length l') c) l' ∧ pes l' = pes l ++ (if d = [] then [] else [⟨dir, 0, d⟩]) ∧ Below w0.heap.size w0 w' ∧ ∀ b, b < W.heap.size → g0 ≠ some b → w'.heap[b]? = W.heap[b]?

set_option maxRecDepth 100000 in
theorem said_is (w0 W : World) (g : Option Nat) (B : Option Addr) (cB : Nat) (l : List Ev) (dir : Int) (A : Option Addr) (c : Nat) (d : List Nat) (h : EL (fun _ => False) (fun b => w0.heap.size ≤ b) W g (.slice B l.length cB) l) (hb : Below w0.heap.size w0 W)
    (hr : Rd W (.slice A d.length c) (bv d)) (hd : ∀ x ∈ d, x < 256) (hn : d.length ≤ 4194304) (hl : l.length ≤ 8388608) :
    Calls Try.prog 27 #[.slice B l.length cB, .int .i64 dir, .slice A d.length c] W (SaidTo w0 W g l dir d) := by
  have H := Lib.hid (And.intro h (And.intro hb (And.intro hr hd)))
  clear h hb hr hd
  go_enter Try.func27, Try.ntmps27
  by_cases h0 : d = []
  · subst h0
    go_wp2_with fail
    go_ret
    exact ⟨B, cB, g, l, rfl, H.out.1, by simp, H.out.2.1, fun _ _ _ => rfl⟩
  · have hp : 0 < d.length := List.length_pos_iff.2 h0
    have q0 : ((d.length : Int) == 0) = false := by simp; omega
    have q1 : decide (d.length = 0) = false := by simp; omega
    have q2 : (d.length == 0) = false := by simp; omega
    have H0 := Lib.hid h0
    clear h0
    go_wp2_with fail
    refine (Clone_any A d.length c d _ H.out.2.2.1 hn).mono ?_
    rintro e w1 ⟨A1, c1, g1, rfl, hrow, hfr, hbel⟩
    have HX : Hid (EvOk (fun b => False ∨ (w0.heap.size ≤ b ∧ ∃ cs, w1.heap[b]? = some (.cells cs 5 (0, 0)))) w1 ⟨dir, 0, A1, c1, d⟩ ∧ EL (fun _ => False) (fun b => w0.heap.size ≤ b) w1 g (.slice B l.length cB) l ∧ Below w0.heap.size w0 w1 ∧ Below W.heap.size W w1) :=
      Lib.hid ⟨EvOk.ofRow hrow H.out.2.2.2 (by omega) fun b e hc => .inr ⟨Nat.le_trans H.out.2.1.size (hfr b e), hc⟩, H.out.1.below hbel, H.out.2.1.trans (hbel.mono H.out.2.1.size), hbel⟩
    clear hrow hfr hbel
    go_wp2_with (at_builtin; refine wpList_append_ev _ rfl (.tmp 11) (.tmp 16) rfl g _ l.length (evcs l) rfl (HX.out.2.1.row.alloc _) _ (evc ⟨dir, 0, A1, c1, d⟩) rfl (ev_src ⟨dir, 0, A1, c1, d⟩) (by omega) ?_; intro B' d' w7 gn hrow' hgr hgn; have Y := Lib.hid (And.intro hrow' (And.intro hgr hgn)); clear hrow' hgr hgn)
    go_ret
    obtain ⟨hok, hel, hbw, hbW⟩ := HX.out
    obtain ⟨hrow', hgr, hgn⟩ := Y.out
    have hbe : Below w1.heap.size w1 (w1.alloc (.cells #[.int .i64 dir, .int .i64 0, .slice A1 d.length c1] 44)) := (Below.refl _ w1).alloc (Nat.le_refl _) _
    have h1 := EL.snoc (hel.alloc _) (a := ⟨dir, 0, A1, c1, d⟩) (hok.tkeep fun b _ hlt => hbe.block b hlt) hrow' hgr hgn ⟨by have := hbw.size; simp; omega, fun h => h⟩
    refine ⟨B', d', gn, l ++ [⟨dir, 0, A1, c1, d⟩], by simp, by simpa using h1, by rw [pes_snoc, if_neg H0.out]; rfl, ?_, fun b hlt hne => ?_⟩
    · exact (hbw.alloc hbw.size _).grown hgr (by have := hbw.size; simp; omega) (fun b e => (hel.fresh b e).1)
    · have hlt1 : b < w1.heap.size := Nat.lt_of_lt_of_le hlt hbW.size
      exact (hgr.block b (by simp; omega) (fun e => hne e.symm)).trans ((Below.heap_alloc w1 _ b hlt1).trans (hbW.block b hlt))

/-- A list of events that grows, read. -/
def EVi (w : World) (v : Value) (l : List Ev) (W : World) : Prop := ∃ g, EL (fun _ => False) (fun b => w.heap.size ≤ b) W g v l ∧ Below w.heap.size w W
set_option maxRecDepth 100000 in
set_option maxHeartbeats 2000000 in
theorem Events_is (t : List Tn) (v : Value) (w : World) (h : Tns w v t) (hby : TnBytes t) (hl : t.length ≤ 1048576) (hw : (inns t).length + (outs t).length ≤ 4194304) :
    Calls Try.prog 15 #[v] w (EvtTo w (tevs t)) := by
  obtain ⟨A, c, rfl, -⟩ := h.form
  have H : Hid (TnsIn (fun b => b < w.heap.size) w (.slice A t.length c) t) := Lib.hid h.old
  have HB := Lib.hid hby
  have HL : Hid (∀ k, (tevs (t.take k)).length ≤ 2097152) := Lib.hid fun k => by have := tevs_len (t.take k); have := List.length_take_le' k t; omega
  clear h hby
  go_enter Try.func15, Try.ntmps15
  go_wp2_with fail
  go_loopw [3, 8] (fun v j wr => ∃ (k : Nat) (B : Option Addr) (d : Nat) (l : List Ev), k ≤ t.length ∧ j = .int .i64 k ∧ v = .slice B l.length d ∧ Hid (pes l = tevs (t.take k) ∧ EVi w (.slice B l.length d) l wr)) (fun _ j _ => t.length - (intOf j).toNat)
  case atStart => exact ⟨0, none, 0, [], by omega, rfl, rfl, Lib.hid ⟨rfl, none, EL.nil _ _ _, Below.refl _ _⟩⟩
  case round =>
    obtain ⟨k, B, d, l, hk, rfl, rfl, HE⟩ := hrel
    by_cases hlt : k < t.length
    · obtain ⟨g, hel, hbel⟩ := HE.out.2
      have hll : l.length ≤ 2097152 := by have := HL.out k; rw [← HE.out.1, pes_len] at this; exact this
      obtain ⟨b1, o1, A1, c1, A2, c2, rfl, hb1, z1, z2, r1w, r2w⟩ := H.out.at_ hlt
      have y1 := (hbel.cell (p := ⟨b1, o1 + k * 2, none⟩) hb1).trans z1
      have y2 := (hbel.cell (p := ⟨b1, o1 + k * 2 + 1, none⟩) hb1).trans z2
      have r1 := r1w.still (w' := wr) ⟨hbel.size, fun b hb _ => hbel.block b hb⟩
      have r2 := r2w.still (w' := wr) ⟨hbel.size, fun b hb _ => hbel.block b hb⟩
      clear z1 z2
      have HT := Lib.hid (tevs_take hlt)
      have hbt := HB.out _ (List.getElem_mem hlt)
      have hlo := outs_mem (List.getElem_mem hlt)
      have hli := inns_mem (List.getElem_mem hlt)
      generalize t[k] = x at *
      obtain ⟨xo, xi⟩ := x
      dsimp only at *
      have X := Lib.hid (And.intro hel (And.intro hbel (And.intro r1.1 (And.intro r2.1 hbt))))
      have hxo : xo.length ≤ 4194304 := by omega
      have hxi : xi.length ≤ 4194304 := by omega
      have HRB : Hid (∀ W, Below w.heap.size w W → Rd W (.slice A2 xi.length c2) (bv xi)) := Lib.hid fun W hW => (r2w.still ⟨hW.size, fun b hb _ => hW.block b hb⟩).1
      clear r1 r2 r1w r2w hbt hel hbel hb1 hlo hli
      go_wp2_with fail
      refine (said_is w _ g B d l 0 A1 c1 xo (X.out.1.alloc _) (X.out.2.1.alloc X.out.2.1.size _) (X.out.2.2.1.alloc _) X.out.2.2.2.2.1 hxo (by omega)).mono ?_
      rintro e w1 ⟨B1, d1, g1, l1, rfl, hel1, hp1, hbel1, hk1⟩
      have hbox0 : Blk (wr.alloc (.cells #[.slice A1 xo.length c1, .slice A2 xi.length c2] 33)) wr.heap.size 33 #[.slice A1 xo.length c1, .slice A2 xi.length c2] := Blk.new wr _ _
      have hbox := hbox0.keep (hk1 _ (by simp) ((X.out.1.alloc _).row.ne_ hbox0 (by decide)))
      have x1 : w1.cell? ⟨wr.heap.size, 1, none⟩ = some (.slice A2 xi.length c2) := hbox.cell 1
      have hll1 : l1.length ≤ 2097153 := by
        have h1 := congrArg List.length hp1
        rw [pes_len, List.length_append, pes_len] at h1
        split at h1 <;> simp at h1 <;> omega
      have HI := Lib.hid ((H.out.below hbel1).at_ hlt)
      have Y := Lib.hid (And.intro hel1 (And.intro hbel1 hp1))
      have HR2 : Hid (Rd w1 (.slice A2 xi.length c2) (bv xi)) := Lib.hid (HRB.out _ hbel1)
      clear hel1 hp1 hbel1 hk1 hbox hbox0 HI
      go_wp2_with fail
      refine (said_is w _ g1 B1 d1 l1 1 A2 c2 xi Y.out.1 Y.out.2.1 HR2.out X.out.2.2.2.2.2 hxi (by omega)).mono ?_
      rintro e w2 ⟨B2, d2, g2, l2, rfl, hel2, hp2, hbel2, -⟩
      have Z : Hid (pes l2 = tevs (t.take (k + 1)) ∧ EVi w (.slice B2 l2.length d2) l2 w2) := Lib.hid ⟨by rw [hp2, Y.out.2.2, HT.out, HE.out.1, tevs1, List.append_assoc], g2, hel2, hbel2⟩
      clear hel2 hp2 hbel2
      go_wp2_with fail
      go_roundw
      case rel => exact ⟨k + 1, B2, d2, l2, by omega, by go_num, rfl, Z⟩
      case measure => simp [intOf]; omega
    · obtain rfl : k = t.length := by omega
      rw [List.take_length] at HE
      go_wp2_with fail
      go_ret
      obtain ⟨hp, g, hel, hbel⟩ := HE.out
      exact ⟨B, d, l, rfl, hel.evsIn (by have := HL.out t.length; rw [List.take_length, ← hp, pes_len] at this; omega) (fun _ _ => trivial) (fun _ _ => trivial), hp, hbel⟩
end Go.Proofs.Ytchfiiiippnigaa
