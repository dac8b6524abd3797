/-
  cuecardref10.Events: an event of each turn's Out and In that has bytes.
  Conditions: at most 1048576 turns.
-/
import Derived.Test.YtchfiiiippnigaaTnRef
import Derived.Test.YtchfiiiippnigaaEvMem
namespace Go.Proofs.Ytchfiiiippnigaa
open Go.RowKit

/-- What hands out events. -/
def EvtTo (w : World) (ps : List PE) (e : Ending) (w' : World) : Prop :=
  ∃ A c l, e = .returned (.slice A (List.length l) c) ∧ Evs w' (.slice A (List.length l) c) l ∧ pes l = ps ∧ Below w.heap.size w w'

theorem tevs_take {t : List Tn} {k : Nat} (hk : k < t.length) : tevs (t.take (k + 1)) = tevs (t.take k) ++ tevs1 t[k] := by
  rw [List.take_succ_eq_append_getElem hk, tevs_append, tevs_one]
theorem tevs_len (t : List Tn) : (tevs t).length ≤ t.length * 2 := by
  induction t with
  | nil => simp [tevs]
  | cons b t ih =>
    rw [tevs_cons, List.length_append, List.length_cons]
    have : (tevs1 b).length ≤ 2 := by unfold tevs1; split <;> split <;> simp
    omega

theorem outs_mem {t : List Tn} {x : Tn} (h : x ∈ t) : x.out.length ≤ (outs t).length := by
  obtain ⟨p, q, rfl⟩ := List.append_of_mem h
  rw [outs_append, show x :: q = [x] ++ q from rfl, outs_append, outs_one, List.length_append, List.length_append]
  omega
theorem inns_mem {t : List Tn} {x : Tn} (h : x ∈ t) : x.inn.length ≤ (inns t).length := by
  obtain ⟨p, q, rfl⟩ := List.append_of_mem h
  rw [inns_append, show x :: q = [x] ++ q from rfl, inns_append, inns_one, List.length_append, List.length_append]
  omega
theorem EvOk.ofRdT {S : Nat → Prop} {W : World} {d t : Int} {A : Option Addr} {c : Nat} {bs : List Nat} (h : RdT S W (.slice A bs.length c) (bv bs)) (hb : ∀ b ∈ bs, b < 256) (hm : bs.length ≤ 9223372036854775807) : EvOk S W ⟨d, t, A, c, bs⟩ := by
  refine ⟨h.1, hm, hb, fun hp p e => ?_⟩
  obtain ⟨A', c', e1, _, _, hr⟩ := h.1
  injection e1 with e2 e3 e4
  have hp' : 0 < (bv bs).length := by rw [bv_len]; exact hp
  obtain ⟨b, o, e5, _⟩ := hr hp'
  dsimp only at e
  rw [e] at e2
  rw [e5] at e2
  injection e2 with e2
  subst e2
  exact h.2 b o _ _ (by rw [e]) hp'
/-- Events that are gathered: their bytes lay ahead of the call. -/
def ELi (w : World) (v : Value) (l : List Ev) (W : World) : Prop := ∃ g, EL (fun b => b < w.heap.size) (fun b => w.heap.size ≤ b) W g v l ∧ Below w.heap.size w W
theorem ELi.step {w W w7 : World} {A' : Option Addr} {c' : Nat} {g gn : Option Nat} {v : Value} {l : List Ev} {a : Ev} (h : EL (fun b => b < w.heap.size) (fun b => w.heap.size ≤ b) W g v l) (hb : Below w.heap.size w W)
    (ha : EvOk (fun b => b < w.heap.size) W a) (hr : RowS w7 44 3 gn (.slice A' (l.length + 1) c') (l.length + 1) (evcs l ++ evc a)) (hg : (W.alloc (.cells #[.int .i64 a.dir, .int .i64 a.time, .slice a.A a.data.length a.c] 44)).grownBy w7 g) (hg' : gn = g ∨ gn = some (W.alloc (.cells #[.int .i64 a.dir, .int .i64 a.time, .slice a.A a.data.length a.c] 44)).heap.size) :
    ELi w (.slice A' (l.length + 1) c') (l ++ [a]) w7 := by
  refine ⟨gn, EL.snoc (h.alloc _) ((ha.keep fun b hS hl => Below.heap_alloc W _ b hl).mono fun b _ hS => .inl hS) hr hg hg' ⟨by have := hb.size; simp; omega, by have := hb.size; simp; omega⟩, ?_⟩
  exact (hb.alloc hb.size _).grown hg (by have := hb.size; simp; omega) (fun b e => (h.fresh b e).1)

theorem ELi.open2 {w W : World} {B : Option Addr} {d : Nat} {l : List Ev} {a : Ev} (h : ELi w (.slice B (l.length + 1) d) (l ++ [a]) W) :
    ∃ g, EL (fun b => b < w.heap.size) (fun b => w.heap.size ≤ b) W g (.slice B (l.length + 1) d) (l ++ [a]) ∧ RowS W 44 3 g (.slice B (l.length + 1) d) (l.length + 1) (evcs (l ++ [a])) ∧ Below w.heap.size w W := by
  obtain ⟨g, h1, h2⟩ := h
  refine ⟨g, h1, ?_, h2⟩
  have := h1.row
  rwa [List.length_append, List.length_singleton] at this

set_option maxRecDepth 100000 in
set_option maxHeartbeats 2000000 in
theorem REvents_is (t : List Tn) (v : Value) (w : World) (h : Tns w v t) (hby : TnBytes t) (hl : t.length ≤ 1048576) (hw : (inns t).length + (outs t).length ≤ 4611686018427387904) :
    Calls Try.prog 16 #[v] w (EvtTo w (tevs t)) := by
  obtain ⟨A, c, rfl, -⟩ := h.form
  have H : Hid (TnsIn (fun b => b < w.heap.size) w (.slice A t.length c) t) := Lib.hid (by
    obtain ⟨A', c', e, hle, hr⟩ := h
    refine ⟨A', c', e, hle, fun hp => ?_⟩
    obtain ⟨b, o, eA, -, hx⟩ := hr hp
    refine ⟨b, o, eA, ?_, fun j x hj => ?_⟩
    · obtain ⟨A1, c1, A2, c2, h1, _⟩ := hx 0 _ (List.getElem?_eq_getElem hp)
      exact World.block_lt_of_cell? w _ h1
    · obtain ⟨A1, c1, A2, c2, h1, h2, r1, r2⟩ := hx j x hj
      exact ⟨A1, c1, A2, c2, h1, h2, r1.1.old, r2.1.old⟩)
  have HB := Lib.hid hby
  have HL : Hid (∀ k, (tevs (t.take k)).length ≤ 2097152) := Lib.hid fun k => by have := tevs_len (t.take k); have := List.length_take_le' k t; omega
  clear h hby
  go_enter Try.func16, Try.ntmps16
  go_wp2
  go_loopw [3, 4] (fun v j wr => ∃ (k : Nat) (B : Option Addr) (d : Nat) (l : List Ev), k ≤ t.length ∧ j = .int .i64 k ∧ v = .slice B l.length d ∧ Hid (pes l = tevs (t.take k) ∧ ELi w (.slice B l.length d) l wr)) (fun _ j _ => t.length - (intOf j).toNat)
  case atStart => exact ⟨0, none, 0, [], by omega, rfl, rfl, Lib.hid ⟨rfl, none, EL.nil _ _ _, Below.refl _ _⟩⟩
  case round =>
    obtain ⟨k, B, d, l, hk, rfl, rfl, HE⟩ := hrel
    by_cases hlt : k < t.length
    · obtain ⟨g, hel, hbel⟩ := HE.out.2
      have hll : l.length ≤ 2097152 := by have := HL.out k; rw [← HE.out.1, pes_len] at this; exact this
      obtain ⟨b1, o1, A1, c1, A2, c2, rfl, hb1, z1, z2, r1, r2⟩ := H.out.at_ hlt
      have HT := Lib.hid (tevs_take hlt)
      have hbt := HB.out _ (List.getElem_mem hlt)
      have hlo := outs_mem (List.getElem_mem hlt)
      have hli := inns_mem (List.getElem_mem hlt)
      have hbw : b1 < w.heap.size := hb1
      generalize t[k] = x at *
      obtain ⟨xo, xi⟩ := x
      dsimp only at *
      have HO : Hid (∀ W, Below w.heap.size w W → EvOk (fun b => b < w.heap.size) W ⟨0, 0, A1, c1, xo⟩ ∧ EvOk (fun b => b < w.heap.size) W ⟨1, 0, A2, c2, xi⟩) := Lib.hid fun W hb =>
        ⟨EvOk.ofRdT (r1.still ⟨hb.size, fun b h _ => hb.block b h⟩) hbt.1 (by omega), EvOk.ofRdT (r2.still ⟨hb.size, fun b h _ => hb.block b h⟩) hbt.2 (by omega)⟩
      have HY : Hid (∀ W, Below w.heap.size w W → W.cell? ⟨b1, o1 + k * 2, none⟩ = some (.slice A1 xo.length c1) ∧ W.cell? ⟨b1, o1 + k * 2 + 1, none⟩ = some (.slice A2 xi.length c2)) := Lib.hid fun W hb =>
        ⟨(hb.cell (p := ⟨b1, o1 + k * 2, none⟩) hbw).trans z1, (hb.cell (p := ⟨b1, o1 + k * 2 + 1, none⟩) hbw).trans z2⟩
      obtain ⟨y1, y2⟩ := HY.out wr hbel
      have X := Lib.hid (And.intro hel hbel)
      clear z1 z2 r1 r2 hbt hel hbel hb1
      by_cases ho : xo = []
      · subst ho
        by_cases hi : xi = []
        · subst hi
          have HTT : Hid (pes l = tevs (t.take (k + 1))) := Lib.hid (by rw [HT.out, HE.out.1]; simp [tevs1])
          simp only [List.length_nil] at y1 y2
          go_wp2
          go_roundw
          case rel => exact ⟨k + 1, B, d, l, by omega, by go_num, rfl, Lib.hid ⟨HTT.out, g, X.out⟩⟩
          case measure => simp [intOf]; omega
        · have HTT : Hid (pes (l ++ [⟨1, 0, A2, c2, xi⟩]) = tevs (t.take (k + 1))) := Lib.hid (by rw [HT.out, pes_snoc, HE.out.1]; simp [tevs1, hi, Ev.pe])
          have q2 : decide (0 < xi.length) = true := by simpa using List.length_pos_iff.2 hi
          simp only [List.length_nil] at y1
          clear hi
          go_wp2_with (at_builtin; refine wpList_append_ev _ rfl (.tmp 34) (.tmp 41) rfl g _ l.length (evcs l) rfl (X.out.1.row.alloc _) _ (evc ⟨1, 0, A2, c2, xi⟩) rfl (ev_src ⟨1, 0, A2, c2, xi⟩) (by omega) ?_; intro B' d' w7 gn hrow' hgr hgn; have Y := Lib.hid (And.intro hrow' (And.intro hgr hgn)); clear hrow' hgr hgn)
          go_roundw
          case rel => exact ⟨k + 1, B', d', l ++ [⟨1, 0, A2, c2, xi⟩], by omega, by go_num, by simp, Lib.hid ⟨HTT.out, by have := ELi.step X.out.1 X.out.2 (HO.out _ X.out.2).2 Y.out.1 Y.out.2.1 Y.out.2.2; simpa using this⟩⟩
          case measure => simp [intOf]; omega
      · have q1 : decide (0 < xo.length) = true := by simpa using List.length_pos_iff.2 ho
        by_cases hi : xi = []
        · subst hi
          have HTT : Hid (pes (l ++ [⟨0, 0, A1, c1, xo⟩]) = tevs (t.take (k + 1))) := Lib.hid (by rw [HT.out, pes_snoc, HE.out.1]; simp [tevs1, ho, Ev.pe])
          simp only [List.length_nil] at y2
          clear ho
          go_wp2_with (at_builtin; refine wpList_append_ev _ rfl (.tmp 18) (.tmp 25) rfl g _ l.length (evcs l) rfl (X.out.1.row.alloc _) _ (evc ⟨0, 0, A1, c1, xo⟩) rfl (ev_src ⟨0, 0, A1, c1, xo⟩) (by omega) ?_; intro B' d' w7 gn hrow' hgr hgn; have Y := Lib.hid (And.intro hrow' (And.intro hgr hgn)); clear hrow' hgr hgn; have Z := Lib.hid (ELi.step X.out.1 X.out.2 (HO.out _ X.out.2).1 Y.out.1 Y.out.2.1 Y.out.2.2); have y2' := (HY.out _ Z.out.choose_spec.2).2; simp only [List.length_nil] at y2')
          go_roundw
          case rel => exact ⟨k + 1, B', d', l ++ [⟨0, 0, A1, c1, xo⟩], by omega, by go_num, by simp, Lib.hid ⟨HTT.out, by have := Z.out; simpa using this⟩⟩
          case measure => simp [intOf]; omega
        · have q2 : decide (0 < xi.length) = true := by simpa using List.length_pos_iff.2 hi
          have HTT : Hid (pes (l ++ [⟨0, 0, A1, c1, xo⟩] ++ [⟨1, 0, A2, c2, xi⟩]) = tevs (t.take (k + 1))) := Lib.hid (by rw [HT.out, pes_snoc, pes_snoc, HE.out.1]; simp [tevs1, ho, hi, Ev.pe])
          clear ho hi
          go_wp2_with (first
            | (at_builtin; refine wpList_append_ev _ rfl (.tmp 18) (.tmp 25) rfl g _ l.length (evcs l) rfl (X.out.1.row.alloc _) _ (evc ⟨0, 0, A1, c1, xo⟩) rfl (ev_src ⟨0, 0, A1, c1, xo⟩) (by omega) ?_; intro B' d' w7 gn hrow' hgr hgn; have Y := Lib.hid (And.intro hrow' (And.intro hgr hgn)); clear hrow' hgr hgn; have Z := Lib.hid (ELi.step X.out.1 X.out.2 (HO.out _ X.out.2).1 Y.out.1 Y.out.2.1 Y.out.2.2); have y2' := (HY.out _ Z.out.choose_spec.2).2; obtain ⟨g2, hel2, hrow2, hbel2⟩ := ELi.open2 Z.out; have X2 := Lib.hid (And.intro hel2 hbel2); have R2 := Lib.hid hrow2; clear hel2 hbel2 hrow2 Y)
            | (at_builtin; refine wpList_append_ev _ rfl (.tmp 34) (.tmp 41) rfl g2 _ (l.length + 1) (evcs (l ++ [⟨0, 0, A1, c1, xo⟩])) rfl (R2.out.alloc _) _ (evc ⟨1, 0, A2, c2, xi⟩) rfl (ev_src ⟨1, 0, A2, c2, xi⟩) (by omega) ?_; intro B2' d2' w8 gn2 hrow' hgr hgn; have Y2 := Lib.hid (And.intro hrow' (And.intro hgr hgn)); clear hrow' hgr hgn))
          go_roundw
          case rel =>
            refine ⟨k + 1, B2', d2', l ++ [⟨0, 0, A1, c1, xo⟩] ++ [⟨1, 0, A2, c2, xi⟩], by omega, by go_num, by simp, Lib.hid ⟨HTT.out, ?_⟩⟩
            have := ELi.step (l := l ++ [⟨0, 0, A1, c1, xo⟩]) (v := .slice B' (l.length + 1) d') (A' := B2') (c' := d2') (a := ⟨1, 0, A2, c2, xi⟩) X2.out.1 X2.out.2 (HO.out _ X2.out.2).2 (by have h := Y2.out.1; rwa [List.length_append, List.length_singleton]) Y2.out.2.1 Y2.out.2.2
            simpa using this
          case measure => simp [intOf]; omega
    · obtain rfl : k = t.length := by omega
      rw [List.take_length] at HE
      go_wp2
      go_ret
      obtain ⟨hp, g, hel, hbel⟩ := HE.out
      exact ⟨B, d, l, rfl, hel.evsIn (by have := hel.row.form; have := HL.out t.length; rw [List.take_length, ← hp, pes_len] at this; omega) (fun _ _ => trivial) (fun _ _ => trivial), hp, hbel⟩
end Go.Proofs.Ytchfiiiippnigaa
