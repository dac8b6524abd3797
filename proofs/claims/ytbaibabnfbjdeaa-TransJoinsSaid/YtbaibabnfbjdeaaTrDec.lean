/-
  The contract of trans.Decode.
  Conditions: the slice reads as these bytes.
-/
import Derived.Test.YtbaibabnfbjdeaaTrRead
import Derived.WalkMore
namespace Go.Proofs.Ytbaibabnfbjdeaa
open Go.RowKit

/-- What Decode leaves: the transcript in memory of its own, the place, the error. -/
def DecTo (w : World) (D : DR) (e : Ending) (w' : World) : Prop :=
  ∃ A c l, e = .returned (.tuple #[.agg #[.slice A l.length c, .bool D.fin], .int .i64 (D.place : Nat), .int .i64 (D.err : Nat)]) ∧ pes l = D.l ∧ Evs w' (.slice A l.length c) l ∧ Below w.heap.size w w'

/-- Memory between two rounds: what is answered so far lies in the block T, the result's own block is R. -/
structure DecW (w W : World) (R T : Nat) (B : Option Addr) (cB : Nat) (g : Option Nat) (acc : List Ev) : Prop where
  res : Blk W R 24 #[.slice none 0 0, .bool false]
  box : Blk W T 24 #[.slice B acc.length cB, .bool false]
  rlt : w.heap.size ≤ R
  tlt : w.heap.size ≤ T
  evs : EL (fun _ => False) (fun b => w.heap.size ≤ b) W g (.slice B acc.length cB) acc
  bel : Below w.heap.size w W
  ne : R ≠ T
/-- Where the walk is. -/
structure DecK (bs : List Nat) (a : Nat) (la : Int) (acc : List Ev) : Prop where
  walk : walk bs a la (pes acc) = walk bs 4 0 []
  in_ : In64 la
  len : acc.length ≤ 4096
  whole : whole (pes acc) ≤ 262144

theorem DecK.err {bs : List Nat} {a p e : Nat} {la : Int} {acc : List Ev} (h : DecK bs a la acc) (hd : dec bs = Go.Proofs.Ytbaibabnfbjdeaa.walk bs 4 0 []) (hlt : a < bs.length) (hs : step bs a la (pes acc) = .err p e) : dec bs = ⟨[], false, p, e⟩ := by
  rw [hd, ← h.walk, walk_err hlt hs]
theorem DecK.fin {bs : List Nat} {a : Nat} {la : Int} {acc : List Ev} (h : DecK bs a la acc) (hd : dec bs = Go.Proofs.Ytbaibabnfbjdeaa.walk bs 4 0 []) (hlt : a < bs.length) (hs : step bs a la (pes acc) = .fin) : dec bs = ⟨pes acc, true, 0, 0⟩ := by
  rw [hd, ← h.walk, walk_fin hlt hs]
theorem DecK.next {bs : List Nat} {a next : Nat} {la d t : Int} {acc : List Ev} {ds : List Nat} (h : DecK bs a la acc) (hb : ∀ b ∈ bs, b < 256) (hlt : a < bs.length) (hs : step bs a la (pes acc) = .ev ⟨d, t, ds⟩ next) (A : Option Addr) (c : Nat) :
    DecK bs next t (acc ++ [⟨d, t, A, c, ds⟩]) ∧ a < next ∧ next ≤ bs.length ∧ Go.Proofs.Ytbaibabnfbjdeaa.whole (pes (acc ++ [⟨d, t, A, c, ds⟩])) = Go.Proofs.Ytbaibabnfbjdeaa.whole (pes acc) + ds.length ∧ ∀ x ∈ ds, x < 256 := by
  obtain ⟨s1, s2, s3, s4, s5, s6, s7, s8, s9⟩ := step_ev hb hs
  have e : Go.Proofs.Ytbaibabnfbjdeaa.whole (pes (acc ++ [⟨d, t, A, c, ds⟩])) = Go.Proofs.Ytbaibabnfbjdeaa.whole (pes acc) + ds.length := by rw [pes_snoc, whole_snoc]; rfl
  rw [pes_len] at s3
  exact ⟨⟨by rw [pes_snoc, ← h.walk, walk_ev hlt hs s1]; rfl, s5, by rw [List.length_append]; simp; omega, by rw [e]; exact s7⟩, s1, s2, e, s9⟩

theorem EL.far {T : Nat → Prop} {W : World} {g : Option Nat} {v : Value} {l : List Ev} {q : Nat} {cs : Array Value} (h : EL (fun _ => False) T W g v l) (hq : Blk W q 24 cs) (i : Nat) (u : Value) : EL (fun _ => False) T (W.setCell ⟨q, i, none⟩ u) g v l := by
  refine h.keep fun b _ hb => Below.heap_setCell W _ u b fun e => ?_
  have e : b = q := e
  rcases hb with hb | ⟨_, cs', t, ht, hc⟩
  · exact hb
  · unfold Blk at hq
    rw [e, hq] at hc
    injection hc with hc
    injection hc with _ hc
    rcases ht with ht | ht <;> rw [ht] at hc <;> cases hc
theorem EL.evs {T : Nat → Prop} {W : World} {g : Option Nat} {v : Value} {l : List Ev} (h : EL (fun _ => False) T W g v l) (hm : l.length ≤ 9223372036854775807) : Evs W v l := h.evsIn hm (fun _ h => h.elim) (fun _ _ => trivial)
/-- Behind the two stores of what is answered. -/
theorem DecW.done {w W : World} {R T : Nat} {B : Option Addr} {cB : Nat} {g : Option Nat} {acc : List Ev} (h : DecW w W R T B cB g acc) (hm : acc.length ≤ 9223372036854775807) (x y : Value) :
    Evs ((W.setCell ⟨R, 0, none⟩ x).setCell ⟨R, 1, none⟩ y) (.slice B acc.length cB) acc ∧ Below w.heap.size w ((W.setCell ⟨R, 0, none⟩ x).setCell ⟨R, 1, none⟩ y) :=
  ⟨((h.evs.far h.res 0 x).far (h.res.set_ 0 x) 1 y).evs hm, (h.bel.setCell (p := ⟨R, 0, none⟩) h.rlt x).setCell (p := ⟨R, 1, none⟩) h.rlt y⟩
theorem DecW.done3 {w W : World} {R T : Nat} {B : Option Addr} {cB : Nat} {g : Option Nat} {acc : List Ev} (h : DecW w W R T B cB g acc) (hm : acc.length ≤ 9223372036854775807) (z x y : Value) :
    Evs (((W.setCell ⟨T, 1, none⟩ z).setCell ⟨R, 0, none⟩ x).setCell ⟨R, 1, none⟩ y) (.slice B acc.length cB) acc ∧ Below w.heap.size w (((W.setCell ⟨T, 1, none⟩ z).setCell ⟨R, 0, none⟩ x).setCell ⟨R, 1, none⟩ y) := by
  have h1 : Blk (W.setCell ⟨T, 1, none⟩ z) R 24 #[.slice none 0 0, .bool false] := h.res.far (p := ⟨T, 1, none⟩) h.ne z
  exact ⟨(((h.evs.far h.box 1 z).far h1 0 x).far (h1.set_ 0 x) 1 y).evs hm, ((h.bel.setCell (p := ⟨T, 1, none⟩) h.tlt z).setCell (p := ⟨R, 0, none⟩) h.rlt x).setCell (p := ⟨R, 1, none⟩) h.rlt y⟩

theorem EL.keep2 {D T : Nat → Prop} {W W' : World} {g : Option Nat} {v : Value} {l : List Ev} (h : EL D T W g v l) (hg : ∀ b, g = some b → W'.heap[b]? = W.heap[b]?) (hb : ∀ b, b < W.heap.size → (D b ∨ (T b ∧ ∃ cs, W.heap[b]? = some (.cells cs 5 (0, 0)))) → W'.heap[b]? = W.heap[b]?) : EL D T W' g v l :=
  ⟨h.row.keep hg, h.fresh, fun a ha => (h.ok a ha).tkeep fun b hb' hlt => hb b hlt hb'⟩
theorem DecW.below {w W W' : World} {R T : Nat} {B : Option Addr} {cB : Nat} {g : Option Nat} {acc : List Ev} (h : DecW w W R T B cB g acc) (hb : Below W.heap.size W W') : DecW w W' R T B cB g acc :=
  ⟨h.res.below hb h.res.lt, h.box.below hb h.box.lt, h.rlt, h.tlt, h.evs.below hb, h.bel.trans (hb.mono h.bel.size), h.ne⟩

/-- Beside it an event in a box, which no list holds. -/
structure DecE (w W : World) (R T E : Nat) (B : Option Addr) (cB : Nat) (g : Option Nat) (acc : List Ev) (cs : Array Value) : Prop where
  mem : DecW w W R T B cB g acc
  ev : Blk W E 43 cs
  ne : g ≠ some E
  le : w.heap.size ≤ E
section
variable {w W W' : World} {R T E : Nat} {B : Option Addr} {cB : Nat} {g : Option Nat} {acc : List Ev} {cs : Array Value}
theorem DecE.start (h : DecW w W R T B cB g acc) : DecE w (W.alloc (.cells cs 43)) R T W.heap.size B cB g acc cs :=
  ⟨h.below ((Below.refl _ W).alloc (Nat.le_refl _) _), Blk.new _ _ _, fun e => by have := h.evs.row.lt e; omega, h.bel.size⟩
theorem DecE.below (h : DecE w W R T E B cB g acc cs) (hb : Below W.heap.size W W') : DecE w W' R T E B cB g acc cs := ⟨h.mem.below hb, h.ev.below hb h.ev.lt, h.ne, h.le⟩
theorem DecE.rE (h : DecE w W R T E B cB g acc cs) : R ≠ E := h.mem.res.ne_ h.ev (by decide)
theorem DecE.tE (h : DecE w W R T E B cB g acc cs) : T ≠ E := h.mem.box.ne_ h.ev (by decide)
theorem DecE.set_ (h : DecE w W R T E B cB g acc cs) (i : Nat) (u : Value) : DecE w (W.setCell ⟨E, i, none⟩ u) R T E B cB g acc (cs.setIfInBounds i u) := by
  have hE := h.ev
  refine ⟨⟨h.mem.res.far (p := ⟨E, i, none⟩) h.rE u, h.mem.box.far (p := ⟨E, i, none⟩) h.tE u, h.mem.rlt, h.mem.tlt, h.mem.evs.keep2 (fun b e => Below.heap_setCell W _ u b fun e' => h.ne (by rw [e]; exact congrArg some e')) (fun b _ hb => Below.heap_setCell W _ u b fun e' => ?_), h.mem.bel.setCell (p := ⟨E, i, none⟩) h.le u, h.mem.ne⟩, h.ev.set_ i u, h.ne, h.le⟩
  have e' : b = E := e'
  rcases hb with hb | ⟨_, cs', hc⟩
  · exact hb
  · unfold Blk at hE
    rw [e', hE] at hc
    injection hc with hc
    injection hc with _ hc
    cases hc
/-- One more event. -/
theorem DecE.push {a : Ev} {W1 : World} {B' : Option Addr} {c' : Nat} {g' : Option Nat} (h : DecE w W R T E B cB g acc cs) (ha : EvOk (fun b => False ∨ (w.heap.size ≤ b ∧ ∃ cs, W.heap[b]? = some (.cells cs 5 (0, 0)))) W a)
    (hr : RowS W1 43 3 g' (.slice B' (acc.length + 1) c') (acc.length + 1) (evcs acc ++ evc a)) (hg : (W.alloc (.cells #[.int .i64 a.dir, .int .i64 a.time, .slice a.A a.data.length a.c] 43)).grownBy W1 g)
    (hg' : g' = g ∨ g' = some (W.alloc (.cells #[.int .i64 a.dir, .int .i64 a.time, .slice a.A a.data.length a.c] 43)).heap.size) :
    DecW w (W1.setCell ⟨T, 0, none⟩ (.slice B' (acc ++ [a]).length c')) R T B' c' g' (acc ++ [a]) ∧ Blk W1 T 24 #[.slice B acc.length cB, .bool false] ∧ Blk W1 E 43 cs := by
  have hb2 : Below W.heap.size W (W.alloc (.cells #[.int .i64 a.dir, .int .i64 a.time, .slice a.A a.data.length a.c] 43)) := (Below.refl _ W).alloc (Nat.le_refl _) _
  have h2 := h.below hb2
  have ha2 := ha.tkeep (D := fun _ => False) (T := fun b => w.heap.size ≤ b) (W' := W.alloc (.cells #[.int .i64 a.dir, .int .i64 a.time, .slice a.A a.data.length a.c] 43)) (fun b _ hlt => Below.heap_alloc W _ b hlt)
  have hT1 : Blk W1 T 24 #[.slice B acc.length cB, .bool false] := h2.mem.box.keep (hg.block T h2.mem.box.lt fun e => h2.mem.evs.row.ne_ h2.mem.box (by decide) e.symm)
  have hR1 : Blk W1 R 24 #[.slice none 0 0, .bool false] := h2.mem.res.keep (hg.block R h2.mem.res.lt fun e => h2.mem.evs.row.ne_ h2.mem.res (by decide) e.symm)
  have hE1 : Blk W1 E 43 cs := h2.ev.keep (hg.block E h2.ev.lt fun e => h2.ne e.symm)
  have hl1 := h2.mem.evs.snoc ha2 hr hg hg' ⟨h2.mem.bel.size, id⟩
  refine ⟨⟨hR1.far (p := ⟨T, 0, none⟩) h.mem.ne _, ?_, h.mem.rlt, h.mem.tlt, ?_, ?_, h.mem.ne⟩, hT1, hE1⟩
  · exact hT1.set_ 0 _
  · have := hl1.far hT1 0 (.slice B' (acc ++ [a]).length c')
    rw [List.length_append] at this ⊢
    exact this
  · exact (h2.mem.bel.grown hg h2.mem.bel.size (fun b e => (h.mem.evs.fresh b e).1)).setCell (p := ⟨T, 0, none⟩) h.mem.tlt _
end

theorem dec_head {bs : List Nat} {p e : Nat} (h : headP bs = (p, e)) (he : e ≠ 0) : dec bs = ⟨[], false, p, e⟩ := by
  unfold headP at h
  split at h
  · injection h with _ h; omega
  · rename_i r hr
    unfold dec
    rw [hr, h]
theorem dec_walk {bs : List Nat} (h : (headP bs).2 = 0) : headP bs = (4, 0) ∧ dec bs = walk bs 4 0 [] ∧ 4 ≤ bs.length := by
  unfold headP at h ⊢
  split at h
  · rename_i hr
    have := headW_none hr
    refine ⟨rfl, by unfold dec; rw [hr], ?_⟩
    rw [this]; simp [hd]
  · rename_i r hr
    exact absurd h (headW_some (p := r.1) (e := r.2) hr).1

theorem DecTo.bad {w w' : World} {D : DR} {p e : Nat} (hD : D = ⟨[], false, p, e⟩) (hb : Below w.heap.size w w') : DecTo w D (.returned (.tuple #[.agg #[.slice none 0 0, .bool false], .int .i64 (p : Nat), .int .i64 (e : Nat)])) w' := by
  subst hD
  exact ⟨none, 0, [], rfl, rfl, EvsIn.nil _ _ _, hb⟩

theorem DecW.start {w W0 : World} (h : Blk W0 w.heap.size 24 #[.slice none 0 0, .bool false]) (hb : Below w.heap.size w W0) : DecW w (W0.alloc (.cells #[.slice none 0 0, .bool false] 24)) w.heap.size W0.heap.size none 0 none [] :=
  ⟨h.alloc _, Blk.new _ _ _, Nat.le_refl _, hb.size, EL.nil _ _ _, hb.alloc hb.size _, by have := h.lt; omega⟩
theorem DecK.start (bs : List Nat) : DecK bs 4 0 [] := ⟨rfl, ⟨by omega, by omega⟩, by simp, by simp [_root_.Go.Proofs.Ytbaibabnfbjdeaa.whole, pes]⟩

/-- What the walk tells at its end. -/
theorem DecTo.good {w w' : World} {D : DR} {B : Option Addr} {cB : Nat} {acc : List Ev} {e : Bool} (hD : D = ⟨pes acc, e, 0, 0⟩) (he : Evs w' (.slice B acc.length cB) acc) (hb : Below w.heap.size w w') : DecTo w D (.returned (.tuple #[.agg #[.slice B acc.length cB, .bool e], .int .i64 0, .int .i64 0])) w' := by
  subst hD
  exact ⟨B, cB, acc, rfl, rfl, he, hb⟩

set_option maxRecDepth 100000 in
set_option maxHeartbeats 4000000 in
theorem Decode_any (A : Option Addr) (n c : Nat) (bs : List Nat) (w : World) (hr : Rd w (.slice A n c) (bv bs)) (hb : ∀ b ∈ bs, b < 256) (hn : n ≤ 9223372036854775807) :
    Calls Try.prog 14 #[.slice A n c] w (DecTo w (dec bs)) := by
  have HR := Lib.hid hr
  have HN := Lib.hid hr.bytes
  have HB := Lib.hid hb
  clear hr hb
  go_enter Try.func14, Try.ntmps14
  go_wp2_with fail
  go_step3
  go_wp2_with fail
  refine (readHead_any A n c bs _ (HR.out.alloc _) HB.out hn).mono ?_
  rintro e W0 ⟨rfl, hb0⟩
  have br := (Blk.new w 24 #[.slice none 0 0, .bool false]).below hb0 (by simp)
  have hbw : Below w.heap.size w W0 := ((Below.refl _ w).alloc (Nat.le_refl _) _).trans (hb0.mono (by simp))
  have r0 := br.cell 0
  have r1 := br.cell 1
  have f0 := br.frozen 0
  have f1 := br.frozen 1
  have HBR := Lib.hid (And.intro br hbw)
  by_cases he : (headP bs).2 = 0
  · obtain ⟨e1, e2, e3⟩ := dec_walk he
    rw [e1]
    have HN4 : Hid (4 ≤ bs.length) := e3
    have HDW := Lib.hid e2
    clear he e1 e2 e3 hb0 br hbw
    go_wp2_with fail
    go_step3
    go_wp2_with fail
    clear r0 r1 f0 f1
    go_loopw [5, 6, 8, 9] (fun at_ er ah lf wr => ∃ (a : Nat) (la : Int) (all : Nat) (acc : List Ev) (B : Option Addr) (cB : Nat) (g : Option Nat), a ≤ n ∧ all ≤ 262144 ∧ acc.length ≤ 4096 ∧ at_ = .int .i64 a ∧ er = .int .i64 0 ∧ ah = .int .i64 la ∧ lf = .int .i64 (262144 - (all : Int)) ∧ Hid (DecK bs a la acc ∧ DecW w wr w.heap.size W0.heap.size B cB g acc ∧ all = whole (pes acc))) (fun at_ _ _ _ _ => n - (intOf at_).toNat)
    case atStart => exact ⟨4, 0, 0, [], none, 0, none, by have := HN4.out; have := HN.out; omega, by omega, by simp, rfl, rfl, rfl, rfl, DecK.start bs, DecW.start HBR.out.1 HBR.out.2, rfl⟩
    case round =>
      obtain ⟨a, la, all, acc, B, cB, g, han, hall, hacc, rfl, rfl, rfl, rfl, HK⟩ := hrel
      obtain ⟨hkk, hww, -⟩ := HK.out
      have r0 := hww.res.cell 0
      have r1 := hww.res.cell 1
      have f0 := hww.res.frozen 0
      have f1 := hww.res.frozen 1
      have t0 := hww.box.cell 0
      have t1 := hww.box.cell 1
      have g0 := hww.box.frozen 0
      have g1 := hww.box.frozen 1
      have lR := hww.res.lt
      have lT := hww.box.lt
      have hRT := hww.ne
      have hRT' := hww.ne.symm
      have HRa := Lib.hid (HR.out.kept hww.bel)
      have HEV : Hid (Evs wr (.slice B acc.length cB) acc) := (hww.evs.evsIn (S := fun _ => True) (by omega) (fun _ h => h.elim) (fun _ _ => trivial))
      simp only [List.getElem?_toArray, List.getElem?_cons_zero, List.getElem?_cons_succ] at r0 r1 t0 t1
      clear hkk hww HBR
      generalize hT : W0.heap.size = T at *
      by_cases hlt : a < n
      · obtain ⟨b, o, d, rfl, hc, hd⟩ := HRa.out.byteAt hlt
        have hd256 : d < 256 := HB.out d (List.mem_of_getElem? hd)
        have HD := Lib.hid hd
        have hltb : Hid (a < bs.length) := by show _ < _; have := HN.out; omega
        clear hd
        by_cases h3 : d = 3
        · subst h3
          by_cases hend : a + 1 < n
          · have HF := Lib.hid (HK.out.1.err HDW.out hltb.out (step_three_more HD.out (by have := HN.out; omega)))
            have hend' : (a : Int) + 1 < n := by omega
            go_wp2_with fail
            try rw [Exit.noGoto_ret]
            refine bodyPost_ret (v := .tuple #[.agg #[.slice none 0 0, .bool false], .int .i64 ((a : Int) + 1), .int .i64 4]) (by simp [results, Try.results14, go_sem, r0, r1]) rfl ?_
            have := DecTo.bad HF.out (HK.out.2.1.done3 (by omega) (.bool true) (.slice none 0 0) (.bool false)).2
            exact this
          · have HF := Lib.hid (HK.out.1.fin HDW.out hltb.out (step_three_end HD.out (by have := HN.out; omega)))
            have hend' : ¬ (a : Int) + 1 < n := by omega
            go_wp2_with fail
            try rw [Exit.noGoto_ret]
            refine bodyPost_ret (v := .tuple #[.agg #[.slice B acc.length cB, .bool true], .int .i64 0, .int .i64 0]) (by simp [results, Try.results14, go_sem, r0, r1]) rfl ?_
            have h1 := HK.out.2.1.done3 (by omega) (.bool true) (.slice B acc.length cB) (.bool true)
            exact DecTo.good HF.out h1.1 h1.2
        · have q3 : ((d : Int) == 3) = false := by simp; omega
          by_cases h12 : d = 1 ∨ d = 2
          · have H12 := Lib.hid h12
            have hq : (((d : Int) != 1) = false) ∨ (((d : Int) != 1) = true ∧ ((d : Int) != 2) = false) := by
              rcases h12 with rfl | rfl
              · exact .inl rfl
              · exact .inr ⟨rfl, rfl⟩
            clear h3 h12
            by_cases hmany : acc.length = 4096
            · have HF := Lib.hid (HK.out.1.err HDW.out hltb.out (step_many HD.out H12.out (by rw [pes_len]; omega)))
              have hmb : ((acc.length : Int) == 4096) = true := by simp; omega
              clear hmany
              rcases hq with q1 | ⟨q1, q2⟩
              all_goals
                go_wp2_with fail
                try rw [Exit.noGoto_ret]
                refine bodyPost_ret (v := .tuple #[.agg #[.slice none 0 0, .bool false], .int .i64 a, .int .i64 10]) (by simp [results, Try.results14, go_sem, r0, r1]) rfl ?_
                exact DecTo.bad HF.out (HK.out.2.1.done (by omega) (.slice none 0 0) (.bool false)).2
            · have hacc' : acc.length < 4096 := by omega
              have hmb : ((acc.length : Int) == 4096) = false := by simp; omega
              have HM : Hid ((pes acc).length < 4096) := by show _ < _; rw [pes_len]; exact hacc'
              clear hmany
              obtain ⟨⟨u, p, er⟩, hg1⟩ : ∃ r, getIn bs (a + 1) = r := ⟨_, rfl⟩
              have HG1 := Lib.hid hg1
              have hp := (getIn_bounds bs (a + 1) (by have := HN.out; omega)).1
              rw [hg1] at hp
              have hpn : p ≤ n := by have := HN.out; simp only at hp; omega
              clear hp
              by_cases her : er = 0
              · subst her
                obtain ⟨t, ht⟩ : ∃ t, plus la (zag (u : Int)) = t := ⟨_, rfl⟩
                have HTT := Lib.hid ht
                have HT : Hid (∀ W, Rd W (.slice (some ⟨b, o, none⟩) n c) (bv bs) → Calls Try.prog 27 #[.slice (some ⟨b, o, none⟩) n c, .int .i64 ((a : Int) + 1), .int .i64 la] W fun e w' => e = .returned (.tuple #[.int .i64 t, .int .i64 (p : Nat), .int .i64 0]) ∧ W = w') := by
                  intro W hrd
                  refine (readTime_any (some ⟨b, o, none⟩) n c (a + 1) la bs W hrd HB.out hn (by omega) HK.out.1.in_).mono ?_
                  rintro e w' ⟨he, hw⟩
                  rw [HG1.out] at he
                  exact ⟨he.trans (by rw [← ht]; rfl), hw⟩
                obtain ⟨⟨v, q, erq⟩, hg2⟩ : ∃ r, getIn bs p = r := ⟨_, rfl⟩
                have HG2 := Lib.hid hg2
                have hqb := (getIn_bounds bs p (by have := HN.out; omega)).1
                rw [hg2] at hqb
                have hqn : q ≤ n := by have := HN.out; simp only at hqb; omega
                clear hqb hg1 hg2 ht
                rcases hq with q1 | ⟨q1, q2⟩
                all_goals
                  go_wp2_with fail
                  refine (dirOf_any d _ H12.out).mono ?_
                  rintro e w' ⟨rfl, rfl⟩
                  go_wp2_with fail
                  refine (HT.out _ (HRa.out.alloc _)).mono ?_
                  rintro e w' ⟨rfl, rfl⟩
                  go_upto_region 20 with (fail)
                  generalize hV : World.alloc wr _ = V
                  have hbV : Below wr.heap.size wr V := by rw [← hV]; exact (Below.refl _ wr).alloc (Nat.le_refl _) _
                  have hEV : DecE w V w.heap.size T wr.heap.size B cB g acc #[.int .i64 ((d : Int) - 1), .int .i64 t, .slice none 0 0] := by rw [← hV]; exact DecE.start HK.out.2.1
                  clear r0 r1 f0 f1 t0 t1 g0 g1 lR lT hc hV
                  have r0 : V.cell? ⟨w.heap.size, 0, none⟩ = some (.slice none 0 0) := hEV.mem.res.cell 0
                  have r1 : V.cell? ⟨w.heap.size, 1, none⟩ = some (.bool false) := hEV.mem.res.cell 1
                  have f0 := hEV.mem.res.frozen 0
                  have f1 := hEV.mem.res.frozen 1
                  have z0 : V.cell? ⟨wr.heap.size, 0, none⟩ = some (.int .i64 ((d : Int) - 1)) := hEV.ev.cell 0
                  have z1 : V.cell? ⟨wr.heap.size, 1, none⟩ = some (.int .i64 t) := hEV.ev.cell 1
                  have z2 : V.cell? ⟨wr.heap.size, 2, none⟩ = some (.slice none 0 0) := hEV.ev.cell 2
                  have k2 := hEV.ev.frozen 2
                  have hRE := hEV.rE
                  have hTE := hEV.tE
                  have hRE' := hEV.rE.symm
                  have hTE' := hEV.tE.symm
                  have HRV := Lib.hid (HRa.out.kept hbV)
                  have HEV := Lib.hid hEV
                  generalize wr.heap.size = E at *
                  clear hbV hEV HRa
                  by_cases herq : erq = 0
                  · subst herq
                    by_cases hlong : 65536 < v ∨ 262144 < all + v
                    · have HF := Lib.hid (HK.out.1.err HDW.out hltb.out (step_long HD.out H12.out HM.out HG1.out HG2.out (by rw [← HK.out.2.2]; exact hlong)))
                      have HRD := Lib.hid (readData_long (lf := 262144 - (all : Int)) HRV.out HB.out hn hpn HG2.out (by omega) (by omega) (by omega))
                      clear hlong
                      go_wp2_with fail
                      refine HRD.out.mono ?_
                      rintro e w' ⟨rfl, rfl⟩
                      go_wp2_with fail
                      try rw [Exit.noGoto_ret]
                      refine bodyPost_ret (v := .tuple #[.agg #[.slice none 0 0, .bool false], .int .i64 (p : Nat), .int .i64 6]) (by simp [results, Try.results14, go_sem, r0, r1]) rfl ?_
                      exact DecTo.bad HF.out ((HEV.out.set_ 2 (.slice none 0 0)).mem.done (by omega) (.slice none 0 0) (.bool false)).2
                    · by_cases hshort : n < q + v
                      · have HF := Lib.hid (HK.out.1.err HDW.out hltb.out (step_short HD.out H12.out HM.out HG1.out HG2.out (by rw [← HK.out.2.2]; exact hlong) (by have := HN.out; omega)))
                        rw [← HN.out] at HF
                        have HRD := Lib.hid (readData_short (lf := 262144 - (all : Int)) HRV.out HB.out hn hpn HG2.out (by omega) (by omega) (by omega) (by omega) hshort hqn)
                        clear hlong hshort
                        go_wp2_with fail
                        refine HRD.out.mono ?_
                        rintro e w' ⟨rfl, rfl⟩
                        go_wp2_with fail
                        try rw [Exit.noGoto_ret]
                        refine bodyPost_ret (v := .tuple #[.agg #[.slice none 0 0, .bool false], .int .i64 (n : Nat), .int .i64 5]) (by simp [results, Try.results14, go_sem, r0, r1]) rfl ?_
                        exact DecTo.bad HF.out ((HEV.out.set_ 2 (.slice none 0 0)).mem.done (by omega) (.slice none 0 0) (.bool false)).2
                      · have hqv : q + v ≤ n := by omega
                        have HS := Lib.hid (HK.out.1.next HB.out hltb.out (step_good HD.out H12.out HM.out HG1.out HG2.out (by rw [← HK.out.2.2]; exact hlong) (by have := HN.out; omega)))
                        have HRD := Lib.hid (readData_ok (lf := 262144 - (all : Int)) HRV.out HB.out hn hpn HG2.out (by omega) (by omega) (by omega) (by omega) hqv)
                        have hdl : ((bs.drop q).take v).length = v := by rw [List.length_take, List.length_drop]; have := HN.out; omega
                        rw [HTT.out] at HS
                        generalize (bs.drop q).take v = ds at *
                        have hds : ds.length ≤ 65536 := by omega
                        have hda : all + ds.length ≤ 262144 := by omega
                        have HDL := Lib.hid hdl
                        clear hlong hshort hdl
                        go_wp2_with fail
                        refine HRD.out.mono ?_
                        rintro e W2 ⟨A2, c2, g2, rfl, hrow, hfr, hbel⟩
                        have hE2 := HEV.out.below hbel
                        have HE2 := Lib.hid (And.intro hE2 (And.intro hrow hfr))
                        have z2' : W2.cell? ⟨E, 2, none⟩ = some (.slice none 0 0) := hE2.ev.cell 2
                        have k2' := hE2.ev.frozen 2
                        clear hrow hfr hbel hE2 r0 r1 f0 f1 z0 z1 z2 k2
                        go_upto_region 22 with (fail)
                        generalize hW3 : World.setCell W2 _ _ = W3
                        have hE3 : DecE w W3 w.heap.size T E B cB g acc #[.int .i64 ((d : Int) - 1), .int .i64 t, .slice A2 ds.length c2] := by rw [← hW3]; exact HE2.out.1.set_ 2 _
                        have hok : EvOk (fun b => False ∨ (w.heap.size ≤ b ∧ ∃ cs, W3.heap[b]? = some (.cells cs 5 (0, 0)))) W3 ⟨(d : Int) - 1, t, A2, c2, ds⟩ := by
                          rw [← hW3]
                          refine EvOk.ofRow (HE2.out.2.1.far (p := ⟨E, 2, none⟩) (HE2.out.2.1.ne_ HE2.out.1.ev (by decide)) _) (HS.out A2 c2).2.2.2.2 (by omega) (fun b e hc => .inr ⟨?_, hc⟩)
                          have h1 := HE2.out.2.2 b e
                          have h2 := HEV.out.mem.bel.size
                          omega
                        have z0 : W3.cell? ⟨E, 0, none⟩ = some (.int .i64 ((d : Int) - 1)) := hE3.ev.cell 0
                        have z1 : W3.cell? ⟨E, 1, none⟩ = some (.int .i64 t) := hE3.ev.cell 1
                        have z2 : W3.cell? ⟨E, 2, none⟩ = some (.slice A2 ds.length c2) := hE3.ev.cell 2
                        have t0 : W3.cell? ⟨T, 0, none⟩ = some (.slice B acc.length cB) := hE3.mem.box.cell 0
                        have HE3 := Lib.hid (And.intro hE3 hok)
                        clear hW3 z2' k2' hE3 hok
                        go_wp2_with (at_builtin; refine wpList_append_ev _ rfl (.tmp 79) (.tmp 81) rfl g (.slice B acc.length cB) acc.length (evcs acc) rfl (HE3.out.1.mem.evs.row.alloc _) _ _ rfl (ev_src (w := W3) ⟨(d : Int) - 1, t, A2, c2, ds⟩) (by omega) ?_; intro B4 c4 W4 g4 hr4 hg4 hg4'; obtain ⟨hD4, hT4, hE4⟩ := HE3.out.1.push HE3.out.2 hr4 hg4 hg4'; have HD4 := Lib.hid hD4; have y0 : W4.cell? ⟨T, 0, none⟩ = some (.slice B acc.length cB) := hT4.cell 0; have yf := hT4.frozen 0; have y1 : W4.cell? ⟨E, 1, none⟩ = some (.int .i64 t) := hE4.cell 1; have y2 : W4.cell? ⟨E, 2, none⟩ = some (.slice A2 ds.length c2) := hE4.cell 2; clear hD4 hT4 hE4 hr4 hg4 hg4')
                        go_roundw
                        case rel => exact ⟨q + v, t, all + ds.length, acc ++ [⟨(d : Int) - 1, t, A2, c2, ds⟩], B4, c4, g4, hqv, hda, by simp; omega, by go_num, rfl, rfl, by congr 1; omega, (HS.out A2 c2).1, by have := HD4.out; simpa using this, by rw [(HS.out A2 c2).2.2.2.1, HK.out.2.2]⟩
                        case measure => simp [intOf]; have := (HS.out A2 c2).2.1; omega
                  · have HF := Lib.hid (HK.out.1.err HDW.out hltb.out (step_data HD.out H12.out HM.out HG1.out HG2.out herq))
                    have hne : ((erq : Int) != 0) = true := by simp; exact herq
                    have HRD := Lib.hid (readData_err (lf := 262144 - (all : Int)) HRV.out HB.out hn hpn HG2.out herq)
                    clear herq
                    go_wp2_with fail
                    refine HRD.out.mono ?_
                    rintro e w' ⟨rfl, rfl⟩
                    go_wp2_with fail
                    try rw [Exit.noGoto_ret]
                    refine bodyPost_ret (v := .tuple #[.agg #[.slice none 0 0, .bool false], .int .i64 (p : Nat), .int .i64 (erq : Nat)]) (by simp [results, Try.results14, go_sem, r0, r1]) rfl ?_
                    exact DecTo.bad HF.out ((HEV.out.set_ 2 (.slice none 0 0)).mem.done (by omega) (.slice none 0 0) (.bool false)).2
              · have HF := Lib.hid (HK.out.1.err HDW.out hltb.out (step_time HD.out H12.out HM.out HG1.out her))
                have HT : Hid (∀ W, Rd W (.slice (some ⟨b, o, none⟩) n c) (bv bs) → Calls Try.prog 27 #[.slice (some ⟨b, o, none⟩) n c, .int .i64 ((a : Int) + 1), .int .i64 la] W fun e w' => e = .returned (.tuple #[.int .i64 0, .int .i64 ((a : Int) + 1), .int .i64 (er : Nat)]) ∧ W = w') := by
                  intro W hrd
                  refine (readTime_any (some ⟨b, o, none⟩) n c (a + 1) la bs W hrd HB.out hn (by omega) HK.out.1.in_).mono ?_
                  rintro e w' ⟨he, hw⟩
                  rw [HG1.out] at he
                  exact ⟨he.trans (congrArg (fun z => Ending.returned (.tuple z)) (if_neg her)), hw⟩
                have hne : ((er : Int) != 0) = true := by simp; exact her
                clear her hg1
                rcases hq with q1 | ⟨q1, q2⟩
                all_goals
                  go_wp2_with fail
                  refine (dirOf_any d _ H12.out).mono ?_
                  rintro e w' ⟨rfl, rfl⟩
                  go_wp2_with fail
                  refine (HT.out _ (HRa.out.alloc _)).mono ?_
                  rintro e w' ⟨rfl, rfl⟩
                  go_wp2_with fail
                  try rw [Exit.noGoto_ret]
                  refine bodyPost_ret (v := .tuple #[.agg #[.slice none 0 0, .bool false], .int .i64 ((a : Int) + 1), .int .i64 (er : Nat)]) (by simp [results, Try.results14, go_sem, r0, r1, lR]) rfl ?_
                  exact DecTo.bad HF.out ((HK.out.2.1.done (by omega) (.slice none 0 0) (.bool false)).2.alloc (HK.out.2.1.done (by omega) (.slice none 0 0) (.bool false)).2.size _)
          · have q1 : ((d : Int) != 1) = true := by rw [bne_iff_ne]; omega
            have q2 : ((d : Int) != 2) = true := by rw [bne_iff_ne]; omega
            have HF := Lib.hid (HK.out.1.err HDW.out hltb.out (step_other HD.out h3 (by omega) (by omega)))
            clear h3 h12
            go_wp2_with fail
            try rw [Exit.noGoto_ret]
            refine bodyPost_ret (v := .tuple #[.agg #[.slice none 0 0, .bool false], .int .i64 a, .int .i64 4]) (by simp [results, Try.results14, go_sem, r0, r1]) rfl ?_
            exact DecTo.bad HF.out (HK.out.2.1.done (by omega) (.slice none 0 0) (.bool false)).2
      · obtain rfl : a = n := by omega
        have HF : Hid (dec bs = ⟨pes acc, false, 0, 0⟩) := by
          show _ = _
          rw [HDW.out, ← HK.out.1.walk, walk_end (by have := HN.out; omega)]
        go_wp2_with fail
        try rw [Exit.noGoto_ret]
        refine bodyPost_ret (v := .tuple #[.agg #[.slice B acc.length cB, .bool false], .int .i64 0, .int .i64 0]) (by simp [results, Try.results14, go_sem, r0, r1]) rfl ?_
        have h1 := HK.out.2.1.done (by omega) (.slice B acc.length cB) (.bool false)
        exact DecTo.good HF.out h1.1 h1.2
  · obtain ⟨⟨p, er⟩, hp⟩ : ∃ r, headP bs = r := ⟨_, rfl⟩
    rw [hp] at he ⊢
    have HD := Lib.hid (dec_head hp he)
    have hne : ((er : Int) != 0) = true := by simp; exact he
    clear he hp hb0 br hbw
    simp only
    go_wp2_with fail
    try rw [Exit.noGoto_ret]
    exact bodyPost_ret (v := .tuple #[.agg #[.slice none 0 0, .bool false], .int .i64 (p : Nat), .int .i64 (er : Nat)]) (by simp [results, Try.results14, go_sem, r0, r1]) rfl (DecTo.bad HD.out ((HBR.out.2.setCell (p := ⟨w.heap.size, 0, none⟩) (by simp) _).setCell (p := ⟨w.heap.size, 1, none⟩) (by simp) _))
end Go.Proofs.Ytbaibabnfbjdeaa
