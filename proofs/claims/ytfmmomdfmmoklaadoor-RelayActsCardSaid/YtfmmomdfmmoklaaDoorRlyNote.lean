/-
  The contract of the relay's note: one event more, its bytes in memory of their own, at the time that the clock tells.
  Conditions: none but that the relay was made by New; that there is room to note.
-/
import Derived.Test.YtfmmomdfmmoklaaDoorRly
import Derived.Test.YtfmmomdfmmoklaaDoorUptoLast
import Derived.Test.YtfmmomdfmmoklaaDoorAppRun
namespace Go.Proofs.YtfmmomdfmmoklaaDoor
open Go.RowKit

/-- One event more. -/
def Sys.noted (x : Sys) (d : Nat) (t : Int) (bs : List Nat) : Sys := { x with ck := some (top x.ck t), ev := x.ev ++ [⟨d, top x.ck t, bs⟩] }

/-- Blocks of F, and those made since. -/
def More (F : Nat → Prop) (w w' : World) : Nat → Prop := fun b => F b ∨ (w.heap.size ≤ b ∧ b < w'.heap.size)

section
variable {L : Nat → Nat} {r q : Nat} {x : Sys} {A : Nat → Option Addr} {c : Nat → Nat} {g : Option Nat} {v : Value} {l : List Ev} {F : Nat → Prop} {w w' : World}

/-- What lies behind all of it. -/
theorem RlyF.noted (h : RlyF L r x A c q g v l F w) {d : Nat} {t T : Int} {bs : List Nat} {w1 w2 w3 w4 : World} {A9 A8 : Option Addr} {c9 c8 : Nat} {g9 g8 : Option Nat} (hT : top x.ck t = T)
    (h1 : CAt w1 q (some T)) (o1 : Only (fun b => b = q) w w1) (hr : Row w2 5 g9 (.slice A9 bs.length c9) (bv bs)) (hg9 : ∀ b, g9 = some b → w1.heap.size ≤ b) (b2 : Below w1.heap.size w1 w2)
    (hby : ∀ b ∈ bs, b < 256) (hn : bs.length ≤ 65536) (hrow : RowS w3 69 3 g8 (.slice A8 (l.length + 1) c8) (l.length + 1) (evcs l ++ evc ⟨d, T, A9, c9, bs⟩)) (hgr : (w2.alloc (.cells #[.int .i64 d, .int .i64 T, .slice A9 bs.length c9] 69)).grownBy w3 g) (hg8 : g8 = g ∨ g8 = some (w2.heap.size + 1))
    (o4 : Only (fun b => b = r) w3 w4) (hb4 : Blk w4 r 84 (relCells L A c (x.noted d t bs) q (.slice A8 (l.length + 1) c8))) :
    Turned (Rly L r (x.noted d t bs)) F w w4 := by
  have s1 := o1.size
  have s2 := b2.size
  have s3 := hgr.size
  have s4 := o4.size
  simp only [World.size_alloc] at s3
  have hrq := h.ne_q
  have hrlt := h.blk.lt
  have hqlt := h.clk.lt
  have old1 : ∀ b, b < w.heap.size → b ≠ q → w1.heap[b]? = w.heap[b]? := fun b hlt hne => o1.block b hlt hne
  have old2 : ∀ b, b < w1.heap.size → w2.heap[b]? = w1.heap[b]? := fun b hlt => b2.block b hlt
  have old3 : ∀ b, b < w2.heap.size → g ≠ some b → w3.heap[b]? = w2.heap[b]? := fun b hlt hne => (hgr.block b (by simp; omega) (fun e => hne e.symm)).trans (Below.heap_alloc w2 _ b hlt)
  have old4 : ∀ b, b < w3.heap.size → b ≠ r → w4.heap[b]? = w3.heap[b]? := fun b hlt hne => o4.block b hlt hne
  have e2 : EL (fun _ => False) F w2 g v l := (h.el.farR (w' := w1) (t := 106) h.clk (by decide) (by decide) old1).below b2
  have e2a := (e2.grow (F' := fun b => F b ∨ w.heap.size ≤ b) fun b _ hb => .inl hb).alloc (.cells #[.int .i64 d, .int .i64 T, .slice A9 bs.length c9] 69)
  have ha : EvOk (fun b => (fun _ => False) b ∨ ((F b ∨ w.heap.size ≤ b) ∧ ∃ cs, (w2.alloc (.cells #[.int .i64 d, .int .i64 T, .slice A9 bs.length c9] 69)).heap[b]? = some (.cells cs 5 (0, 0)))) (w2.alloc (.cells #[.int .i64 d, .int .i64 T, .slice A9 bs.length c9] 69)) ⟨d, T, A9, c9, bs⟩ :=
    EvOk.ofRow (hr.alloc _) hby (by omega) fun b e hc => .inr ⟨.inr (by have := hg9 b e; omega), hc⟩
  have e3 : EL (fun _ => False) (fun b => F b ∨ w.heap.size ≤ b) w3 g8 (.slice A8 (l.length + 1) c8) (l ++ [⟨d, T, A9, c9, bs⟩]) :=
    EL.snoc e2a ha hrow hgr (by simpa using hg8) ⟨.inr (by simp; omega), id⟩
  have r3 : w3.heap[r]? = w.heap[r]? := by rw [old3 r (by omega) h.g_r, old2 r (by omega), old1 r hrlt hrq]
  have rb3 : Blk w3 r 84 (relCells L A c x q v) := h.blk.keep r3
  have q4 : w4.heap[q]? = w1.heap[q]? := by rw [old4 q (by omega) (Ne.symm hrq), old3 q (by omega) h.g_q, old2 q (by omega)]
  have hmore : ∀ b, b < w4.heap.size → (F b ∨ w.heap.size ≤ b) → More F w w4 b := fun b hlt hb => hb.imp id fun k => ⟨k, hlt⟩
  refine ⟨More F w w4, ⟨A, c, q, g8, _, l ++ [⟨d, T, A9, c9, bs⟩], hb4, ?_, ?_, ?_, fun k hk => ?_, .inl h.fr, .inl h.fq, ?_⟩, ⟨?_, ?_, ?_, by omega, fun b hlt hF => ?_⟩, ?_⟩
  · show CAt w4 q (some (top x.ck t))
    rw [hT]
    exact Blk.keep (w' := w4) h1 q4
  · exact (e3.farR rb3 (by decide) (by decide) old4).grow hmore
  · rw [pes_snoc, h.pe, ← hT]; rfl
  · have hw := h.wt k hk
    refine Byts.grow (Byts.keep hw fun b hlt hF hc => ?_) fun b _ hb => .inl hb
    obtain ⟨cs, hc⟩ := hc
    have n1 := byte_ne hc h.blk (by decide)
    have n2 : b ≠ q := byte_ne (t := 106) hc h.clk (by decide)
    have n3 : g ≠ some b := by
      intro e
      obtain ⟨cs', hh⟩ := h.el.row.obj e
      rw [hh] at hc
      injection hc with hc
      injection hc with _ hc
      cases hc
    rw [old4 b (by omega) n1, old3 b (by omega) n3, old2 b (by omega), old1 b hlt n2]
  · rintro b (hb | ⟨_, hb⟩)
    · have := h.lt b hb; omega
    · exact hb
  · exact o4.os.trans (hgr.os.trans (b2.os.trans o1.os))
  · exact o4.tape.trans (hgr.tape.trans (b2.tape.trans o1.tape))
  · exact o4.output.trans (hgr.output.trans (b2.output.trans o1.output))
  · have n1 : b ≠ r := fun e => hF (e ▸ h.fr)
    have n2 : b ≠ q := fun e => hF (e ▸ h.fq)
    have n3 : g ≠ some b := fun e => hF (h.el.fresh b e).1
    rw [old4 b (by omega) n1, old3 b (by omega) n3, old2 b (by omega), old1 b hlt n2]
  · rintro b (hb | ⟨hb, _⟩)
    · exact .inl hb
    · exact .inr hb

set_option maxHeartbeats 1000000 in
set_option maxRecDepth 100000 in
theorem note_at (h : Rly L r x F w) {d : Nat} (t : Int) {B : Option Addr} {n e0 : Nat} {gb : Option Nat} {bs : List Nat} (hb : Row w 5 gb (.slice B n e0) (bv bs)) (hby : ∀ b ∈ bs, b < 256) (hn : bs.length ≤ 65536) (hlen : x.ev.length ≤ 4096) (hall : whole x.ev ≤ 262144) :
    Calls Tryd.prog 54 #[.pointer (some ⟨r, 0, none⟩), .int .i64 d, .int .i64 t, .slice B n e0] w fun e w' => e = .returned (.tuple #[]) ∧ Turned (Rly L r (x.noted d t bs)) F w w' := by
  obtain ⟨A, c, q, g, v, l, h⟩ := h
  have hnl := hb.rd.bytes
  subst hnl
  obtain ⟨T, hT⟩ : ∃ T, top x.ck t = T := ⟨_, rfl⟩
  have hll : l.length ≤ 4096 := by rw [← pes_len, h.pe]; exact hlen
  have cq : w.cell? ⟨r, 12, none⟩ = some (.pointer (some ⟨q, 0, none⟩)) := h.blk.cell 12
  have ce : w.cell? ⟨r, 13, none⟩ = some v := h.blk.cell 13
  have h' : RlyF L r x A c q g v l F w.drew := h.only ((Only.refl (fun _ => False) w).drew) (fun _ _ e => e)
  have hb' : Row w.drew 5 gb (.slice B bs.length e0) (bv bs) := hb.keep (fun _ _ => rfl)
  have H := Lib.hid (And.intro h' hb')
  have hsee := See_at t h'.clk
  rw [hT] at hsee
  have HSee := Lib.hid hsee
  have HT := Lib.hid hT
  obtain ⟨N, hN⟩ : ∃ N : Nat, whole x.ev = N := ⟨_, rfl⟩
  have HN := Lib.hid hN
  have hN2 : N ≤ 262144 := by omega
  have HBY := Lib.hid hby
  clear h hb h' hb' hsee hT hN hall hby hlen
  go_enter Tryd.func54, Tryd.ntmps54
  go_wp2_with fail
  refine wp_region_noPanic ?_
  refine wp_region_upto (fun W => W.cell? ⟨r, 12, none⟩ = some (.pointer (some ⟨q, 0, none⟩)) ∧ W.cell? ⟨r, 13, none⟩ = some v) 19 (by kernel_rfl) ?_ (fun hHeld => ?_)
  · exact ⟨cq, ce⟩
  refine wpUpto.take 0 (by kernel_rfl) (by kernel_rfl) (by kernel_rfl) (by kernel_rfl) (by assumption) ?_
  intro o ho
  simp only [List.getElem?_toArray, List.getElem?_cons_zero, Option.some.injEq] at ho
  subst ho
  refine ⟨?_, fun _ _ _ h => h, Or.inl ⟨by rfl, ?_⟩, ?_⟩
  rotate_left
  · intro w hSw
    go_simp
    try with_reducible rfl
  simp only [Act.put, List.setIfInBounds_toArray, List.set_cons_zero, List.set_cons_succ]
  refine wpUpto.take 1 (by kernel_rfl) (by kernel_rfl) (by kernel_rfl) (by kernel_rfl) (by assumption) ?_
  intro o ho
  simp only [List.getElem?_toArray, List.getElem?_cons_succ, List.getElem?_cons_zero, Option.some.injEq] at ho
  subst ho
  refine ⟨?_, fun _ _ _ h => h, Or.inl ⟨by rfl, ?_⟩, ?_⟩
  rotate_left
  · intro w hSw
    go_simp
    try with_reducible rfl
  simp only [Act.put, List.setIfInBounds_toArray, List.set_cons_zero, List.set_cons_succ]
  refine wpUpto.take 2 (by kernel_rfl) (by kernel_rfl) (by kernel_rfl) (by kernel_rfl) (by assumption) ?_
  intro o ho
  simp only [List.getElem?_toArray, List.getElem?_cons_succ, List.getElem?_cons_zero, Option.some.injEq] at ho
  subst ho
  refine ⟨?_, fun _ _ _ h => h, Or.inl ⟨by rfl, ?_⟩, ?_⟩
  rotate_left
  · intro w hSw
    go_simp
    try with_reducible rfl
  simp only [Act.put, List.setIfInBounds_toArray, List.set_cons_zero, List.set_cons_succ]
  refine wpUpto.take 3 (by kernel_rfl) (by kernel_rfl) (by kernel_rfl) (by kernel_rfl) (by assumption) ?_
  intro o ho
  simp only [List.getElem?_toArray, List.getElem?_cons_succ, List.getElem?_cons_zero, Option.some.injEq] at ho
  subst ho
  refine ⟨?_, fun _ _ _ h => h, Or.inl ⟨by rfl, ?_⟩, ?_⟩
  rotate_left
  · intro w hSw
    go_simp
    try with_reducible rfl
  simp only [Act.put, List.setIfInBounds_toArray, List.set_cons_zero, List.set_cons_succ]
  refine wpUpto.take 4 (by kernel_rfl) (by kernel_rfl) (by kernel_rfl) (by kernel_rfl) (by assumption) ?_
  intro o ho
  simp only [List.getElem?_toArray, List.getElem?_cons_succ, List.getElem?_cons_zero, Option.some.injEq] at ho
  subst ho
  refine ⟨?_, fun _ _ _ h => h, Or.inl ⟨by rfl, ?_⟩, ?_⟩
  rotate_left
  · intro w hSw
    go_simp
    try with_reducible rfl
  simp only [Act.put, List.setIfInBounds_toArray, List.set_cons_zero, List.set_cons_succ]
  refine wpUpto.take 5 (by kernel_rfl) (by kernel_rfl) (by kernel_rfl) (by kernel_rfl) (by assumption) ?_
  intro o ho
  simp only [List.getElem?_toArray, List.getElem?_cons_succ, List.getElem?_cons_zero, Option.some.injEq] at ho
  subst ho
  refine ⟨?_, fun _ _ _ h => h, Or.inl ⟨by rfl, ?_⟩, ?_⟩
  rotate_left
  · intro w hSw
    go_simp
    try with_reducible rfl
  simp only [Act.put, List.setIfInBounds_toArray, List.set_cons_zero, List.set_cons_succ]
  refine wpUpto.take 6 (by kernel_rfl) (by kernel_rfl) (by kernel_rfl) (by kernel_rfl) (by assumption) ?_
  intro o ho
  simp only [List.getElem?_toArray, List.getElem?_cons_succ, List.getElem?_cons_zero, Option.some.injEq] at ho
  subst ho
  refine ⟨?_, fun _ _ _ h => h, Or.inl ⟨by rfl, ?_⟩, ?_⟩
  rotate_left
  · intro w hSw
    go_simp
    try with_reducible rfl
  simp only [Act.put, List.setIfInBounds_toArray, List.set_cons_zero, List.set_cons_succ]
  refine wpUpto.take 7 (by kernel_rfl) (by kernel_rfl) (by kernel_rfl) (by kernel_rfl) (by assumption) ?_
  intro o ho
  simp only [List.getElem?_toArray, List.getElem?_cons_succ, List.getElem?_cons_zero, Option.some.injEq] at ho
  subst ho
  refine ⟨?_, fun _ _ _ h => h, Or.inl ⟨by rfl, ?_⟩, ?_⟩
  rotate_left
  · intro w hSw
    go_simp
    try with_reducible rfl
  simp only [Act.put, List.setIfInBounds_toArray, List.set_cons_zero, List.set_cons_succ]
  refine wpUpto.take 8 (by kernel_rfl) (by kernel_rfl) (by kernel_rfl) (by kernel_rfl) (by assumption) ?_
  intro o ho
  simp only [List.getElem?_toArray, List.getElem?_cons_succ, List.getElem?_cons_zero, Option.some.injEq] at ho
  subst ho
  refine ⟨?_, fun _ _ _ h => h, Or.inl ⟨by rfl, ?_⟩, ?_⟩
  rotate_left
  · intro w hSw
    go_simp
    try with_reducible rfl
  simp only [Act.put, List.setIfInBounds_toArray, List.set_cons_zero, List.set_cons_succ]
  refine wpUpto.take 9 (by kernel_rfl) (by kernel_rfl) (by kernel_rfl) (by kernel_rfl) (by assumption) ?_
  intro o ho
  simp only [List.getElem?_toArray, List.getElem?_cons_succ, List.getElem?_cons_zero, Option.some.injEq] at ho
  subst ho
  refine ⟨?_, fun _ _ _ h => h, Or.inl ⟨by rfl, ?_⟩, ?_⟩
  rotate_left
  · intro w hSw
    go_simp
    try with_reducible rfl
  simp only [Act.put, List.setIfInBounds_toArray, List.set_cons_zero, List.set_cons_succ]
  refine wpUpto.take 10 (by kernel_rfl) (by kernel_rfl) (by kernel_rfl) (by kernel_rfl) (by assumption) ?_
  intro o ho
  simp only [List.getElem?_toArray, List.getElem?_cons_succ, List.getElem?_cons_zero, Option.some.injEq] at ho
  subst ho
  refine ⟨?_, fun _ _ _ h => h, Or.inl ⟨by rfl, ?_⟩, ?_⟩
  rotate_left
  · intro w hSw
    go_simp
    try with_reducible rfl
  simp only [Act.put, List.setIfInBounds_toArray, List.set_cons_zero, List.set_cons_succ]
  refine wpUpto.take 12 (by kernel_rfl) (by kernel_rfl) (by kernel_rfl) (by kernel_rfl) (by assumption) ?_
  intro o ho
  simp only [List.getElem?_toArray, List.getElem?_cons_succ, List.getElem?_cons_zero, Option.some.injEq] at ho
  subst ho
  refine ⟨?_, fun _ _ _ h => h, Or.inl ⟨by rfl, ?_⟩, ?_⟩
  rotate_left
  · intro w hSw
    go_simp
    try with_reducible rfl
  simp only [Act.put, List.setIfInBounds_toArray, List.set_cons_zero, List.set_cons_succ]
  refine wpUpto.one 11 (by kernel_rfl) ?_
  intro o ho K hK
  simp only [List.getElem?_toArray, List.getElem?_cons_succ, List.getElem?_cons_zero, Option.some.injEq] at ho
  subst ho
  go_simp
  go_at_call 57
  refine HSee.out.mono ?_
  rintro e w1 ⟨rfl, hc1, ho1⟩
  have bR1 := H.out.1.blk.only ho1 H.out.1.ne_q
  have m12 : w1.cell? ⟨r, 12, none⟩ = some (.pointer (some ⟨q, 0, none⟩)) := bR1.cell 12
  have m13 : w1.cell? ⟨r, 13, none⟩ = some v := bR1.cell 13
  have hrb1 : Row w1 5 gb (.slice B bs.length e0) (bv bs) := H.out.2.only ho1 (fun b e e2 => H.out.2.ne_ (t := 106) H.out.1.clk (by decide) (e2 ▸ e))
  have H1 := Lib.hid (And.intro hc1 (And.intro ho1 (And.intro bR1 hrb1)))
  clear hc1 ho1 bR1 hrb1
  refine hK.out _ _ ?_ (fun hHeld => ?_)
  · exact ⟨m12, m13⟩
  clear hK K
  try simp only [Act.put, List.setIfInBounds_toArray, List.set_cons_zero, List.set_cons_succ]
  refine wpUpto.one 13 (by kernel_rfl) ?_
  intro o ho K hK
  simp only [List.getElem?_toArray, List.getElem?_cons_succ, List.getElem?_cons_zero, Option.some.injEq] at ho
  subst ho
  go_simp
  go_at_call 37
  refine (Clone_any _ _ _ bs w1 H1.out.2.2.2.rd (by omega)).mono ?_
  rintro e w2 ⟨A9, c9, g9, rfl, hr9, hg9, hb9⟩
  have bR2 := H1.out.2.2.1.below hb9 H1.out.2.2.1.lt
  have n12 : w2.cell? ⟨r, 12, none⟩ = some (.pointer (some ⟨q, 0, none⟩)) := bR2.cell 12
  have n13 : w2.cell? ⟨r, 13, none⟩ = some v := bR2.cell 13
  have hrow2 := ((H.out.1.el.farR (w' := w1) (t := 106) H.out.1.clk (by decide) (by decide) fun b hlt hne => H1.out.2.1.block b hlt hne).below hb9).row.alloc (.cells #[.int .i64 d, .int .i64 T, .slice A9 bs.length c9] 69)
  obtain ⟨A8, c8, w3, g8, hrun, hrow3, hgr3, hg8⟩ := append_ev 30 ⟨d, T, A9, c9, bs⟩ hrow2 (by omega)
  have bR3 := (bR2.alloc (.cells #[.int .i64 d, .int .i64 T, .slice A9 bs.length c9] 69)).keep (hgr3.block r (by have := bR2.lt; simp; omega) (fun e => H.out.1.g_r e.symm))
  have p12 : w3.cell? ⟨r, 12, none⟩ = some (.pointer (some ⟨q, 0, none⟩)) := bR3.cell 12
  have p13 : w3.cell? ⟨r, 13, none⟩ = some v := bR3.cell 13
  have f13 := bR3.frozen 13
  have lR2 : r < w2.heap.size := bR2.lt
  have H2 := Lib.hid (And.intro hr9 (And.intro hg9 (And.intro hb9 (And.intro hrow3 (And.intro hgr3 (And.intro hg8 bR3))))))
  clear hr9 hg9 hb9 hrow3 hgr3 hg8 bR3 bR2 hrow2
  refine hK.out _ _ ?_ (fun hHeld => ?_)
  · exact ⟨n12, n13⟩
  clear hK K
  try simp only [Act.put, List.setIfInBounds_toArray, List.set_cons_zero, List.set_cons_succ]
  refine wpUpto.one 14 (by kernel_rfl) ?_
  intro o ho K hK
  simp only [List.getElem?_toArray, List.getElem?_cons_succ, List.getElem?_cons_zero, Option.some.injEq] at ho
  subst ho
  go_simp
  refine hK.out _ _ ?_ (fun hHeld => ?_)
  · exact ⟨n12, n13⟩
  clear hK K
  try simp only [Act.put, List.setIfInBounds_toArray, List.set_cons_zero, List.set_cons_succ]
  refine wpUpto.one 15 (by kernel_rfl) ?_
  intro o ho K hK
  simp only [List.getElem?_toArray, List.getElem?_cons_succ, List.getElem?_cons_zero, Option.some.injEq] at ho
  subst ho
  go_simp
  refine hK.out _ _ ?_ (fun hHeld => ?_)
  · go_keep
  clear hK K
  try simp only [Act.put, List.setIfInBounds_toArray, List.set_cons_zero, List.set_cons_succ]
  refine wpUpto.one 16 (by kernel_rfl) ?_
  intro o ho K hK
  simp only [List.getElem?_toArray, List.getElem?_cons_succ, List.getElem?_cons_zero, Option.some.injEq] at ho
  subst ho
  refine step_append_run rfl (.tmp 12) (.tmp 23) _ rfl _ _ _ _ rfl rfl hrun ?_
  refine hK.out _ _ ?_ (fun hHeld => ?_)
  · exact ⟨p12, p13⟩
  clear hK K
  try simp only [Act.put, List.setIfInBounds_toArray, List.set_cons_zero, List.set_cons_succ]
  refine wpUpto.one 17 (by kernel_rfl) ?_
  intro o ho K hK
  simp only [List.getElem?_toArray, List.getElem?_cons_succ, List.getElem?_cons_zero, Option.some.injEq] at ho
  subst ho
  go_simp
  refine hK.out _ _ ?_ (fun hHeld => ?_)
  · exact ⟨p12, p13⟩
  clear hK K
  try simp only [Act.put, List.setIfInBounds_toArray, List.set_cons_zero, List.set_cons_succ]
  refine wpUpto.one 18 (by kernel_rfl) ?_
  intro o ho K hK
  simp only [List.getElem?_toArray, List.getElem?_cons_succ, List.getElem?_cons_zero, Option.some.injEq] at ho
  subst ho
  go_simp
  refine hK.out _ _ ?_ (fun hHeld => ?_)
  · exact ⟨p12, p13⟩
  clear hK K
  try simp only [Act.put, List.setIfInBounds_toArray, List.set_cons_zero, List.set_cons_succ]
  refine wpUpto.last (by kernel_rfl) ?_
  intro o ho K hK
  simp only [List.getElem?_toArray, List.getElem?_cons_succ, List.getElem?_cons_zero, Option.some.injEq] at ho
  subst ho
  go_simp
  refine hK.out _ _ ?_
  clear hK K
  refine wpUpto.done (by kernel_rfl) ?_ _
  refine NoPanic.normal ?_
  try simp only [Act.put, List.setIfInBounds_toArray, List.set_cons_zero, List.set_cons_succ]
  have hN14 := HN.out
  have z14 : ∀ y, (w3.setCell ⟨r, 13, none⟩ y).cell? ⟨r, 14, none⟩ = some (.int .i64 (N : Int)) := fun y => by rw [← hN14]; exact (H2.out.2.2.2.2.2.2.set_ 13 y).cell 14
  have f14 : ∀ y, (w3.setCell ⟨r, 13, none⟩ y).frozen? ⟨r, 14, none⟩ = false := fun y => (H2.out.2.2.2.2.2.2.set_ 13 y).frozen 14
  clear hN14
  go_wp2_with fail
  go_end0
  refine ⟨rfl, ?_⟩
  obtain ⟨hr9, hg9, hb9, hrow3, hgr3, hg8, bR3⟩ := H2.out
  have := RlyF.noted H.out.1 (d := d) HT.out H1.out.1 H1.out.2.1 hr9 hg9 hb9 HBY.out hn hrow3 hgr3 hg8 (w4 := (w3.setCell ⟨r, 13, none⟩ (.slice A8 (l.length + 1) c8)).setCell ⟨r, 14, none⟩ (.int .i64 ((N : Int) + bs.length)))
    (((Only.refl (fun b => b = r) w3).setCell (p := ⟨r, 13, none⟩) (.inl rfl) _).setCell (p := ⟨r, 14, none⟩) (.inl rfl) _) ?_
  · obtain ⟨F', hp, ho, hF⟩ := this
    exact ⟨F', hp, ⟨ho.os, ho.tape, ho.output, ho.size, ho.block⟩, hF⟩
  · have hcs := (bR3.set_ 13 (.slice A8 (l.length + 1) c8)).set_ 14 (.int .i64 ((N : Int) + bs.length))
    have e : whole (x.ev ++ [⟨d, top x.ck t, bs⟩]) = N + bs.length := by rw [whole_append, whole_cons, HN.out]; simp [whole]
    have e2 : (relCells L A c (x.noted d t bs) q (.slice A8 (l.length + 1) c8)) = ((relCells L A c x q v).setIfInBounds 13 (.slice A8 (l.length + 1) c8)).setIfInBounds 14 (.int .i64 ((N : Int) + bs.length)) := by
      simp [relCells, Sys.noted, e]
    rw [e2]
    exact hcs
end
end Go.Proofs.YtfmmomdfmmoklaaDoor
