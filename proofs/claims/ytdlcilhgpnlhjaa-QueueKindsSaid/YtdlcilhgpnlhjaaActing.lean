/-
  The queue and the document's queue beside an act: what each call leaves of the other ones.
  Conditions: none.
-/
import Derived.Test.YtdlcilhgpnlhjaaRefPut
namespace Go.Proofs.Ytdlcilhgpnlhjaa
open Go.RowKit

/-- The queue, the document's queue, and an act's own block, each in memory of its own. -/
structure Acting (w0 W : World) (q mb cb rm : Nat) (enq enm : Bool) (g gm : Option Nat) (xq xm : List Int) (cs : Array Value) : Prop where
  que : QAt W q g rm enq (iv xq)
  ref : MAt W mb gm rm enm (iv xm)
  act : Blk W cb 34 cs
  apart : ∀ b, g = some b → gm ≠ some b
  bq : w0.heap.size ≤ q
  bm : w0.heap.size ≤ mb
  bg : ∀ b, g = some b → w0.heap.size ≤ b
  bgm : ∀ b, gm = some b → w0.heap.size ≤ b
  below : Below w0.heap.size w0 W

section
variable {w0 W W' : World} {q mb cb rm : Nat} {enq enm enq' enm' : Bool} {g gm g' gm' : Option Nat} {xq xm xq' xm' : List Int} {cs : Array Value}

theorem Acting.blks (h : Acting w0 W q mb cb rm enq enm g gm xq xm cs) : q ≠ mb ∧ q ≠ cb ∧ mb ≠ cb ∧ g ≠ some mb ∧ g ≠ some cb ∧ gm ≠ some q ∧ gm ≠ some cb := by
  obtain ⟨v1, b1, r1⟩ := h.que
  obtain ⟨v2, b2, r2⟩ := h.ref
  exact ⟨b1.ne_ b2 (by decide), b1.ne_ h.act (by decide), b2.ne_ h.act (by decide), r1.ne_ b2 (by decide), r1.ne_ h.act (by decide), r2.ne_ b1 (by decide), r2.ne_ h.act (by decide)⟩

theorem Acting.keep (h : Acting w0 W q mb cb rm enq enm g gm xq xm cs) (hb : Below W.heap.size W W') : Acting w0 W' q mb cb rm enq enm g gm xq xm cs :=
  ⟨h.que.below hb h.que.blk_lt (fun _ e => h.que.row_lt e), h.ref.below hb h.ref.blk_lt (fun _ e => h.ref.row_lt e), h.act.below hb h.act.lt, h.apart, h.bq, h.bm, h.bg, h.bgm, h.below.trans (hb.mono h.below.size)⟩
theorem Acting.drew (h : Acting w0 W q mb cb rm enq enm g gm xq xm cs) : Acting w0 W.drew q mb cb rm enq enm g gm xq xm cs :=
  ⟨h.que, h.ref, h.act, h.apart, h.bq, h.bm, h.bg, h.bgm, ⟨h.below.os, h.below.tape, h.below.output, h.below.size, h.below.block⟩⟩
theorem Acting.drewN (h : Acting w0 W q mb cb rm enq enm g gm xq xm cs) (n : Nat) : Acting w0 (W.drewN n) q mb cb rm enq enm g gm xq xm cs :=
  ⟨h.que, h.ref, h.act, h.apart, h.bq, h.bm, h.bg, h.bgm, ⟨h.below.os, h.below.tape, h.below.output, h.below.size, h.below.block⟩⟩

theorem Acting.turnQ (h : Acting w0 W q mb cb rm enq enm g gm xq xm cs) (hq : QAt W' q g' rm enq' (iv xq')) (ho : Only (fun b => b = q ∨ some b = g) W W') (hg : g' = g ∨ g' = none ∨ ∃ b, g' = some b ∧ W.heap.size ≤ b) :
    Acting w0 W' q mb cb rm enq' enm g' gm xq' xm cs := by
  obtain ⟨n1, n2, n3, n4, n5, n6, n7⟩ := h.blks
  refine ⟨hq, h.ref.only ho ?_ ?_, h.act.only ho ?_, ?_, h.bq, h.bm, ?_, h.bgm, ho.more' h.below ?_⟩
  · rintro (e | e)
    · exact n1 e.symm
    · exact n4 e.symm
  · rintro b e (rfl | e')
    · exact n6 e
    · exact h.apart b e'.symm e
  · rintro (e | e)
    · exact n2 e.symm
    · exact n5 e.symm
  · rcases hg with rfl | rfl | ⟨b, rfl, hb'⟩
    · exact h.apart
    · intro b e; cases e
    · intro b' e e2; cases e; have := h.ref.row_lt e2; omega
  · rcases hg with rfl | rfl | ⟨b, rfl, hb'⟩
    · exact h.bg
    · intro b e; cases e
    · intro b' e; cases e; have := h.below.size; omega
  · rintro i hi (rfl | e)
    · have := h.bq; omega
    · have := h.bg i e.symm; omega

theorem Acting.turnM (h : Acting w0 W q mb cb rm enq enm g gm xq xm cs) (hq : MAt W' mb gm' rm enm' (iv xm')) (ho : Only (fun b => b = mb ∨ some b = gm) W W') (hg : gm' = gm ∨ ∀ b, gm' = some b → W.heap.size ≤ b) :
    Acting w0 W' q mb cb rm enq enm' g gm' xq xm' cs := by
  obtain ⟨n1, n2, n3, n4, n5, n6, n7⟩ := h.blks
  refine ⟨h.que.only ho ?_ ?_, hq, h.act.only ho ?_, ?_, h.bq, h.bm, h.bg, ?_, ho.more' h.below ?_⟩
  · rintro (e | e)
    · exact n1 e
    · exact n6 e.symm
  · rintro b e (rfl | e')
    · exact n4 e
    · exact h.apart b e e'.symm
  · rintro (e | e)
    · exact n3 e.symm
    · exact n7 e.symm
  · rcases hg with rfl | hb'
    · exact h.apart
    · intro b e e2; have := hb' b e2; have := h.que.row_lt e; omega
  · rcases hg with rfl | hb'
    · exact h.bgm
    · intro b e; have := hb' b e; have := h.below.size; omega
  · rintro i hi (rfl | e)
    · have := h.bm; omega
    · have := h.bgm i e.symm; omega

theorem A_put (h : Acting w0 W q mb cb rm enq enm g gm xq xm cs) (hrm : rm ≤ 65536) (hle : xq.length ≤ rm) {AA : Option Addr} {cc : Nat} {zs : List Int} (hr : Rd W (.slice AA zs.length cc) (iv zs)) (hz : zs.length ≤ 9223372036854775806) :
    Calls Try.prog 12 #[.pointer (some ⟨q, 0, none⟩), .slice AA zs.length cc] W fun e w' => e = .returned (.int .i64 (putN rm enq xq.length zs.length)) ∧ ∃ g', Hid (Acting w0 w' q mb cb rm enq enm g' gm (xq ++ zs.take (putN rm enq xq.length zs.length)) xm cs) ∧ w'.cell? ⟨cb, 2, none⟩ = cs[2]? := by
  refine (Put_at h.que hrm (by rw [List.length_map]; exact hle) hr (by omega)).mono ?_
  rintro e w' ⟨g', rfl, hq, ho, hg⟩
  rw [List.length_map] at hq ⊢
  rw [← List.map_take, ← List.map_append] at hq
  have hA := h.turnQ hq ho (hg.imp id .inr)
  exact ⟨rfl, g', hA, hA.act.cell 2⟩

theorem A_rput (h : Acting w0 W q mb cb rm enq enm g gm xq xm cs) (hrm : rm ≤ 65536) (hle : xm.length ≤ rm) {AA : Option Addr} {cc : Nat} {zs : List Int} (hr : ∀ W', Below w0.heap.size w0 W' → Rd W' (.slice AA zs.length cc) (iv zs)) (hz : zs.length ≤ 9223372036854775806) :
    Calls Try.prog 13 #[.pointer (some ⟨mb, 0, none⟩), .slice AA zs.length cc] W fun e w' => e = .returned (.int .i64 (putN rm enm xm.length zs.length)) ∧ ∃ gm', Hid (Acting w0 w' q mb cb rm enq enm g gm' xq (xm ++ zs.take (putN rm enm xm.length zs.length)) cs) := by
  refine (RPut_at h.ref hrm hle h.below.size h.bm h.bgm (fun W' hb => hr W' (h.below.trans hb)) hz).mono ?_
  rintro e w' ⟨g', rfl, hq, ho, hg⟩
  exact ⟨rfl, g', h.turnM hq ho (hg.imp id (by rintro ⟨b, rfl, hb⟩ b' e; cases e; exact hb))⟩

theorem A_take (h : Acting w0 W q mb cb rm enq enm g gm xq xm cs) (hm : xq.length ≤ 65536) (n : Int) :
    Calls Try.prog 15 #[.pointer (some ⟨q, 0, none⟩), .int .i64 n] W fun e w' => ∃ At ct gt g', e = .returned (.slice At (xq.take n.toNat).length ct) ∧ Hid (Acting w0 w' q mb cb rm enq enm g' gm (xq.drop n.toNat) xm cs ∧ Row w' 3 gt (.slice At (xq.take n.toNat).length ct) (iv (xq.take n.toNat))) ∧ w'.cell? ⟨cb, 1, none⟩ = cs[1]? := by
  refine (Take_at h.que (by rw [List.length_map]; exact hm) n).mono ?_
  rintro e w' ⟨v, gt, g', rfl, hrow, hq, ho, hf, hg⟩
  obtain ⟨At, ct, rfl⟩ := hrow.form
  rw [← List.map_take] at hrow ⊢
  rw [List.length_map] at hrow ⊢
  rw [← List.map_drop] at hq
  have hA := h.turnQ hq ho (hg.imp id .inl)
  exact ⟨At, ct, gt, g', rfl, ⟨hA, hrow⟩, hA.act.cell 1⟩

theorem A_rtake (h : Acting w0 W q mb cb rm enq enm g gm xq xm cs) (hm : xm.length ≤ 65536) (n : Int) {gt : Option Nat} {v : Value} {ys : List Int} (hrow : Row W 3 gt v (iv ys)) :
    Calls Try.prog 16 #[.pointer (some ⟨mb, 0, none⟩), .int .i64 n] W fun e w' => ∃ Ar cr gm', e = .returned (.slice Ar (xm.take n.toNat).length cr) ∧ Hid (Acting w0 w' q mb cb rm enq enm g gm' xq (xm.drop n.toNat) cs ∧ Rd w' (.slice Ar (xm.take n.toNat).length cr) (iv (xm.take n.toNat)) ∧ Rd w' v (iv ys)) := by
  refine (RTake_at h.ref hm n).mono ?_
  rintro e w' ⟨Ar, cr, gr, g', rfl, hr, hq, ho, hf, hg⟩
  obtain ⟨v2, b2, r2⟩ := h.ref
  exact ⟨Ar, cr, g', rfl, h.turnM hq (ho.mono (fun i _ e => .inl e)) (.inr hg), hr.rd, (hrow.only ho (fun b e e' => hrow.ne_ b2 (by decide) (by rw [e, e']))).rd⟩

theorem A_peek (h : Acting w0 W q mb cb rm enq enm g gm xq xm cs) (hm : xq.length ≤ 65536) (n : Int) :
    Calls Try.prog 17 #[.pointer (some ⟨q, 0, none⟩), .int .i64 n] W fun e w' => ∃ At ct gt, e = .returned (.slice At (xq.take n.toNat).length ct) ∧ Hid (Acting w0 w' q mb cb rm enq enm g gm xq xm cs ∧ Row w' 3 gt (.slice At (xq.take n.toNat).length ct) (iv (xq.take n.toNat))) ∧ w'.cell? ⟨cb, 1, none⟩ = cs[1]? := by
  refine (Peek_at h.que (by rw [List.length_map]; exact hm) n).mono ?_
  rintro e w' ⟨v, gt, rfl, hrow, hb, hf⟩
  obtain ⟨At, ct, rfl⟩ := hrow.form
  rw [← List.map_take] at hrow ⊢
  rw [List.length_map] at hrow ⊢
  have hA := h.keep hb
  exact ⟨At, ct, gt, rfl, ⟨hA, hrow⟩, hA.act.cell 1⟩

theorem A_rpeek (h : Acting w0 W q mb cb rm enq enm g gm xq xm cs) (hm : xm.length ≤ 65536) (n : Int) {gt : Option Nat} {v : Value} {ys : List Int} (hrow : Row W 3 gt v (iv ys)) :
    Calls Try.prog 18 #[.pointer (some ⟨mb, 0, none⟩), .int .i64 n] W fun e w' => ∃ Ar cr, e = .returned (.slice Ar (xm.take n.toNat).length cr) ∧ Hid (Acting w0 w' q mb cb rm enq enm g gm xq xm cs ∧ Rd w' (.slice Ar (xm.take n.toNat).length cr) (iv (xm.take n.toNat)) ∧ Rd w' v (iv ys)) := by
  refine (RPeek_at h.ref hm n).mono ?_
  rintro e w' ⟨v', gr, rfl, hr, hb, hf⟩
  obtain ⟨Ar, cr, rfl⟩ := hr.form
  rw [List.length_map] at hr ⊢
  exact ⟨Ar, cr, rfl, h.keep hb, hr.rd, (hrow.below hb (fun b e => hrow.lt e)).rd⟩

theorem A_end (h : Acting w0 W q mb cb rm enq enm g gm xq xm cs) :
    Calls Try.prog 19 #[.pointer (some ⟨q, 0, none⟩)] W fun e w' => e = .returned (.tuple #[]) ∧ Hid (Acting w0 w' q mb cb rm true enm g gm xq xm cs) := by
  refine (End_at h.que).mono ?_
  rintro e w' ⟨rfl, hq, ho⟩
  exact ⟨rfl, h.turnQ hq (ho.mono (fun i _ e => .inl e)) (.inl rfl)⟩
theorem Acting.endM (h : Acting w0 W q mb cb rm enq enm g gm xq xm cs) : Acting w0 (W.setCell ⟨mb, 2, none⟩ (.bool true)) q mb cb rm enq true g gm xq xm cs := by
  have ho : Only (fun b => b = mb ∨ some b = gm) W (W.setCell ⟨mb, 2, none⟩ (.bool true)) := (Only.refl _ W).setCell (p := ⟨mb, 2, none⟩) (.inl (.inl rfl)) _
  refine h.turnM (gm' := gm) ?_ ho (.inl rfl)
  have hne := h.ref.ne_
  obtain ⟨v, hb, hr⟩ := h.ref
  exact ⟨v, hb.set_ 2 _, hr.far (p := ⟨mb, 2, none⟩) hne _⟩
end

theorem putN_le (room : Nat) (en : Bool) (n m : Nat) : putN room en n m ≤ room - n := by
  unfold putN
  cases en <;> simp <;> omega

theorem quiet_l {P : Program} {f : FuncId} {args : Array Value} {w : World} {n : Nat} {v : Value}
    (h : Calls P f args (w.drewN n) fun e w' => e = .returned v ∧ w.drewN n = w') : Calls P f args (w.drewN n) fun e w'' => e = .returned v ∧ ∃ m, w'' = w.drewN m :=
  h.mono fun _ _ ⟨he, hm⟩ => ⟨he, n, hm.symm⟩
end Go.Proofs.Ytdlcilhgpnlhjaa
