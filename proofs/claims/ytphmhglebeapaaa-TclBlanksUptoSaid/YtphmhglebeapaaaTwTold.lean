/-
  tcl's gathered (parts, variable) and told: their contracts.
  Conditions: a text of at most 16777216 bytes.
-/
import Derived.Test.YtphmhglebeapaaaTwMath
import Derived.Test.YtphmhglebeapaaaTwHN
import Derived.Test.YtphmhglebeapaaaTROne
import Derived.Test.YtphmhglebeapaaaUptoLast
import Derived.Test.YtphmhglebeapaaaAppRun
import Derived.Test.YtphmhglebeapaaaCut
namespace Go.Proofs.Ytphmhglebeapaaa
open Go.RowKit

theorem PRow.keep {w0 W W' : World} {g : Option Nat} {v : Value} {l : List Prt} (h : PRow w0 W g v l) (hk : ∀ b, g = some b → W'.heap[b]? = W.heap[b]?) : PRow w0 W' g v l := by
  obtain ⟨q, h1, h2, h3, _⟩ := h
  exact ⟨q, h1, h2.keep hk, h3, fun _ _ => trivial⟩
theorem run_zero (b o n c : Nat) (hc : 0 < c) (W : World) : (Instr.slice 41 (.slice (some ⟨b, o, none⟩) n c) none (some (.int .i64 0)) none).run Try.prog W = .ok (.slice (some ⟨b, o, none⟩) 0 c) W := by
  obtain ⟨i0, hi0, hz0, hz1, hz2⟩ := info_parts byte_info
  have hs : (sizeOf (Try.prog.elem 41)).run Try.prog W = .ok 1 W := by
    rw [show Try.prog.elem 41 = 5 by kernel_rfl]
    simp [sizeOf, typeInfo, hi0, hz1]
  rw [run_slice_h W 41 (some ⟨b, o, none⟩) n c (by kernel_rfl) .i64 0 (by omega) (by omega), hs]
  have : ¬ c = 0 := by omega
  simp [Result.andThen, sliced, add_eq, this]
/-- What is gathered, in block q: the list in row g, the text that goes on in row h; all of it since world w0. -/
structure Gath (w0 W : World) (q : Nat) (g h : Option Nat) (ps : List Prt) (row : List Nat) (A : Option Addr) (c : Nat) (A' : Option Addr) (c' : Nat) : Prop where
  blk : Blk W q 106 #[.slice A ps.length c, .slice A' row.length c']
  own : w0.heap.size ≤ q
  lst : PRow w0 W g (.slice A ps.length c) ps
  rw_ : RowAt w0 W A' c' h row
section
variable {w0 W W' : World} {q : Nat} {g h : Option Nat} {ps : List Prt} {row : List Nat} {A A' : Option Addr} {c c' : Nat}
theorem Gath.below (H : Gath w0 W q g h ps row A c A' c') (hb : Below W.heap.size W W') : Gath w0 W' q g h ps row A c A' c' :=
  ⟨H.blk.below hb H.blk.lt, H.own, URow.below noSub_ok H.lst hb, H.rw_.below hb⟩
theorem Gath.bel (H : Gath w0 W q g h ps row A c A' c') : Below w0.heap.size w0 W := H.rw_.2.2
theorem Gath.obj (H : Gath w0 W q g h ps row A c A' c') {b : Nat} (e : g = some b) : ∃ cs, W.heap[b]? = some (.cells cs 47 (0, 0)) := by obtain ⟨_, _, h2, _⟩ := H.lst; exact h2.obj e
theorem Gath.gq (H : Gath w0 W q g h ps row A c A' c') : g ≠ some q := fun e => by
  obtain ⟨cs, hh⟩ := H.obj e
  exact Blk.ne_ (t := 47) hh H.blk (by decide) rfl
theorem Gath.hq (H : Gath w0 W q g h ps row A c A' c') : h ≠ some q := H.rw_.1.ne_ H.blk (by decide)
theorem Gath.hg (H : Gath w0 W q g h ps row A c A' c') {b : Nat} (e : g = some b) : h ≠ some b := by
  obtain ⟨cs, hh⟩ := H.obj e
  exact H.rw_.1.ne_ (t := 47) (cs := cs) hh (by decide)
theorem Gath.new (w : World) : Gath w (w.alloc (.cells #[.slice none 0 0, .slice none 0 0] 106)) w.heap.size none none [] [] none 0 none 0 :=
  ⟨Blk.new w _ _, Nat.le_refl _, URow.nil, Row.nil _ _, by simp, (Below.refl _ w).alloc (Nat.le_refl _) _⟩
/-- The list was appended to: it is stored. -/
theorem Gath.list {ps2 : List Prt} {W2 : World} {A2 : Option Addr} {c2 : Nat} {g2 : Option Nat} (H : Gath w0 W q g h ps row A c A' c') (hr : PRow w0 W2 g2 (.slice A2 ps2.length c2) ps2) (hg : W.grownBy W2 g) (hg2 : g2 = g ∨ g2 = some W.heap.size) :
    Gath w0 (W2.setCell ⟨q, 0, none⟩ (.slice A2 ps2.length c2)) q g2 h ps2 row A2 c2 A' c' := by
  have hblk : Blk W2 q 106 #[.slice A ps.length c, .slice A' row.length c'] := H.blk.keep (hg.block q H.blk.lt fun e => H.gq e.symm)
  have hgq2 : ∀ b, g2 = some b → b ≠ q := fun b e hb => by
    rcases hg2 with rfl | rfl
    · exact H.gq (by rw [e, hb])
    · have := H.blk.lt; cases e; omega
  have hrow : RowAt w0 W2 A' c' h row := by
    refine ⟨H.rw_.1.keep fun b e => hg.block b (H.rw_.1.lt e) fun e2 => H.hg e2.symm e, H.rw_.2.1, ?_⟩
    exact H.bel.grown hg H.bel.size (fun k e => by have := URow.own H.lst e; omega)
  exact ⟨hblk.set_ 0 _, H.own, hr.keep fun b e => Below.heap_setCell _ _ _ _ (hgq2 b e), hrow.1.far (by exact H.hq) _, hrow.2.1, hrow.2.2.setCell (p := ⟨q, 0, none⟩) H.own _⟩
/-- The text that goes on was appended to: it is stored. -/
theorem Gath.text {row2 : List Nat} {W1 W2 : World} {A2 : Option Addr} {c2 : Nat} {h2 : Option Nat} (H : Gath w0 W q g h ps row A c A' c') (hb : Below W.heap.size W W1) (hr : RowAt w0 W2 A2 c2 h2 row2) (hg : W1.grownBy W2 h) :
    Gath w0 (W2.setCell ⟨q, 1, none⟩ (.slice A2 row2.length c2)) q g h2 ps row2 A c A2 c2 := by
  have H1 := H.below hb
  have hblk : Blk W2 q 106 #[.slice A ps.length c, .slice A' row.length c'] := H1.blk.keep (hg.block q H1.blk.lt fun e => H1.hq e.symm)
  have hlst : PRow w0 W2 g (.slice A ps.length c) ps := H1.lst.keep fun b e => hg.block b (URow.lt H1.lst e) fun e2 => H1.hg e e2.symm
  exact ⟨hblk.set_ 1 _, H.own, hlst.keep fun b e => Below.heap_setCell _ _ _ _ (fun e2 => H.gq (by rw [e, e2])), hr.1.far (hr.1.ne_ hblk (by decide)) _, hr.2.1, hr.2.2.setCell (p := ⟨q, 1, none⟩) H.own _⟩
theorem Gath.cut {b o : Nat} (H : Gath w0 W q g h ps row A c (some ⟨b, o, none⟩) c') : Gath w0 (W.setCell ⟨q, 1, none⟩ (.slice (some ⟨b, o, none⟩) 0 c')) q g h ps [] A c (some ⟨b, o, none⟩) c' := by
  obtain ⟨A2, c2, e, hle, hm, h1, hg⟩ := H.rw_.1
  injection e with e1 e2 e3
  subst e1 e3
  refine ⟨H.blk.set_ 1 _, H.own, H.lst.keep fun b e => Below.heap_setCell _ _ _ _ (fun e2 => H.gq (by rw [e, e2])), ?_, H.rw_.2.1, H.rw_.2.2.setCell (p := ⟨q, 1, none⟩) H.own _⟩
  refine Row.far (g := h) (p := ⟨q, 1, none⟩) ⟨_, c', rfl, Nat.zero_le _, hm, fun u hu => (by change u ∈ [] at hu; cases hu), ?_⟩ H.hq _
  rcases hg with hg | ⟨b', o', cs, hc, hg, ha, hb, hfit, hx⟩
  · exact .inl hg
  · exact .inr ⟨b', o', cs, hc, hg, ha, hb, hfit, fun j u hj => (by change ([] : List Value)[j]? = some u at hj; cases hj)⟩
theorem Gath.form (H : Gath w0 W q g h ps row A c A' c') (h0 : row ≠ []) : ∃ b o, A' = some ⟨b, o, none⟩ ∧ 0 < c' := by
  obtain ⟨A2, c2, e, hle, hm, h1, hg⟩ := H.rw_.1
  injection e with e1 e2 e3
  subst e1 e3
  have := List.length_pos_iff.2 h0
  rw [bv_len] at hle
  rcases hg with ⟨hg, _⟩ | ⟨b', o', cs, hc, hg, ha, hb, hfit, hx⟩
  · omega
  · exact ⟨b', o', ha, hc⟩
end
/-- What parts tells and leaves: the text that went on is a part. -/
def GTo (w0 : World) (q : Nat) (ps : List Prt) (e : Ending) (w' : World) : Prop :=
  ∃ A c g h A' c', e = .returned (.slice A ps.length c) ∧ Gath w0 w' q g h ps [] A c A' c'

set_option maxRecDepth 100000 in
set_option maxHeartbeats 4000000 in
theorem gparts_is {w0 w : World} {q : Nat} {g h : Option Nat} {ps : List Prt} {row : List Nat} {A A' : Option Addr} {c c' : Nat} (H : Gath w0 w q g h ps row A c A' c') (hb : ∀ x ∈ row, x < 256) (hp : ps.length ≤ 16777216) (hr : row.length ≤ 16777216) :
    Calls Try.prog 71 #[.pointer (some ⟨q, 0, none⟩)] w (GTo w0 q (flatG ps row)) := by
  by_cases h0 : row = []
  · subst h0
    have c0 : w.cell? ⟨q, 0, none⟩ = some (.slice A ps.length c) := by rw [H.blk.cell]; rfl
    have c1 : w.cell? ⟨q, 1, none⟩ = some (.slice A' 0 c') := by rw [H.blk.cell]; rfl
    have HG := Lib.hid H
    clear H
    go_enter Try.func71, Try.ntmps71
    go_wp2_with fail
    go_ret
    exact ⟨A, c, g, h, A', c', rfl, HG.out⟩
  · obtain ⟨b, o, rfl, hc'⟩ := H.form h0
    obtain ⟨n, hn⟩ : ∃ n, n = row.length := ⟨_, rfl⟩
    obtain ⟨m, hm⟩ : ∃ m, m = ps.length := ⟨_, rfl⟩
    have hn0 : 0 < n := by rw [hn]; exact List.length_pos_iff.2 h0
    have c0 : w.cell? ⟨q, 0, none⟩ = some (.slice A m c) := by rw [H.blk.cell, hm]; rfl
    have c1 : w.cell? ⟨q, 1, none⟩ = some (.slice (some ⟨b, o, none⟩) n c') := by rw [H.blk.cell, hn]; rfl
    have f0 : w.frozen? ⟨q, 0, none⟩ = false := H.blk.frozen 0
    have q0 : decide ((0 : Int) < (n : Int)) = true := decide_eq_true (by omega)
    have hb1 : Below w.heap.size w (w.alloc (.cells #[.bool false, .string (str row)] 47)).drew := ((Below.refl _ w).alloc (Nat.le_refl _) _).drew
    have H1 := H.below hb1
    obtain ⟨A3, c3, W3, g3, hap, hR3, hG3, hE3⟩ := URow.run (P := Try.prog) (x := (⟨false, row⟩ : Prt)) (u := .bool false) noSub_ok H1.lst (by have := H.bel.size; simp; omega) trivial 42 42 Try.underlying42 part_info rfl (.slice (some ⟨w.heap.size, 0, none⟩) 1 1) (src_cells (V := w.drew) (C := #[.bool false, .string (str row)]) Try.underlying42 w.heap.size rfl rfl rfl (by intro u hu; simp [pcell] at hu; rcases hu with rfl | rfl <;> rfl)) (by omega) (by omega)
    have hl2 : (ps ++ [(⟨false, row⟩ : Prt)]).length = m + 1 := by rw [List.length_append, List.length_singleton, hm]
    rw [← hm] at hap hR3
    rw [← hl2] at hR3
    have HRUN := Lib.hid hap
    have hL := Gath.list H1 hR3 hG3 hE3
    obtain ⟨b3, o3, hA3, -⟩ : ∃ b3 o3, (some ⟨b, o, none⟩ : Option Addr) = some ⟨b3, o3, none⟩ ∧ True := ⟨b, o, rfl, trivial⟩
    have hC := hL.cut
    rw [hl2] at hC
    have HFIN : Hid (Gath w0 ((W3.setCell ⟨q, 0, none⟩ (.slice A3 (m + 1) c3)).setCell ⟨q, 1, none⟩ (.slice (some ⟨b, o, none⟩) 0 c')) q g3 h (flatG ps row) [] A3 c3 (some ⟨b, o, none⟩) c') := Lib.hid (by unfold flatG; rw [if_neg h0]; exact hC)
    rw [hl2] at hL
    have hstr : ∀ {W}, RowAt w0 W (some ⟨b, o, none⟩) c' h row → (convert 41 9 (.slice (some ⟨b, o, none⟩) n c')).run Try.prog W = .ok (.string (str row)) W := fun hra => by
      have := hra.1.rd
      rw [← hn] at this
      exact run_str this
    have hW3 : Gath w0 W3 q g h ps row A c (some ⟨b, o, none⟩) c' ∨ True := .inr trivial
    have hB3 : Blk W3 q 106 #[.slice A ps.length c, .slice (some ⟨b, o, none⟩) row.length c'] := H1.blk.keep (hG3.block q H1.blk.lt fun e => H1.gq e.symm)
    have hR3' : RowAt w0 W3 (some ⟨b, o, none⟩) c' h row := ⟨H1.rw_.1.keep fun b e => hG3.block b (H1.rw_.1.lt e) fun e2 => H1.hg e2.symm e, H1.rw_.2.1, H1.bel.grown hG3 H1.bel.size (fun k e => by have := URow.own H1.lst e; omega)⟩
    have s0 := hstr (W := w.drew) (H.rw_.below ((Below.refl _ w).drew))
    have HLD : Hid ((((w.alloc (.cells #[.bool false, .string (str row)] 47)).drew.cell? ⟨q, 0, none⟩ = some (.slice A m c)) ∧ ((w.alloc (.cells #[.bool false, .string (str row)] 47)).drew.frozen? ⟨q, 0, none⟩ = false) ∧ ((w.alloc (.cells #[.bool false, .string (str row)] 47)).drew.cell? ⟨q, 1, none⟩ = some (.slice (some ⟨b, o, none⟩) n c')) ∧ (convert 41 9 (.slice (some ⟨b, o, none⟩) n c')).run Try.prog (w.alloc (.cells #[.bool false, .string (str row)] 47)).drew = .ok (.string (str row)) (w.alloc (.cells #[.bool false, .string (str row)] 47)).drew) ∧ (W3.cell? ⟨q, 0, none⟩ = some (.slice A m c) ∧ W3.frozen? ⟨q, 0, none⟩ = false ∧ W3.cell? ⟨q, 1, none⟩ = some (.slice (some ⟨b, o, none⟩) n c') ∧ (convert 41 9 (.slice (some ⟨b, o, none⟩) n c')).run Try.prog W3 = .ok (.string (str row)) W3)) := Lib.hid
      ⟨⟨by rw [H1.blk.cell, hm]; rfl, H1.blk.frozen 0, by rw [H1.blk.cell, hn]; rfl, hstr H1.rw_⟩, by rw [hB3.cell, hm]; rfl, hB3.frozen 0, by rw [hB3.cell, hn]; rfl, hstr hR3'⟩
    have n1 : (W3.setCell ⟨q, 0, none⟩ (.slice A3 (m + 1) c3)).cell? ⟨q, 1, none⟩ = some (.slice (some ⟨b, o, none⟩) n c') := by rw [hL.blk.cell, hn]; rfl
    have n2 : (W3.setCell ⟨q, 0, none⟩ (.slice A3 (m + 1) c3)).frozen? ⟨q, 1, none⟩ = false := hL.blk.frozen 1
    have hC0 := hC.blk.cell 0
    have hz := run_zero b o n c' hc'
    have n3 : ((W3.setCell ⟨q, 0, none⟩ (.slice A3 (m + 1) c3)).setCell ⟨q, 1, none⟩ (.slice (some ⟨b, o, none⟩) 0 c')).cell? ⟨q, 0, none⟩ = some (.slice A3 (m + 1) c3) := by rw [hC.blk.cell, hl2]; rfl
    have hHL : Hid ((flatG ps row).length = m + 1) := Lib.hid (by unfold flatG; rw [if_neg h0]; exact hl2)
    clear H H1 hb1 hap hR3 hG3 hE3 hL hC hW3 hB3 hR3' hC0 hstr hl2 hb h0 hn hm hA3 b3 o3
    go_enter Try.func71, Try.ntmps71
    go_wp2_with fail
    refine wp_region_noPanic ?_
    refine wp_region_upto (fun W => W.cell? ⟨q, 0, none⟩ = some (.slice A m c) ∧ W.frozen? ⟨q, 0, none⟩ = false ∧ W.cell? ⟨q, 1, none⟩ = some (.slice (some ⟨b, o, none⟩) n c') ∧ (convert 41 9 (.slice (some ⟨b, o, none⟩) n c')).run Try.prog W = .ok (.string (str row)) W) 15 (by kernel_rfl) ?_ (fun hHeld => ?_)
    · exact ⟨c0, f0, c1, s0⟩
    refine wpUpto.take 0 (by kernel_rfl) (by kernel_rfl) (by kernel_rfl) (by kernel_rfl) (by assumption) ?_
    intro o ho
    simp only [List.getElem?_toArray, List.getElem?_cons_zero, Option.some.injEq] at ho
    subst ho
    refine ⟨?_, fun _ _ _ h => h, Or.inl ⟨by rfl, ?_⟩, ?_⟩
    rotate_left
    · intro w hSw
      go_simp
      try with_reducible rfl
    simp only [Act.put, List.setIfInBounds_toArray, List.set_cons_zero, List.set_cons_succ]
    refine wpUpto.take 1 (by kernel_rfl) (by kernel_rfl) (by kernel_rfl) (by kernel_rfl) (by assumption) ?_
    intro o ho
    simp only [List.getElem?_toArray, List.getElem?_cons_succ, List.getElem?_cons_zero, Option.some.injEq] at ho
    subst ho
    refine ⟨?_, fun _ _ _ h => h, Or.inl ⟨by rfl, ?_⟩, ?_⟩
    rotate_left
    · intro w hSw
      go_simp
      try with_reducible rfl
    simp only [Act.put, List.setIfInBounds_toArray, List.set_cons_zero, List.set_cons_succ]
    refine wpUpto.take 2 (by kernel_rfl) (by kernel_rfl) (by kernel_rfl) (by kernel_rfl) (by assumption) ?_
    intro o ho
    simp only [List.getElem?_toArray, List.getElem?_cons_succ, List.getElem?_cons_zero, Option.some.injEq] at ho
    subst ho
    refine ⟨?_, fun _ _ _ h => h, Or.inl ⟨by rfl, ?_⟩, ?_⟩
    rotate_left
    · intro w hSw
      go_simp
      try with_reducible rfl
    simp only [Act.put, List.setIfInBounds_toArray, List.set_cons_zero, List.set_cons_succ]
    refine wpUpto.take 3 (by kernel_rfl) (by kernel_rfl) (by kernel_rfl) (by kernel_rfl) (by assumption) ?_
    intro o ho
    simp only [List.getElem?_toArray, List.getElem?_cons_succ, List.getElem?_cons_zero, Option.some.injEq] at ho
    subst ho
    refine ⟨?_, fun _ _ _ h => h, Or.inl ⟨by rfl, ?_⟩, ?_⟩
    rotate_left
    · intro w hSw
      go_simp
      try with_reducible rfl
    simp only [Act.put, List.setIfInBounds_toArray, List.set_cons_zero, List.set_cons_succ]
    refine wpUpto.take 4 (by kernel_rfl) (by kernel_rfl) (by kernel_rfl) (by kernel_rfl) (by assumption) ?_
    intro o ho
    simp only [List.getElem?_toArray, List.getElem?_cons_succ, List.getElem?_cons_zero, Option.some.injEq] at ho
    subst ho
    refine ⟨?_, fun _ _ _ h => h, Or.inl ⟨by rfl, ?_⟩, ?_⟩
    rotate_left
    · intro w hSw
      go_simp
      try with_reducible rfl
    simp only [Act.put, List.setIfInBounds_toArray, List.set_cons_zero, List.set_cons_succ]
    refine wpUpto.take 5 (by kernel_rfl) (by kernel_rfl) (by kernel_rfl) (by kernel_rfl) (by assumption) ?_
    intro o ho
    simp only [List.getElem?_toArray, List.getElem?_cons_succ, List.getElem?_cons_zero, Option.some.injEq] at ho
    subst ho
    refine ⟨?_, fun _ _ _ h => h, Or.inl ⟨by rfl, ?_⟩, ?_⟩
    rotate_left
    · intro w hSw
      go_simp
      try with_reducible rfl
    simp only [Act.put, List.setIfInBounds_toArray, List.set_cons_zero, List.set_cons_succ]
    refine wpUpto.take 6 (by kernel_rfl) (by kernel_rfl) (by kernel_rfl) (by kernel_rfl) (by assumption) ?_
    intro o ho
    simp only [List.getElem?_toArray, List.getElem?_cons_succ, List.getElem?_cons_zero, Option.some.injEq] at ho
    subst ho
    refine ⟨?_, fun _ _ _ h => h, Or.inl ⟨by rfl, ?_⟩, ?_⟩
    rotate_left
    · intro w hSw
      go_simp
      try with_reducible rfl
    simp only [Act.put, List.setIfInBounds_toArray, List.set_cons_zero, List.set_cons_succ]
    refine wpUpto.take 7 (by kernel_rfl) (by kernel_rfl) (by kernel_rfl) (by kernel_rfl) (by assumption) ?_
    intro o ho
    simp only [List.getElem?_toArray, List.getElem?_cons_succ, List.getElem?_cons_zero, Option.some.injEq] at ho
    subst ho
    refine ⟨?_, fun _ _ _ h => h, Or.inl ⟨by rfl, ?_⟩, ?_⟩
    rotate_left
    · intro w hSw
      go_simp
      try with_reducible rfl
    simp only [Act.put, List.setIfInBounds_toArray, List.set_cons_zero, List.set_cons_succ]
    refine wpUpto.take 8 (by kernel_rfl) (by kernel_rfl) (by kernel_rfl) (by kernel_rfl) (by assumption) ?_
    intro o ho
    simp only [List.getElem?_toArray, List.getElem?_cons_succ, List.getElem?_cons_zero, Option.some.injEq] at ho
    subst ho
    refine ⟨?_, fun _ _ _ h => h, Or.inl ⟨by rfl, ?_⟩, ?_⟩
    rotate_left
    · intro w hSw
      go_simp
      try with_reducible rfl
    simp only [Act.put, List.setIfInBounds_toArray, List.set_cons_zero, List.set_cons_succ]
    refine wpUpto.take 9 (by kernel_rfl) (by kernel_rfl) (by kernel_rfl) (by kernel_rfl) (by assumption) ?_
    intro o ho
    simp only [List.getElem?_toArray, List.getElem?_cons_succ, List.getElem?_cons_zero, Option.some.injEq] at ho
    subst ho
    refine ⟨?_, fun _ _ _ h => h, Or.inl ⟨by rfl, ?_⟩, ?_⟩
    rotate_left
    · intro w hSw
      go_simp
      try with_reducible rfl
    simp only [Act.put, List.setIfInBounds_toArray, List.set_cons_zero, List.set_cons_succ]
    refine wpUpto.take 10 (by kernel_rfl) (by kernel_rfl) (by kernel_rfl) (by kernel_rfl) (by assumption) ?_
    intro o ho
    simp only [List.getElem?_toArray, List.getElem?_cons_succ, List.getElem?_cons_zero, Option.some.injEq] at ho
    subst ho
    refine ⟨?_, fun _ _ _ h => h, Or.inl ⟨by rfl, ?_⟩, ?_⟩
    rotate_left
    · intro w hSw
      go_simp
      try with_reducible rfl
    simp only [Act.put, List.setIfInBounds_toArray, List.set_cons_zero, List.set_cons_succ]
    refine wpUpto.one 11 (by kernel_rfl) ?_
    intro o ho K hK
    simp only [List.getElem?_toArray, List.getElem?_cons_succ, List.getElem?_cons_zero, Option.some.injEq] at ho
    subst ho
    go_simp
    refine hK.out _ _ ?_ (fun hHeld => ?_)
    · exact HLD.out.1
    clear hK K
    try simp only [Act.put, List.setIfInBounds_toArray, List.set_cons_zero, List.set_cons_succ]
    refine wpUpto.one 12 (by kernel_rfl) ?_
    intro o ho K hK
    simp only [List.getElem?_toArray, List.getElem?_cons_succ, List.getElem?_cons_zero, Option.some.injEq] at ho
    subst ho
    refine step_append_run rfl (.tmp 13) (.tmp 20) _ rfl _ _ _ _ rfl rfl HRUN.out ?_
    refine hK.out _ _ ?_ (fun hHeld => ?_)
    · exact HLD.out.2
    clear hK K
    try simp only [Act.put, List.setIfInBounds_toArray, List.set_cons_zero, List.set_cons_succ]
    refine wpUpto.one 13 (by kernel_rfl) ?_
    intro o ho K hK
    simp only [List.getElem?_toArray, List.getElem?_cons_succ, List.getElem?_cons_zero, Option.some.injEq] at ho
    subst ho
    go_simp
    refine hK.out _ _ ?_ (fun hHeld => ?_)
    · exact HLD.out.2
    clear hK K
    try simp only [Act.put, List.setIfInBounds_toArray, List.set_cons_zero, List.set_cons_succ]
    refine wpUpto.one 14 (by kernel_rfl) ?_
    intro o ho K hK
    simp only [List.getElem?_toArray, List.getElem?_cons_succ, List.getElem?_cons_zero, Option.some.injEq] at ho
    subst ho
    go_simp
    refine hK.out _ _ ?_ (fun hHeld => ?_)
    · exact HLD.out.2
    clear hK K
    try simp only [Act.put, List.setIfInBounds_toArray, List.set_cons_zero, List.set_cons_succ]
    refine wpUpto.last (by kernel_rfl) ?_
    intro o ho K hK
    simp only [List.getElem?_toArray, List.getElem?_cons_succ, List.getElem?_cons_zero, Option.some.injEq] at ho
    subst ho
    go_simp
    refine hK.out _ _ ?_
    clear hK K
    refine wpUpto.done (by kernel_rfl) ?_ _
    refine NoPanic.normal ?_
    try simp only [Act.put, List.setIfInBounds_toArray, List.set_cons_zero, List.set_cons_succ]
    clear HRUN
    go_wp2_with fail
    go_ret
    exact ⟨A3, c3, g3, h, _, c', by rw [hHL.out]; rfl, HFIN.out⟩

set_option maxRecDepth 100000 in
set_option maxHeartbeats 4000000 in
theorem variable_is {w0 w : World} {q : Nat} {g h : Option Nat} {ps : List Prt} {row : List Nat} {A A' : Option Addr} {c c' : Nat} (H : Gath w0 w q g h ps row A c A' c') (hb : ∀ x ∈ row, x < 256) (hp : ps.length ≤ 16777216) (hr : row.length ≤ 16777216) (s : List Nat) (hs : ∀ x ∈ s, x < 256) (hsl : s.length ≤ 16777216) :
    Calls Try.prog 70 #[.pointer (some ⟨q, 0, none⟩), .string (str s)] w fun e w' => e = .returned (.tuple #[]) ∧ ∃ A c g h A' c', Gath w0 w' q g h (flatG ps row ++ [⟨true, s⟩]) [] A c A' c' := by
  have HP := Lib.hid (gparts_is H hb hp hr)
  have HC := Lib.hid fun W => strClone_is s hs (by omega) W
  have hlen : (flatG ps row).length ≤ 16777217 := by
    unfold flatG; split
    · omega
    · rw [List.length_append, List.length_singleton]; omega
  clear H hb hp hr hs hsl
  generalize flatG ps row = qs at *
  go_enter Try.func70, Try.ntmps70
  go_wp2_with fail
  refine HP.out.mono ?_
  rintro e w1 ⟨A1, c1, g1, h1, A1', c1', rfl, hG⟩
  have HG := Lib.hid hG
  clear hG HP
  go_wp2_with fail
  refine (HC.out w1).mono ?_
  rintro e w2 ⟨rfl, hb2⟩
  have HG2 := Lib.hid (HG.out.below hb2)
  have hqs : w0.heap.size ≤ w2.heap.size := HG2.out.bel.size
  clear hb2 HG
  have HG3 := Lib.hid (HG2.out.below ((Below.refl _ w2).alloc (Nat.le_refl _) (.cells #[.bool true, .string (str s)] 47)))
  have hap := fun (W3 : World) (A3 : Option Addr) (c3 : Nat) (g3 : Option Nat) (hR : Hid (PRow w0 W3 g3 (.slice A3 (qs.length + 1) c3) (qs ++ [⟨true, s⟩]))) (hGr : Hid ((w2.alloc (.cells #[.bool true, .string (str s)] 47)).grownBy W3 g1)) =>
    (show W3.cell? ⟨q, 0, none⟩ = some (.slice A1 qs.length c1) ∧ W3.frozen? ⟨q, 0, none⟩ = false from by
      have hB : Blk W3 q 106 #[.slice A1 qs.length c1, .slice A1' 0 c1'] := HG3.out.blk.keep (hGr.out.block q HG3.out.blk.lt fun e => HG3.out.gq e.symm)
      exact ⟨by rw [hB.cell]; rfl, hB.frozen 0⟩)
  have HAP := Lib.hid hap
  have hle : w0.heap.size ≤ (w2.alloc (.cells #[.bool true, .string (str s)] 47)).heap.size := by rw [World.size_alloc]; omega
  clear hap
  go_wp2_with (at_builtin; refine URow.wp (P := Try.prog) (x := (⟨true, s⟩ : Prt)) (u := .bool false) noSub_ok HG3.out.lst hle trivial rfl (.tmp 6) (.tmp 10) 42 rfl Try.underlying42 part_info rfl rfl _ rfl (src_cells Try.underlying42 w2.heap.size rfl rfl rfl (by intro u hu; simp [pcell] at hu; rcases hu with rfl | rfl <;> rfl)) (by omega) (by omega) ?_; intro A3 c3 W3 g3 HR HGr HE; have d0 := (HAP.out W3 A3 c3 g3 HR HGr).1; have f0 := (HAP.out W3 A3 c3 g3 HR HGr).2)
  go_end0
  have hl2 : (qs ++ [(⟨true, s⟩ : Prt)]).length = qs.length + 1 := by rw [List.length_append, List.length_singleton]
  have hR := HR.out
  rw [← hl2] at hR
  have hL := Gath.list HG3.out hR HGr.out HE.out
  rw [hl2] at hL
  exact ⟨rfl, A3, c3, g3, h1, A1', c1', hL⟩

/-- What goes through a word's text tells. -/
def PartsTo (w : World) (res : Except (Nat × Nat) (List Prt × Nat)) (e : Ending) (w' : World) : Prop :=
  Below w.heap.size w w' ∧ ∃ (v : Value) (ps : List Prt) (j c : Nat), e = .returned (.tuple #[v, .int .i64 (j : Nat), .int .i64 (c : Nat)]) ∧ Prts (fun b => w.heap.size ≤ b) w' v ps ∧
    ((res = .ok (ps, j) ∧ c = 0) ∨ (res = .error (j, c) ∧ ps = [] ∧ v = .slice none 0 0 ∧ c ≠ 0))
theorem Gath.prts {w W : World} {q : Nat} {g h : Option Nat} {ps : List Prt} {row : List Nat} {A A' : Option Addr} {c c' : Nat} (H : Gath w W q g h ps row A c A' c') : Prts (fun b => w.heap.size ≤ b) W (.slice A ps.length c) ps := PRow.prts H.lst
set_option maxRecDepth 100000 in
set_option maxHeartbeats 2000000 in
theorem ttold_is (l : List Nat) (hl : ∀ c ∈ l, c < 256) (hn : l.length ≤ 16777216) (s : ByteArray) (K : Nat → Bool) (hK : HasK s K) (st : Nat) (hst : st ≤ l.length) (w : World) :
    Calls Try.prog 53 #[.string (str l), .int .i64 (st : Nat), .string s] w (PartsTo w (toldS K (l.drop st) st [])) := by
  have hsz := str_len l
  have HL := Lib.hid hl
  have HK := Lib.hid hK
  have HG0 := Lib.hid (Gath.new w)
  clear hl hK
  go_enter Try.func53, Try.ntmps53
  go_wp2_with fail
  go_step3
  go_wp2_with fail
  obtain ⟨q, hq⟩ : ∃ q, q = w.heap.size := ⟨_, rfl⟩
  generalize hw0 : w.alloc (.cells #[.slice none 0 0, .slice none 0 0] 106) = w0 at *
  rw [← hq] at HG0 ⊢
  clear hq hw0
  go_step3
  go_wp2_with fail
  go_loopw [1] (fun iv wr => ∃ (i : Nat) (g h : Option Nat) (ps : List Prt) (row : List Nat) (A : Option Addr) (c : Nat) (A' : Option Addr) (c' : Nat), iv = .int .i64 (i : Nat) ∧ i ≤ l.length ∧ ps.length + row.length ≤ i ∧ row.length ≤ i ∧ Hid (Gath w wr q g h ps row A c A' c' ∧ openP ps ∧ (∀ x ∈ row, x < 256) ∧ toldS K (l.drop st) st [] = toldS K (l.drop i) i (flatG ps row))) (fun iv _ => l.length - (intOf iv).toNat)
  case atStart => exact ⟨st, none, none, [], [], none, 0, none, 0, rfl, hst, by simp, by simp, Lib.hid ⟨HG0.out, (by intro p hp; cases hp), by simp, rfl⟩⟩
  case round =>
    obtain ⟨i, g, h, ps, row, A, c0, A', c0', rfl, hi, hpl, hrl, HR⟩ := hrel
    have HGA := Lib.hid HR.out.1
    have HPO := Lib.hid HR.out.2.1
    have HRB := Lib.hid HR.out.2.2.1
    have HT := Lib.hid HR.out.2.2.2
    clear HR
    by_cases hlt : i < l.length
    · have q0 : decide ((i : Int) < (l.length : Int)) = true := decide_eq_true (by omega)
      obtain ⟨c, hc⟩ : ∃ c, l[i]? = some c := ⟨_, List.getElem?_eq_getElem hlt⟩
      obtain ⟨hks, hx⟩ := str_at HL.out hc
      have HC := Lib.hid hc
      have hc256 : c < 256 := HL.out c (List.mem_of_getElem? hc)
      have HH : Hid (∀ W, Calls Try.prog 34 #[.string s, .int .u8 (c : Nat)] W fun e w' => e = .returned (.bool (K c)) ∧ W = w') := Lib.hid fun W => HK.out c hc256 W
      clear hc
      cases hkc : K c with
      | true =>
        rw [hkc] at HH
        have HN := Lib.hid (HT.out.trans (told_end HC.out hkc (flatG ps row)))
        have HP := Lib.hid (gparts_is HGA.out HRB.out (by omega) (by omega))
        clear hkc
        go_wp2_with fail
        refine (HH.out _).mono ?_
        rintro e w1 ⟨rfl, rfl⟩
        go_wp2_with fail
        refine HP.out.mono ?_
        rintro e w2 ⟨A2, c2, g2, h2, A2', c2', rfl, hG2⟩
        have HG2 := Lib.hid hG2
        clear hG2
        go_wp2_with fail
        try rw [Exit.noGoto_ret]
        go_ret3
        exact ⟨HG2.out.bel, _, flatG ps row, i, 0, rfl, HG2.out.prts, .inl ⟨HN.out, rfl⟩⟩
      | false =>
        rw [hkc] at HH
        have HKC := Lib.hid hkc
        clear hkc
        by_cases h91 : c = 91
        · have q1 : ((c : Int) == 91) = true := beq_iff_eq.2 (by omega)
          have HN := Lib.hid (HT.out.trans (told_bad HC.out HKC.out (one_open (op := i) (ps := flatG ps row) (by rw [HC.out, h91]))))
          clear h91
          go_wp2_with fail
          refine (HH.out _).mono ?_
          rintro e w1 ⟨rfl, rfl⟩
          go_wp2_with fail
          try rw [Exit.noGoto_ret]
          go_ret3
          exact ⟨HGA.out.bel, _, [], i, 4, rfl, SlI.nil none 0, .inr ⟨HN.out, rfl, rfl, by omega⟩⟩
        · have q1 : ((c : Int) == 91) = false := beq_eq_false_iff_ne.2 (by omega)
          have H91 := Lib.hid h91
          by_cases h92 : c = 92
          · have q2 : ((c : Int) == 92) = true := beq_iff_eq.2 (by omega)
            have H92 := Lib.hid h92
            have HE := Lib.hid fun W => Escape_eq l HL.out (by omega) (i : Int) (by omega) W
            by_cases hlast : i + 1 = l.length
            · have hes : escape l (i : Int) = (0, 0, 5) := by unfold escape; rw [Int.toNat_natCast, if_pos ⟨by omega, by omega, by rw [HC.out, H92.out]⟩, if_pos hlast]
              rw [hes] at HE
              have HN := Lib.hid (HT.out.trans (told_bad HC.out HKC.out (one_back_end (op := i) (ps := flatG ps row) (by rw [HC.out, h92]) hlast)))
              clear h91 h92 hlast hes
              go_wp2_with fail
              refine (HH.out _).mono ?_
              rintro e w1 ⟨rfl, rfl⟩
              go_wp2_with fail
              refine (HE.out _).mono ?_
              rintro e w1 ⟨rfl, rfl⟩
              go_wp2_with fail
              try rw [Exit.noGoto_ret]
              go_ret3
              exact ⟨HGA.out.bel, _, [], i, 5, rfl, SlI.nil none 0, .inr ⟨HN.out, rfl, rfl, by omega⟩⟩
            · have hi2 : i + 1 < l.length := by omega
              rw [escape_at hi2 (by rw [HC.out, h92])] at HE
              have hrl : (l.drop (i + 1)).length = l.length - (i + 1) := List.length_drop
              have hfit := escL_fits (r := l.drop (i + 1)) (fun e => by rw [e] at hrl; simp at hrl; omega)
              have hv := escL_byte (r := l.drop (i + 1)) (fun x hx => HL.out x (List.mem_of_mem_drop hx))
              have HN := Lib.hid (HT.out.trans (told_step HC.out HKC.out (one_back (op := i) (ps := flatG ps row) (by rw [HC.out, h92]) hi2)))
              rw [flatG_add HPO.out] at HN
              rw [hrl] at hfit
              rw [← Nat.add_assoc] at HN
              generalize (escL (l.drop (i + 1))).1 = v at *
              generalize (escL (l.drop (i + 1))).2 = m at *
              dsimp only at HE
              have em : ((i + 1 + m : Nat) : Int) = (i : Int) + 1 + (m : Int) := by omega
              clear h91 h92 hlast hrl
              go_wp2_with fail
              refine (HH.out _).mono ?_
              rintro e w1 ⟨rfl, rfl⟩
              go_wp2_with fail
              refine (HE.out _).mono ?_
              rintro e w1 ⟨rfl, rfl⟩
              have c1 : wr.cell? ⟨q, 1, none⟩ = some (.slice A' row.length c0') := by rw [HGA.out.blk.cell]; rfl
              have hba : Below wr.heap.size wr (wr.alloc (.cells #[.int .u8 (v : Nat)] 5)) := (Below.refl _ wr ).alloc (Nat.le_refl _) _
              have HKP : Hid (∀ W2, Hid ((wr.alloc (.cells #[.int .u8 (v : Nat)] 5)).grownBy W2 h) → W2.cell? ⟨q, 1, none⟩ = some (.slice A' row.length c0') ∧ W2.frozen? ⟨q, 1, none⟩ = false) := Lib.hid fun W2 hg => by
                have hB : Blk W2 q 106 #[.slice A ps.length c0, .slice A' row.length c0'] := (HGA.out.below hba).blk.keep (hg.out.block q (HGA.out.below hba).blk.lt fun e => HGA.out.hq e.symm)
                exact ⟨by rw [hB.cell]; rfl, hB.frozen 1⟩
              have HBA := Lib.hid hba
              have hrs : row.length + 1 ≤ 140737488355327 := by omega
              clear hba
              go_wp2_with (at_builtin; refine RowAt.wpX HGA.out.rw_ HBA.out rfl _ _ 41 rfl rfl _ rfl [v] (src_one v wr.heap.size rfl) hrs ?_; intro A2 c2 W2 g2 X2 HX2 HR2 HGr2 HE2; have d1 := (HKP.out W2 HGr2).1; have f1 := (HKP.out W2 HGr2).2)
              have HTX := Lib.hid (Gath.text HGA.out HBA.out HR2.out HGr2.out)
              have hX2l : X2.length = row.length + 1 := by rw [HX2.out]; simp
              have HRB2 : Hid (∀ x ∈ X2, x < 256) := Lib.hid (by
                rw [HX2.out]; intro x hx
                rcases List.mem_append.1 hx with hx | hx
                · exact HRB.out x hx
                · rw [List.mem_singleton.1 hx]; exact hv)
              go_roundw
              case rel => exact ⟨i + 1 + m, g, g2, ps, X2, A, c0, A2, c2, by rw [em], by omega, by omega, by omega, Lib.hid ⟨HTX.out, HPO.out, HRB2.out, by rw [HX2.out]; exact HN.out⟩⟩
              case measure => simp [intOf]; omega
          · have q2 : ((c : Int) == 92) = false := beq_eq_false_iff_ne.2 (by omega)
            have H92 := Lib.hid h92
            by_cases h36 : c = 36
            · have q3 : ((c : Int) == 36) = true := beq_iff_eq.2 (by omega)
              have hrun := fun W => run_from_str l (i + 1) (by omega) W
              have e1 : ((i + 1 : Nat) : Int) = (i : Int) + 1 := by omega
              rw [e1] at hrun
              have HNM := Lib.hid fun W => name_is (l.drop (i + 1)) (fun x hx => HL.out x (List.mem_of_mem_drop hx)) (by rw [List.length_drop]; omega) W
              have hnl := nameRun_le (l.drop (i + 1))
              rw [List.length_drop] at hnl
              have HNL := Lib.hid (fun (p : ¬ 64 < (nameRun (l.drop (i + 1))).length) => one_name_ (op := i) (ps := flatG ps row) (h := show l[i]? = some 36 by rw [HC.out, h36]) p)
              have HNG := Lib.hid (fun (p : 64 < (nameRun (l.drop (i + 1))).length) => one_long_ (op := i) (ps := flatG ps row) (h := show l[i]? = some 36 by rw [HC.out, h36]) p)
              have HNE := Lib.hid (fun (p : (nameRun (l.drop (i + 1))).length = 0) => one_else (op := i) (ps := flatG ps row) HC.out h92 h91 (fun _ => p))
              have hnb : ∀ x ∈ nameRun (l.drop (i + 1)), x < 256 := fun x hx => HL.out x (List.mem_of_mem_drop ((List.takeWhile_prefix _).subset hx))
              generalize nameRun (l.drop (i + 1)) = nm at *
              generalize str (l.drop (i + 1)) = sd at *
              have hnsz := str_len nm
              clear e1
              by_cases h0 : nm.length = 0
              · obtain rfl := List.length_eq_zero_iff.1 h0
                rw [str_nil] at HNM
                have HN := Lib.hid (HT.out.trans (told_step HC.out HKC.out (HNE.out rfl)))
                rw [flatG_add HPO.out] at HN
                clear h91 h92 h36 h0 HNL HNG HNE hnsz
                go_wp2_with fail
                refine (HH.out _).mono ?_
                rintro e w1 ⟨rfl, rfl⟩
                go_wp2_with fail
                refine (HNM.out _).mono ?_
                rintro e w1 ⟨rfl, hb1⟩
                have HGB := Lib.hid (HGA.out.below hb1)
                clear hb1 HGA
                have c1 : w1.cell? ⟨q, 1, none⟩ = some (.slice A' row.length c0') := by rw [HGB.out.blk.cell]; rfl
                have hba : Below w1.heap.size w1 (w1.alloc (.cells #[.int .u8 (c : Nat)] 5)) := (Below.refl _ w1 ).alloc (Nat.le_refl _) _
                have HKP : Hid (∀ W2, Hid ((w1.alloc (.cells #[.int .u8 (c : Nat)] 5)).grownBy W2 h) → W2.cell? ⟨q, 1, none⟩ = some (.slice A' row.length c0') ∧ W2.frozen? ⟨q, 1, none⟩ = false) := Lib.hid fun W2 hg => by
                  have hB : Blk W2 q 106 #[.slice A ps.length c0, .slice A' row.length c0'] := (HGB.out.below hba).blk.keep (hg.out.block q (HGB.out.below hba).blk.lt fun e => HGB.out.hq e.symm)
                  exact ⟨by rw [hB.cell]; rfl, hB.frozen 1⟩
                have HBA := Lib.hid hba
                have hrs : row.length + 1 ≤ 140737488355327 := by omega
                clear hba
                go_wp2_with (at_builtin; refine RowAt.wpX HGB.out.rw_ HBA.out rfl _ _ 41 rfl rfl _ rfl [c] (src_one c w1.heap.size rfl) hrs ?_; intro A2 c2 W2 g2 X2 HX2 HR2 HGr2 HE2; have d1 := (HKP.out W2 HGr2).1; have f1 := (HKP.out W2 HGr2).2)
                have HTX := Lib.hid (Gath.text HGB.out HBA.out HR2.out HGr2.out)
                have hX2l : X2.length = row.length + 1 := by rw [HX2.out]; simp
                have HRB2 : Hid (∀ x ∈ X2, x < 256) := Lib.hid (by
                  rw [HX2.out]; intro x hx
                  rcases List.mem_append.1 hx with hx | hx
                  · exact HRB.out x hx
                  · rw [List.mem_singleton.1 hx]; exact hc256)
                go_roundw
                case rel => exact ⟨i + 1, g, g2, ps, X2, A, c0, A2, c2, by go_num, by omega, by omega, by omega, Lib.hid ⟨HTX.out, HPO.out, HRB2.out, by rw [HX2.out]; exact HN.out⟩⟩
                case measure => simp [intOf]; omega
              · have hne : (str nm).toList.isEmpty = false := str_some (fun e => h0 (by rw [e]; rfl))
                have hsne : ((str nm).toList != (⟨#[]⟩ : ByteArray).toList) = true := by
                  have := str_bne (m := []) hnb (by simp)
                  rw [str_nil] at this
                  rw [this, decide_eq_false (fun e => h0 (by rw [e]; rfl))]; rfl
                by_cases h64 : 64 < nm.length
                · have q4 : decide ((64 : Int) < (nm.length : Int)) = true := decide_eq_true (by omega)
                  have HN := Lib.hid (HT.out.trans (told_bad HC.out HKC.out (HNG.out h64)))
                  clear h91 h92 h36 h64 HNL HNG HNE
                  go_wp2_with fail
                  refine (HH.out _).mono ?_
                  rintro e w1 ⟨rfl, rfl⟩
                  go_wp2_with fail
                  refine (HNM.out _).mono ?_
                  rintro e w1 ⟨rfl, hb1⟩
                  have HGB := Lib.hid (HGA.out.below hb1)
                  clear hb1 HGA
                  go_wp2_with fail
                  try rw [Exit.noGoto_ret]
                  go_ret3
                  exact ⟨HGB.out.bel, _, [], i, 6, rfl, SlI.nil none 0, .inr ⟨HN.out, rfl, rfl, by omega⟩⟩
                · have q4 : decide ((64 : Int) < (nm.length : Int)) = false := decide_eq_false (by omega)
                  have HN := Lib.hid (HT.out.trans (told_step HC.out HKC.out (HNL.out h64 (by omega))))
                  rw [← Nat.add_assoc] at HN
                  have HNB := Lib.hid hnb
                  have hfl : (flatG ps row).length ≤ i := by
                    unfold flatG; split
                    · omega
                    · rename_i hr
                      have := List.length_pos_iff.2 hr
                      rw [List.length_append, List.length_singleton]; omega
                  have H0 := Lib.hid h0
                  clear h91 h92 h36 h64 HNL HNG HNE hnb h0
                  go_wp2_with fail
                  refine (HH.out _).mono ?_
                  rintro e w1 ⟨rfl, rfl⟩
                  go_wp2_with fail
                  refine (HNM.out _).mono ?_
                  rintro e w1 ⟨rfl, hb1⟩
                  have HGB := Lib.hid (HGA.out.below hb1)
                  clear hb1 HGA
                  have HV := Lib.hid (variable_is HGB.out HRB.out (by omega) (by omega) nm HNB.out (by omega))
                  go_wp2_with fail
                  refine HV.out.mono ?_
                  rintro e w2 ⟨rfl, A2, c2, g2, h2, A2', c2', hG2⟩
                  have HG2 := Lib.hid hG2
                  clear hG2
                  go_wp2_with fail
                  go_roundw
                  case rel => exact ⟨i + 1 + nm.length, g2, h2, flatG ps row ++ [⟨true, nm⟩], [], A2, c2, A2', c2', by go_num, by omega, by rw [List.length_append, List.length_singleton, List.length_nil]; omega, by simp, Lib.hid ⟨HG2.out, openP_var _ _, by simp, by rw [flatG_nil]; exact HN.out⟩⟩
                  case measure => simp [intOf]; have := H0.out; omega
            · have q3 : ((c : Int) == 36) = false := beq_eq_false_iff_ne.2 (by omega)
              have HN := Lib.hid (HT.out.trans (told_step HC.out HKC.out (one_else (op := i) (ps := flatG ps row) HC.out h92 h91 (fun e => absurd e h36))))
              rw [flatG_add HPO.out] at HN
              clear h91 h92 h36
              go_wp2_with fail
              refine (HH.out _).mono ?_
              rintro e w1 ⟨rfl, rfl⟩
              have c1 : wr.cell? ⟨q, 1, none⟩ = some (.slice A' row.length c0') := by rw [HGA.out.blk.cell]; rfl
              have hba : Below wr.heap.size wr (wr.alloc (.cells #[.int .u8 (c : Nat)] 5)) := (Below.refl _ wr ).alloc (Nat.le_refl _) _
              have HKP : Hid (∀ W2, Hid ((wr.alloc (.cells #[.int .u8 (c : Nat)] 5)).grownBy W2 h) → W2.cell? ⟨q, 1, none⟩ = some (.slice A' row.length c0') ∧ W2.frozen? ⟨q, 1, none⟩ = false) := Lib.hid fun W2 hg => by
                have hB : Blk W2 q 106 #[.slice A ps.length c0, .slice A' row.length c0'] := (HGA.out.below hba).blk.keep (hg.out.block q (HGA.out.below hba).blk.lt fun e => HGA.out.hq e.symm)
                exact ⟨by rw [hB.cell]; rfl, hB.frozen 1⟩
              have HBA := Lib.hid hba
              have hrs : row.length + 1 ≤ 140737488355327 := by omega
              clear hba
              go_wp2_with (at_builtin; refine RowAt.wpX HGA.out.rw_ HBA.out rfl _ _ 41 rfl rfl _ rfl [c] (src_one c wr.heap.size rfl) hrs ?_; intro A2 c2 W2 g2 X2 HX2 HR2 HGr2 HE2; have d1 := (HKP.out W2 HGr2).1; have f1 := (HKP.out W2 HGr2).2)
              have HTX := Lib.hid (Gath.text HGA.out HBA.out HR2.out HGr2.out)
              have hX2l : X2.length = row.length + 1 := by rw [HX2.out]; simp
              have HRB2 : Hid (∀ x ∈ X2, x < 256) := Lib.hid (by
                rw [HX2.out]; intro x hx
                rcases List.mem_append.1 hx with hx | hx
                · exact HRB.out x hx
                · rw [List.mem_singleton.1 hx]; exact hc256)
              go_roundw
              case rel => exact ⟨i + 1, g, g2, ps, X2, A, c0, A2, c2, by go_num, by omega, by omega, by omega, Lib.hid ⟨HTX.out, HPO.out, HRB2.out, by rw [HX2.out]; exact HN.out⟩⟩
              case measure => simp [intOf]; omega
    · have q0 : decide ((i : Int) < (l.length : Int)) = false := decide_eq_false (by omega)
      have HN := Lib.hid (HT.out.trans (told_out (by omega) (flatG ps row)))
      have HP := Lib.hid (gparts_is HGA.out HRB.out (by omega) (by omega))
      go_wp2_with fail
      refine HP.out.mono ?_
      rintro e w2 ⟨A2, c2, g2, h2, A2', c2', rfl, hG2⟩
      have HG2 := Lib.hid hG2
      clear hG2
      go_wp2_with fail
      try rw [Exit.noGoto_ret]
      go_ret3
      exact ⟨HG2.out.bel, _, flatG ps row, i, 0, rfl, HG2.out.prts, .inl ⟨HN.out, rfl⟩⟩
end Go.Proofs.Ytphmhglebeapaaa
