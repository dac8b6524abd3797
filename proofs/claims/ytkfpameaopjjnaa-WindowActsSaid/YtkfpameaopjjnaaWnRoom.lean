/-
  makeRoom: the window's bytes go to the front of its memory, or of new memory, where there is room for one more.
  Conditions: the window has no more bytes than its number.
-/
import Derived.Test.YtkfpameaopjjnaaWnMem
namespace Go.Proofs.Ytkfpameaopjjnaa
open Go.RowKit

set_option maxRecDepth 100000 in
set_option maxHeartbeats 1000000 in
theorem room_is {b most top tot : Nat} {A : Option Addr} {c fr : Nat} {m l : List Nat} {g : Option Nat} {F : Nat → Prop} {w : World} (h : WinR b most top tot A c fr m l g F w) (hl : l.length ≤ most) :
    Calls Try.prog 22 #[.pointer (some ⟨b, 0, none⟩)] w fun e w' => e = .returned (.tuple #[]) ∧ Turned (WinS b most top l tot) F w w' := by
  obtain ⟨i0, hi0, hz0, hz1, hz2⟩ := info_parts byte_info
  have hinfo : (Try.prog.info? 5).map (·.size) = some 1 := by rw [hi0]; simp [hz1]
  have hml := h.cap
  have htp := h.tp
  have hft := h.fit
  have hmt := h.mt
  have hone := h.one
  obtain ⟨A1, c1, hs1, hr1⟩ := run_part h.row.rd hft
  rw [h.its] at hr1
  have HR1 := Lib.hid hr1
  have hbl := h.blk.lt
  have hne := h.ne_
  have c0 : w.cell? ⟨b, 0, none⟩ = some (.int .i64 (most : Nat)) := h.blk.cell 0
  have c2 : w.cell? ⟨b, 2, none⟩ = some (.slice A m.length c) := h.blk.cell 2
  have c3 : w.cell? ⟨b, 3, none⟩ = some (.int .i64 (fr : Nat)) := h.blk.cell 3
  have c4 : w.cell? ⟨b, 4, none⟩ = some (.int .i64 ((fr + l.length : Nat) : Int)) := h.blk.cell 4
  have hF : ∀ (W w' : World) (g' : Option Nat), Below w.heap.size w W → W.grownBy w' g' → (g' = g ∨ g' = some w.heap.size) → ∀ i, w'.cell? ⟨b, i, none⟩ = w.cell? ⟨b, i, none⟩ ∧ w'.frozen? ⟨b, i, none⟩ = false := by
    intro W w' g' hb hgr hg i
    have hne' : g' ≠ some b := by
      rcases hg with e | e
      · rw [e]; exact hne
      · intro e2; rw [e] at e2; injection e2 with e2; omega
    have hblk : Blk w' b 50 _ := (h.blk.below hb hbl).keep (hgr.block b (Nat.lt_of_lt_of_le hbl hb.size) (fun e => hne' e.symm))
    exact ⟨(hblk.cell i).trans (h.blk.cell i).symm, hblk.frozen i⟩
  obtain ⟨s, hs⟩ : ∃ s, s = 2 * min (l.length + 1) most := ⟨_, rfl⟩
  have e1 : IntKind.i64.wrap ((l.length : Int) + 1) = (l.length : Int) + 1 := IntWalk.i64_in _ (by omega)
  have e2 : min ((l.length : Int) + 1) (most : Int) = ((min (l.length + 1) most : Nat) : Int) := by omega
  have e3 : IntKind.i64.wrap (2 * ((min (l.length + 1) most : Nat) : Int)) = (s : Int) := by rw [IntWalk.i64_in _ (by omega)]; omega
  have H := Lib.hid h
  have HF := Lib.hid hF
  have hls : l.length < s ∧ s ≤ 2 * top := by omega
  have hsm : s ≤ 140737488355328 := by omega
  have HLS := Lib.hid hls
  have HL := Lib.hid hl
  have HM := Lib.hid (And.intro hml hft)
  have hlm : Hid (l.length ≤ m.length) := Lib.hid (by omega)
  clear h hF hr1 hml hft htp hmt hone hl hs hbl hne
  have REM := fun (w1 w' : World) (A' : Option Addr) (c' n : Nat) (m' : List Nat) (g' : Option Nat) => WinR.remade (w1 := w1) (w' := w') (A' := A') (c' := c') (n := n) (m' := m') (g' := g') H.out HL.out
  have HREM := Lib.hid REM
  clear REM
  by_cases hsz : m.length < s
  · obtain ⟨M, hM, hmk, hmr⟩ := run_make_bytes s hsm (by omega)
    have d1 : decide (m.length < s) = true := by simpa using hsz
    have HMR := Lib.hid hmr
    clear hmr hsm hls hM
    generalize hN : m.length = n at *
    generalize hK : l.length = k at *
    generalize hT : fr + k = to at *
    generalize hMi : min (k + 1) most = mi at *
    have HE := Lib.hid (And.intro hN (And.intro hK (And.intro hT hMi)))
    clear hN hK hT hMi hsz
    go_enter Try.func22, Try.ntmps22
    go_wp2
    go_quiet (fail)
    have HLE : Hid (l.length ≤ (List.replicate s 0).length) := Lib.hid (by rw [List.length_replicate]; rw [HE.out.2.1]; exact Nat.le_of_lt HLS.out.1)
    have HB : Hid (Below w.heap.size w ((w.drewN nq).alloc (.cells M 5))) := Lib.hid ((show Below w.heap.size w (w.drewN nq) from ⟨rfl, rfl, rfl, Nat.le_refl _, fun _ _ => rfl⟩).alloc (Nat.le_refl _) _)
    go_wp2_with (refine wpList_copy_at rfl (.tmp 39) (.tmp 40) _ _ rfl 5 Try.underlying30 hinfo rfl rfl (xs := bv (List.replicate s 0)) (ys := bv l) (g := (some w.heap.size)) (HMR.out (w.drewN nq)) ((HR1.out.drewN nq).alloc _) (by rw [bv_len, bv_len]; exact HLE.out) ?_; intro w9 hrow9 hgr9; have p2 := (HF.out ((w.drewN nq).alloc (.cells M 5)) w9 (some w.heap.size) HB.out hgr9 (.inr rfl) 2).1.trans c2; have p3 := (HF.out ((w.drewN nq).alloc (.cells M 5)) w9 (some w.heap.size) HB.out hgr9 (.inr rfl) 3).1.trans c3; have p4 := (HF.out ((w.drewN nq).alloc (.cells M 5)) w9 (some w.heap.size) HB.out hgr9 (.inr rfl) 4).1.trans c4; have q2 := (HF.out ((w.drewN nq).alloc (.cells M 5)) w9 (some w.heap.size) HB.out hgr9 (.inr rfl) 2).2; have q3 := (HF.out ((w.drewN nq).alloc (.cells M 5)) w9 (some w.heap.size) HB.out hgr9 (.inr rfl) 3).2; have q4 := (HF.out ((w.drewN nq).alloc (.cells M 5)) w9 (some w.heap.size) HB.out hgr9 (.inr rfl) 4).2; rw [show (bv l).length = k by rw [bv_len]; exact HE.out.2.1]; have Y := Lib.hid (And.intro hrow9 hgr9); clear hrow9 hgr9)
    go_end0
    obtain ⟨e1, e2, -, -⟩ := HE.out
    subst e2
    obtain ⟨y1, y2⟩ := Y.out
    obtain ⟨z1, z2⟩ := HLS.out
    rw [show bv l ++ (bv (List.replicate s 0)).drop (bv l).length = bv (l ++ (List.replicate s 0).drop l.length) by simp [bv]] at y1
    have hln : (l ++ (List.replicate s 0).drop l.length).length = s := by simp; omega
    exact ⟨rfl, HREM.out _ w9 _ s s _ (some w.heap.size) HB.out hln.symm y2 y1 (.inr rfl) (by simp) (by omega) (by omega)⟩
  · have d1 : decide (m.length < s) = false := by simpa using hsz
    have HRW : Hid (Row w 5 g (.slice A m.length c) (bv m)) := Lib.hid H.out.row
    have HLE : Hid (l.length ≤ m.length) := hlm
    clear hsm hls
    generalize hN : m.length = n at *
    generalize hK : l.length = k at *
    generalize hT : fr + k = to at *
    generalize hMi : min (k + 1) most = mi at *
    have HE := Lib.hid (And.intro hN (And.intro hK (And.intro hT hMi)))
    have HSZ := Lib.hid hsz
    clear hN hK hT hMi hsz
    go_enter Try.func22, Try.ntmps22
    go_wp2
    go_quiet (fail)
    have HB : Hid (Below w.heap.size w (w.drewN nq)) := Lib.hid (show Below w.heap.size w (w.drewN nq) from ⟨rfl, rfl, rfl, Nat.le_refl _, fun _ _ => rfl⟩)
    go_wp2_with (refine wpList_copy_at rfl (.tmp 39) (.tmp 40) _ _ rfl 5 Try.underlying30 hinfo rfl rfl (xs := bv m) (ys := bv l) (g := g) HRW.out (HR1.out.drewN nq) (by rw [bv_len, bv_len]; rw [HE.out.1, HE.out.2.1]; exact HLE.out) ?_; intro w9 hrow9 hgr9; have p2 := (HF.out (w.drewN nq) w9 g HB.out hgr9 (.inl rfl) 2).1.trans c2; have p3 := (HF.out (w.drewN nq) w9 g HB.out hgr9 (.inl rfl) 3).1.trans c3; have p4 := (HF.out (w.drewN nq) w9 g HB.out hgr9 (.inl rfl) 4).1.trans c4; have q2 := (HF.out (w.drewN nq) w9 g HB.out hgr9 (.inl rfl) 2).2; have q3 := (HF.out (w.drewN nq) w9 g HB.out hgr9 (.inl rfl) 3).2; have q4 := (HF.out (w.drewN nq) w9 g HB.out hgr9 (.inl rfl) 4).2; rw [show (bv l).length = k by rw [bv_len]; exact HE.out.2.1]; have Y := Lib.hid (And.intro hrow9 hgr9); clear hrow9 hgr9)
    go_end0
    obtain ⟨e1, e2, -, -⟩ := HE.out
    subst e1
    subst e2
    obtain ⟨y1, y2⟩ := Y.out
    obtain ⟨z1, z2⟩ := HLS.out
    rw [show bv l ++ (bv m).drop (bv l).length = bv (l ++ m.drop l.length) by simp [bv]] at y1
    have hlm' := HLE.out
    have hcp := H.out.cap
    have hsz := HSZ.out
    have hln : (l ++ m.drop l.length).length = m.length := by simp; omega
    exact ⟨rfl, HREM.out _ w9 _ c m.length _ g HB.out hln.symm y2 y1 (.inl rfl) (by simp) (by omega) (by omega)⟩
end Go.Proofs.Ytkfpameaopjjnaa
