/-
  Both lines and the relay, apart from each other (SysT); the contract of the relay's write.
  Conditions: none but that all were made by New.
-/
import Derived.Test.YtfmmomdfmmoklaaDoorRlyNote
import Derived.Test.YtfmmomdfmmoklaaDoorCut
import Derived.StillTailTactics
namespace Go.Proofs.YtfmmomdfmmoklaaDoor
open Go.RowKit

/-- Both lines. -/
def Lines (L : Nat → Nat) (x : Sys) : Thing := Star (Ln (L 0) x.rm (x.f 0)) (Ln (L 1) x.rm (x.f 1))
/-- Both lines and the relay. -/
def SysT (L : Nat → Nat) (r : Nat) (x : Sys) : Thing := Star (Lines L x) (Rly L r x)
theorem Lines.framed (L : Nat → Nat) (x : Sys) : Framed (Lines L x) := Star.framed (Ln.framed ..) (Ln.framed ..)
theorem SysT.framed (L : Nat → Nat) (r : Nat) (x : Sys) : Framed (SysT L r x) := Star.framed (Lines.framed ..) (Rly.framed ..)

section
variable {P Q P' Q' : Thing} {A B F A' B' : Nat → Prop} {w w1 w2 : World}
/-- First the first thing has turned, then the second one. -/
theorem StarF.both (h : StarF P Q A B F w) (fQ : Framed Q) (fP' : Framed P') (hp : P' A' w1) (ho : Only A w w1) (hA : ∀ b, A' b → A b ∨ w.heap.size ≤ b)
    (hq : Q' B' w2) (ho2 : Only B w1 w2) (hB : ∀ b, B' b → B b ∨ (w.heap.size ≤ b ∧ ¬ A' b)) : Turned (Star P' Q') F w w2 := by
  have s1 := ho.size
  have hAB : ∀ b, A' b → ¬ B b := fun b ha hb => by
    rcases hA b ha with k | k
    · exact h.ap b k hb
    · have := fQ.lt h.snd b hb; omega
  refine ⟨fun b => A' b ∨ B' b, ⟨A', B', fP'.only hp ho2 hAB, hq, fun b ha hb => ?_, fun _ => Iff.rfl⟩, ⟨ho2.os.trans ho.os, ho2.tape.trans ho.tape, ho2.output.trans ho.output, Nat.le_trans s1 ho2.size, fun i hi hF => ?_⟩, fun b hb => ?_⟩
  · rcases hB b hb with k | k
    · exact hAB b ha k
    · exact k.2 ha
  · have n1 : ¬ A i := fun k => hF ((h.un i).2 (.inl k))
    have n2 : ¬ B i := fun k => hF ((h.un i).2 (.inr k))
    exact (ho2.block i (by omega) n2).trans (ho.block i hi n1)
  · rcases hb with hb | hb
    · exact (hA b hb).imp (fun k => (h.un b).2 (.inl k)) id
    · rcases hB b hb with k | k
      · exact .inl ((h.un b).2 (.inr k))
      · exact .inr k.1
end

section
variable {L : Nat → Nat} {x : Sys} {F : Nat → Prop} {w : World}
/-- One of the lines. -/
theorem Lines.at (h : Lines L x F w) (k : Nat) (hk : k < 2) : ∃ G, PAt G w (L k) x.rm (x.f k) ∧ (∀ b, G b → F b) ∧
    (∀ s y w', Turned (Ln (L k) x.rm (upd (x.f k) s y)) G w w' → Turned (Lines L (x.line k s y)) F w w') ∧
    (∀ s y w', PAt G w' (L k) x.rm (upd (x.f k) s y) → Only G w w' → Lines L (x.line k s y) F w' ∧ Only F w w') := by
  obtain ⟨A, B, h⟩ := h
  rcases (show k = 0 ∨ k = 1 by omega) with rfl | rfl
  · refine ⟨A, h.fst, fun b hb => (h.un b).2 (.inl hb), fun s y w' t => ?_, fun s y w' hp ho => ⟨⟨A, B, ?_, ?_, h.ap, h.un⟩, ho.mono fun i _ hi => (h.un i).2 (.inl hi)⟩⟩
    · have := h.left (P' := Ln (L 0) x.rm ((x.line 0 s y).f 0)) (Ln.framed ..) (by rw [Sys.line_at]; exact t)
      exact this
    · show PAt A w' (L 0) x.rm ((x.line 0 s y).f 0)
      rw [Sys.line_at]; exact hp
    · exact (Ln.framed ..).only h.snd ho (fun b hb ha => h.ap b ha hb)
  · refine ⟨B, h.snd, fun b hb => (h.un b).2 (.inr hb), fun s y w' t => ?_, fun s y w' hp ho => ⟨⟨A, B, ?_, ?_, h.ap, h.un⟩, ho.mono fun i _ hi => (h.un i).2 (.inr hi)⟩⟩
    · have := h.right (Q' := Ln (L 1) x.rm ((x.line 1 s y).f 1)) (Ln.framed ..) (by rw [Sys.line_at]; exact t)
      exact this
    · exact (Ln.framed ..).only h.fst ho (fun b hb ha => h.ap b hb ha)
    · show PAt B w' (L 1) x.rm ((x.line 1 s y).f 1)
      rw [Sys.line_at]; exact hp
end

/-- b[a:], under one name, in the same block. -/
theorem cut_from {S : Nat → Prop} {w : World} {d0 t0 : Int} {A : Option Addr} {c a : Nat} {bs : List Nat} (h : EvOk S w ⟨d0, t0, A, c, bs⟩) (ha : a ≤ bs.length) :
    ∃ A' c', (∀ W, (Instr.slice 31 (.slice A bs.length c) (some (.int .i64 (a : Int))) none none).run Tryd.prog W = .ok (.slice A' (bs.drop a).length c') W) ∧ EvOk S w ⟨d0, t0, A', c', bs.drop a⟩ := by
  have hr := h.rd
  simp only at hr
  have hld : (bs.drop a).length = bs.length - a := List.length_drop ..
  refine ⟨if c = a then A else A.map (·.add a), c - a, fun W => ?_, ?_, ?_, fun x hx => h.byte x (List.mem_of_mem_drop hx), fun hp p e => ?_⟩
  · obtain ⟨i0, hi0, hz0, hz1, hz2⟩ := info_parts byte_info
    have hs : (sizeOf (Tryd.prog.elem 31)).run Tryd.prog W = .ok 1 W := by
      rw [show Tryd.prog.elem 31 = 5 by kernel_rfl]
      simp [sizeOf, typeInfo, hi0, hz1]
    rw [run_slice_l W 31 A bs.length c (by kernel_rfl) .i64 (a : Int) (by omega) (by omega), hs]
    simp only [Result.andThen, Int.toNat_natCast, sliced, Nat.mul_one, hld]
  · have := hr.drop ha
    rw [show (bv bs).drop a = bv (bs.drop a) by simp [bv]] at this
    simp only [hld]
    exact this
  · have := h.max
    simp only at this ⊢
    omega
  · simp only [hld] at hp
    have hp0 : 0 < bs.length := by omega
    split at e
    · exact h.inn hp0 p e
    · cases hA : A with
      | none => rw [hA] at e; cases e
      | some p0 =>
        rw [hA] at e
        simp only [Option.map_some, Option.some.injEq] at e
        have := h.inn hp0 p0 hA
        rw [← e]
        obtain ⟨b, o, s⟩ := p0
        unfold Addr.add
        split <;> exact this

section
variable {L : Nat → Nat} {r : Nat} {x : Sys} {F : Nat → Prop} {w : World}

/-- What a step leaves. -/
def Did (L : Nat → Nat) (r : Nat) (F : Nat → Prop) (w : World) (y : Bool × Sys) (e : Ending) (w' : World) : Prop := e = .returned (.bool y.1) ∧ Turned (SysT L r y.2) F w w'

set_option maxHeartbeats 1000000 in
set_option maxRecDepth 100000 in
theorem way_write (h : SysT L r x F w) (hx : x.Ok) {d o : Nat} (hd : (d = 0 ∧ o = 0) ∨ (d = 1 ∧ o = 6)) (n : Int) :
    Calls Tryd.prog 42 #[.pointer (some ⟨r, o, none⟩), .int .i64 n] w (Did L r F w (x.write d n)) := by
  have hd2 : d < 2 := by omega
  obtain ⟨A0, B0, hst⟩ := h
  obtain ⟨A, c, q, g, v, l, hr⟩ := id hst.snd
  obtain ⟨G, hp, hG, hturn, -⟩ := Lines.at hst.fst (1 - d) (by omega)
  have hwt := hr.wt d hd2
  have hwl := hx.wle d hd2
  obtain ⟨ws, hws⟩ : ∃ ws, x.ws d = ws := ⟨_, rfl⟩
  obtain ⟨mi, hmi⟩ : ∃ mi : Int, min n (ws.length : Int) = mi := ⟨_, rfl⟩
  obtain ⟨m, hm⟩ : ∃ m : Nat, max 0 mi = (m : Int) := ⟨mi.toNat, by omega⟩
  have hml : m ≤ ws.length := by omega
  have hmt : (min n (ws.length : Int)).toNat = m := by omega
  have c2 : w.cell? ⟨r, o + 2, none⟩ = some (.pointer (some ⟨L (1 - d), 0, none⟩)) := by
    rw [hr.blk.cell (o + 2)]; rcases hd with ⟨rfl, rfl⟩ | ⟨rfl, rfl⟩ <;> rfl
  have c3 : w.cell? ⟨r, o + 3, none⟩ = some (.int .i64 ((1 - d : Nat) : Int)) := by
    rw [hr.blk.cell (o + 3)]; rcases hd with ⟨rfl, rfl⟩ | ⟨rfl, rfl⟩ <;> rfl
  have c4 : w.cell? ⟨r, o + 4, none⟩ = some (.slice (A d) ws.length (c d)) := by
    rw [hr.blk.cell (o + 4), ← hws]; rcases hd with ⟨rfl, rfl⟩ | ⟨rfl, rfl⟩ <;> rfl
  rw [hws] at hwt hwl
  obtain ⟨A2, hsl, hr2⟩ := run_upto hwt.rd hml
  simp only at hsl
  obtain ⟨k, hk⟩ : ∃ k, x.many d n = k := ⟨_, rfl⟩
  have hkm : k ≤ ws.length := by rw [← hk, ← hws]; exact x.many_le d n
  have hput := PWrite_at (w := w.drew) (hp.drewN 1) (1 - d) (by omega) (hr2.drew) (by omega)
  have hk' : putN x.rm (x.f (1 - d) (1 - d)).en (x.f (1 - d) (1 - d)).xs.length m = k := by
    rw [← hk]; unfold Sys.many Sys.out; rw [hws, hmt]
  rw [hk'] at hput
  have hkm2 : k ≤ m := by rw [← hk']; exact putN_le_m ..
  have htk : (ws.take m).take k = ws.take k := by rw [List.take_take, Nat.min_eq_left hkm2]
  rw [htk] at hput
  obtain ⟨z, hz⟩ : ∃ z : Int, ((1 - d : Nat) : Int) = z := ⟨_, rfl⟩
  obtain ⟨P, hP⟩ : ∃ P, L (1 - d) = P := ⟨_, rfl⟩
  rw [hz] at c3 hput
  rw [hP] at c2 hput
  have hsent : x.write d n = (decide (0 < k), { x.line (1 - d) (1 - d) ⟨(x.out d).en, (x.out d).xs ++ ws.take k⟩ with ws := upn x.ws d (ws.drop k) }) := by
    unfold Sys.write Sys.sent; rw [hk, hws]
  rw [hsent]
  obtain ⟨A3, c3', hfrom, hwt2⟩ := cut_from hwt hkm
  have HP := Lib.hid hput
  have HT := Lib.hid (And.intro hst (And.intro hr (And.intro hturn (And.intro hG hP))))
  have HW := Lib.hid (And.intro hws (And.intro hk hd2))
  have HF := Lib.hid hwt2
  have HL : Hid (∀ w1, Only G w w1 → Blk w1 r 84 (relCells L A c x q v) ∧ w1.cell? ⟨r, o + 4, none⟩ = some (.slice (A d) ws.length (c d)) ∧ w1.frozen? ⟨r, o + 4, none⟩ = false) := by
    intro w1 ho1
    have hb := hr.blk.only ho1 (fun k => hst.ap r (hG r k) hr.fr)
    refine ⟨hb, ?_, hb.frozen _⟩
    rw [hb.cell (o + 4), ← hws]; rcases hd with ⟨rfl, rfl⟩ | ⟨rfl, rfl⟩ <;> rfl
  clear hwt hput hst hr hturn hws hk hwt2 hr2 hsent hmt hk' htk hp hG hP
  have HE : Hid (∀ w1, Turns G w.drew w1 P x.rm (upd (x.f (1 - d)) (1 - d) ⟨(x.f (1 - d) (1 - d)).en, (x.f (1 - d) (1 - d)).xs ++ ws.take k⟩) → Turned (SysT L r { x.line (1 - d) (1 - d) ⟨(x.out d).en, (x.out d).xs ++ ws.take k⟩ with ws := upn x.ws d (ws.drop k) }) F w (w1.setCell ⟨r, o + 4, none⟩ (.slice A3 (ws.drop k).length c3'))) := by
    rintro w1 ⟨G', hG', ho1, hGG⟩
    obtain ⟨hst, hr, hturn, hG, hP⟩ := HT.out
    obtain ⟨hws, hk, hd2⟩ := HW.out
    rw [← hP] at hG'
    have ho : Only G w w1 := ⟨ho1.os, ho1.tape, ho1.output, ho1.size, ho1.block⟩
    obtain ⟨A1, hl1, hoA, hA1⟩ := hturn (1 - d) _ w1 ⟨G', hG', ho, hGG⟩
    have hr1 := hr.only hoA (fun b hb ha => hst.ap b ha hb)
    have hoS : Only (fun b => b = r) w1 (w1.setCell ⟨r, o + 4, none⟩ (.slice A3 (ws.drop k).length c3')) := (Only.refl (fun b => b = r) w1).setCell (p := ⟨r, o + 4, none⟩) (.inl rfl) _
    have hev : EvOk (Byts B0 (w1.setCell ⟨r, o + 4, none⟩ (.slice A3 (ws.drop k).length c3'))) (w1.setCell ⟨r, o + 4, none⟩ (.slice A3 (ws.drop k).length c3')) ⟨0, 0, A3, c3', ws.drop k⟩ := by
      refine Byts.keep (Byts.keep HF.out (w' := w1) fun b hlt hF _ => hoA.block b hlt (fun ha => hst.ap b ha hF)) fun b hlt _ hc => hoS.block b hlt ?_
      obtain ⟨cs, hc⟩ := hc
      exact byte_ne hc hr1.blk (by decide)
    have hr2 : RlyF L r { x.line (1 - d) (1 - d) ⟨(x.out d).en, (x.out d).xs ++ ws.take k⟩ with ws := upn x.ws d (ws.drop k) } (upn A d A3) (upn c d c3') q g v l B0 (w1.setCell ⟨r, o + 4, none⟩ (.slice A3 (ws.drop k).length c3')) := by
      refine hr1.store hoS ?_ rfl rfl (fun _ hb => hb) (fun b hb => Nat.lt_of_lt_of_le (hr1.lt b hb) hoS.size) fun j hj => ?_
      · have hb := hr1.blk.set_ (o + 4) (.slice A3 (ws.drop k).length c3')
        have e : relCells L (upn A d A3) (upn c d c3') { x.line (1 - d) (1 - d) ⟨(x.out d).en, (x.out d).xs ++ ws.take k⟩ with ws := upn x.ws d (ws.drop k) } q v = (relCells L A c x q v).setIfInBounds (o + 4) (.slice A3 (ws.drop k).length c3') := by
          rcases hd with ⟨rfl, rfl⟩ | ⟨rfl, rfl⟩ <;> simp [relCells, Sys.line, upn]
        rw [e]; exact hb
      · by_cases hjd : j = d
        · subst hjd
          right
          show EvOk _ _ ⟨0, 0, upn A j A3 j, upn c j c3' j, upn x.ws j (ws.drop k) j⟩
          rw [upn_at, upn_at, upn_at]; exact hev
        · left
          exact ⟨upn_far _ _ hjd, upn_far _ _ hjd, upn_far _ _ hjd⟩
    exact hst.both (Rly.framed ..) (Lines.framed L { x.line (1 - d) (1 - d) ⟨(x.out d).en, (x.out d).xs ++ ws.take k⟩ with ws := upn x.ws d (ws.drop k) }) (Q' := Rly L r { x.line (1 - d) (1 - d) ⟨(x.out d).en, (x.out d).xs ++ ws.take k⟩ with ws := upn x.ws d (ws.drop k) }) hl1 hoA hA1 ⟨_, _, _, _, _, _, hr2⟩ (hoS.mono fun i _ e => by subst e; exact hr.fr) (fun b hb => .inl hb)
  rcases hd with ⟨rfl, rfl⟩ | ⟨rfl, rfl⟩
  · obtain rfl : z = 1 := by omega
    clear hz hd2
    simp only [Nat.zero_add] at c2 c3 c4 HL HE
    go_enter Tryd.func42, Tryd.ntmps42
    go_wp2_with fail
    go_still_tail 16, (by kernel_rfl)
    change wpList _ _ _ _ _ w.drew
    go_wp2_with fail
    refine HP.out.mono ?_
    rintro e w1 ⟨rfl, ht⟩
    obtain ⟨G', hG', ho1, hGG⟩ := id ht
    obtain ⟨-, l4, f4⟩ := HL.out w1 ⟨ho1.os, ho1.tape, ho1.output, ho1.size, ho1.block⟩
    have HH := Lib.hid ht
    clear ht hG' ho1 hGG c2 c3 c4
    go_wp2_with fail
    go_ret
    exact ⟨ret_bool (by simp), by have := HE.out w1 HH.out; rw [List.length_drop] at this; exact this⟩
  · obtain rfl : z = 0 := by omega
    clear hz hd2
    simp only [Nat.reduceAdd] at c2 c3 c4 HL HE
    go_enter Tryd.func42, Tryd.ntmps42
    go_wp2_with fail
    go_still_tail 16, (by kernel_rfl)
    change wpList _ _ _ _ _ w.drew
    go_wp2_with fail
    refine HP.out.mono ?_
    rintro e w1 ⟨rfl, ht⟩
    obtain ⟨G', hG', ho1, hGG⟩ := id ht
    obtain ⟨-, l4, f4⟩ := HL.out w1 ⟨ho1.os, ho1.tape, ho1.output, ho1.size, ho1.block⟩
    have HH := Lib.hid ht
    clear ht hG' ho1 hGG c2 c3 c4
    go_wp2_with fail
    go_ret
    exact ⟨ret_bool (by simp), by have := HE.out w1 HH.out; rw [List.length_drop] at this; exact this⟩
end
end Go.Proofs.YtfmmomdfmmoklaaDoor
