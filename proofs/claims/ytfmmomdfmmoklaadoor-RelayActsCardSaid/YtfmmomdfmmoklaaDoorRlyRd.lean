/-
  The contract of the relay's read.
  Conditions: none but that all were made by New; the package's table holds what its initialiser lays (Oth).
-/
import Derived.Test.YtfmmomdfmmoklaaDoorRlyWr
namespace Go.Proofs.YtfmmomdfmmoklaaDoor
open Go.RowKit

theorem Oth.drew {w : World} (h : Oth w) : Oth w.drew := h
/-- The table stays as it is, where only F turns. -/
def OthF (F : Nat → Prop) (w : World) : Prop := ∀ w', Only F w w' → Oth w'

section
variable {L : Nat → Nat} {r : Nat} {x : Sys} {F : Nat → Prop} {w : World}

/-- The cells of a way. -/
theorem RlyF.way {A : Nat → Option Addr} {c : Nat → Nat} {q : Nat} {g : Option Nat} {v : Value} {l : List Ev} (hr : RlyF L r x A c q g v l F w) {d o : Nat} (hd : (d = 0 ∧ o = 0) ∨ (d = 1 ∧ o = 6)) :
    w.cell? ⟨r, o, none⟩ = some (.pointer (some ⟨L d, 0, none⟩)) ∧ w.cell? ⟨r, o + 1, none⟩ = some (.int .i64 (d : Int)) ∧ w.cell? ⟨r, o + 2, none⟩ = some (.pointer (some ⟨L (1 - d), 0, none⟩)) ∧ w.cell? ⟨r, o + 3, none⟩ = some (.int .i64 ((1 - d : Nat) : Int)) ∧
    w.cell? ⟨r, o + 4, none⟩ = some (.slice (A d) (x.ws d).length (c d)) ∧ w.cell? ⟨r, o + 5, none⟩ = some (.bool (x.ov d)) := by
  refine ⟨?_, ?_, ?_, ?_, ?_, ?_⟩ <;> rw [hr.blk.cell] <;> rcases hd with ⟨rfl, rfl⟩ | ⟨rfl, rfl⟩ <;> rfl

theorem SysT.turned_refl (h : SysT L r x F w) : Turned (SysT L r x) F w w := Turned.refl h

set_option maxHeartbeats 1000000 in
set_option maxRecDepth 100000 in
theorem read_shut (h : SysT L r x F w) {d o : Nat} (hd : (d = 0 ∧ o = 0) ∨ (d = 1 ∧ o = 6)) (n t : Int) (hs : x.shut d n = true) :
    Calls Tryd.prog 41 #[.pointer (some ⟨r, 0, none⟩), .int .i64 d, .int .i64 n, .int .i64 t] w (Did L r F w (x.read d n t)) := by
  have e : x.read d n t = (false, x) := by unfold Sys.read; rw [if_pos hs]
  rw [e]
  have H := Lib.hid h
  obtain ⟨A0, B0, hst⟩ := h
  obtain ⟨A, c, q, g, v, l, hr⟩ := id hst.snd
  obtain ⟨-, -, -, -, c4, c5⟩ := hr.way hd
  obtain ⟨Ae, ce', rfl, -⟩ := hr.el.row.form
  have ce : w.cell? ⟨r, 13, none⟩ = some (.slice Ae l.length ce') := hr.blk.cell 13
  have hne : l.length = x.ev.length := by rw [← hr.pe, pes_len]
  rw [hne] at ce
  obtain ⟨k0, hk0⟩ : ∃ k0, (x.ws d).length = k0 := ⟨_, rfl⟩
  obtain ⟨ov, hov⟩ : ∃ ov, x.ov d = ov := ⟨_, rfl⟩
  obtain ⟨m, hm⟩ : ∃ m, x.ev.length = m := ⟨_, rfl⟩
  unfold Sys.shut at hs
  rw [hk0, hov, hm] at hs
  rw [hk0] at c4
  rw [hov] at c5
  rw [hm] at ce
  clear hst hr hne hk0 hov hm e
  simp only [Bool.or_eq_true, decide_eq_true_eq] at hs
  rcases hd with ⟨rfl, rfl⟩ | ⟨rfl, rfl⟩
  · simp only [Nat.zero_add] at c4 c5
    by_cases h1 : 0 < k0
    · clear hs
      go_enter Tryd.func41, Tryd.ntmps41
      go_wp2_with fail
      go_ret
      exact ⟨rfl, Turned.refl H.out⟩
    · obtain rfl : k0 = 0 := by omega
      clear h1
      cases ov with
      | true =>
        clear hs
        go_enter Tryd.func41, Tryd.ntmps41
        go_wp2_with fail
        go_ret
        exact ⟨rfl, Turned.refl H.out⟩
      | false =>
        by_cases h3 : n < 1
        · clear hs
          go_enter Tryd.func41, Tryd.ntmps41
          go_wp2_with fail
          go_ret
          exact ⟨rfl, Turned.refl H.out⟩
        · have hm4 : ((m : Int) == 4096) = true := by
            simp [h3] at hs
            simp; omega
          clear hs
          go_enter Tryd.func41, Tryd.ntmps41
          go_wp2_with fail
          go_ret
          exact ⟨rfl, Turned.refl H.out⟩
  · simp only [Nat.reduceAdd] at c4 c5
    by_cases h1 : 0 < k0
    · clear hs
      go_enter Tryd.func41, Tryd.ntmps41
      go_wp2_with fail
      go_ret
      exact ⟨rfl, Turned.refl H.out⟩
    · obtain rfl : k0 = 0 := by omega
      clear h1
      cases ov with
      | true =>
        clear hs
        go_enter Tryd.func41, Tryd.ntmps41
        go_wp2_with fail
        go_ret
        exact ⟨rfl, Turned.refl H.out⟩
      | false =>
        by_cases h3 : n < 1
        · clear hs
          go_enter Tryd.func41, Tryd.ntmps41
          go_wp2_with fail
          go_ret
          exact ⟨rfl, Turned.refl H.out⟩
        · have hm4 : ((m : Int) == 4096) = true := by
            simp [h3] at hs
            simp; omega
          clear hs
          go_enter Tryd.func41, Tryd.ntmps41
          go_wp2_with fail
          go_ret
          exact ⟨rfl, Turned.refl H.out⟩

/-- Nothing was read: all is as it was. -/
theorem read_none {A0 B0 : Nat → Prop} {w1 : World} (hst : StarF (Lines L x) (Rly L r x) A0 B0 F w) (hl : Lines L x A0 w1) (ho : Only A0 w w1) : StarF (Lines L x) (Rly L r x) A0 B0 F w1 ∧ Only F w w1 :=
  ⟨⟨hl, (Rly.framed ..).only hst.snd ho (fun b hb ha => hst.ap b ha hb), hst.ap, hst.un⟩, ho.mono fun i _ hi => (hst.un i).2 (.inl hi)⟩

/-- What was read is noted, and waits. -/
theorem read_took {A0 B0 : Nat → Prop} {w1 w2 : World} (hst : StarF (Lines L x) (Rly L r x) A0 B0 F w) {d o : Nat} (hd : (d = 0 ∧ o = 0) ∨ (d = 1 ∧ o = 6)) {n t : Int} {y : Way} (hy : y = ⟨(x.inc d).en, (x.inc d).xs.drop (x.room n).toNat⟩) {ys : List Nat} (hys : x.got d n = ys) (hb : ∀ b ∈ ys, b < 256) (hn : ys.length ≤ 65536)
    {A9 : Option Addr} {c9 : Nat} {gt : Option Nat} (hrow : Row w1 5 gt (.slice A9 ys.length c9) (bv ys)) (hgt : ∀ b, gt = some b → w.heap.size ≤ b) (hl : Lines L (x.line d (1 - d) y) A0 w1) (ho : Only A0 w w1) (t2 : Turned (Rly L r (x.noted d t ys)) B0 w1 w2) :
    w2.frozen? ⟨r, o + 4, none⟩ = false ∧ (∃ u, w2.cell? ⟨r, o + 4, none⟩ = some u) ∧ Turned (SysT L r (x.took d n t)) F w (w2.setCell ⟨r, o + 4, none⟩ (.slice A9 ys.length c9)) := by
  obtain ⟨B1, ⟨A, c, q, g, v, l, hr⟩, o2, hB1⟩ := t2
  have s1 := ho.size
  have s2 := o2.size
  have hB0 : ∀ b, B0 b → b < w.heap.size := fun b hb => (Rly.framed L r x).lt hst.snd b hb
  have hA0 : ∀ b, A0 b → b < w.heap.size := fun b hb => (Lines.framed L x).lt hst.fst b hb
  have hrB : B0 r := by
    obtain ⟨_, _, _, _, _, _, h⟩ := hst.snd
    exact h.fr
  have hrow2 : Row w2 5 gt (.slice A9 ys.length c9) (bv ys) := hrow.only o2 fun b e hb => by have := hgt b e; have := hB0 b hb; omega
  have hoS : Only (fun b => b = r) w2 (w2.setCell ⟨r, o + 4, none⟩ (.slice A9 ys.length c9)) := (Only.refl (fun b => b = r) w2).setCell (p := ⟨r, o + 4, none⟩) (.inl rfl) _
  have hrow3 : Row (w2.setCell ⟨r, o + 4, none⟩ (.slice A9 ys.length c9)) 5 gt (.slice A9 ys.length c9) (bv ys) := hrow2.far (p := ⟨r, o + 4, none⟩) (hrow2.ne_ hr.blk (by decide)) _
  refine ⟨hr.blk.frozen _, ⟨_, (hr.way hd).2.2.2.2.1⟩, ?_⟩
  have hr2 : RlyF L r (x.took d n t) (upn A d A9) (upn c d c9) q g v l (fun b => B1 b ∨ gt = some b) (w2.setCell ⟨r, o + 4, none⟩ (.slice A9 ys.length c9)) := by
    refine hr.store (x' := x.took d n t) hoS ?_ rfl (by show x.ev ++ [_] = x.ev ++ [_]; rw [hys]) (fun _ hb => .inl hb) ?_ fun j hj => ?_
    · have hb := hr.blk.set_ (o + 4) (.slice A9 ys.length c9)
      have e : relCells L (upn A d A9) (upn c d c9) (x.took d n t) q v = (relCells L A c (x.noted d t ys) q v).setIfInBounds (o + 4) (.slice A9 ys.length c9) := by
        rcases hd with ⟨rfl, rfl⟩ | ⟨rfl, rfl⟩ <;> simp [relCells, Sys.took, Sys.noted, Sys.line, upn, hys]
      rw [e]; exact hb
    · rintro b (hb | hb)
      · exact Nat.lt_of_lt_of_le (hr.lt b hb) hoS.size
      · exact Nat.lt_of_lt_of_le (hrow2.lt hb) hoS.size
    · by_cases hjd : j = d
      · subst hjd
        right
        show EvOk _ _ ⟨0, 0, upn A j A9 j, upn c j c9 j, upn x.ws j (x.got j n) j⟩
        rw [upn_at, upn_at, upn_at, hys]
        exact EvOk.ofRow hrow3 hb (by omega) fun b e hc => .inr ⟨.inr e, hc⟩
      · left
        exact ⟨upn_far _ _ hjd, upn_far _ _ hjd, upn_far _ _ hjd⟩
  have hl' : Lines L (x.took d n t) A0 w1 := by rw [hy] at hl; exact hl
  refine hst.both (Rly.framed ..) (Lines.framed L (x.took d n t)) (Q' := Rly L r (x.took d n t)) hl' ho (fun b hb => .inl hb) ⟨_, _, _, _, _, _, hr2⟩ (o2.trans hoS fun i hi e => by subst e; exact hrB) fun b hb => ?_
  rcases hb with hb | hb
  · rcases hB1 b hb with k | k
    · exact .inl k
    · exact .inr ⟨by omega, fun ha => by have := hA0 b ha; omega⟩
  · have := hgt b hb
    exact .inr ⟨this, fun ha => by have := hA0 b ha; omega⟩

/-- The end was seen: it is kept, and handed on. -/
theorem read_ended {A0 B0 : Nat → Prop} (hst : StarF (Lines L x) (Rly L r x) A0 B0 F w) {d o : Nat} (hd : (d = 0 ∧ o = 0) ∨ (d = 1 ∧ o = 6)) :
    w.frozen? ⟨r, o + 5, none⟩ = false ∧ w.cell? ⟨r, o + 5, none⟩ = some (.bool (x.ov d)) ∧ (w.setCell ⟨r, o + 5, none⟩ (.bool true)).cell? ⟨r, o + 2, none⟩ = some (.pointer (some ⟨L (1 - d), 0, none⟩)) ∧ (w.setCell ⟨r, o + 5, none⟩ (.bool true)).cell? ⟨r, o + 3, none⟩ = some (.int .i64 ((1 - d : Nat) : Int)) ∧
    ∃ G, PAt G (w.setCell ⟨r, o + 5, none⟩ (.bool true)) (L (1 - d)) x.rm (x.f (1 - d)) ∧
      ∀ w', Turns G (w.setCell ⟨r, o + 5, none⟩ (.bool true)) w' (L (1 - d)) x.rm (upd (x.f (1 - d)) (1 - d) ⟨true, (x.f (1 - d) (1 - d)).xs⟩) → Turned (SysT L r (x.ended d)) F w w' := by
  obtain ⟨A, c, q, g, v, l, hr⟩ := id hst.snd
  have hoS : Only (fun b => b = r) w (w.setCell ⟨r, o + 5, none⟩ (.bool true)) := (Only.refl (fun b => b = r) w).setCell (p := ⟨r, o + 5, none⟩) (.inl rfl) _
  have hb := hr.blk.set_ (o + 5) (.bool true)
  have hr2 : RlyF L r (x.ended d) A c q g v l B0 (w.setCell ⟨r, o + 5, none⟩ (.bool true)) := by
    refine hr.store (x' := x.ended d) hoS ?_ rfl rfl (fun _ hb => hb) (fun b hb => Nat.lt_of_lt_of_le (hr.lt b hb) hoS.size) fun j hj => .inl ⟨rfl, rfl, rfl⟩
    have e : relCells L A c (x.ended d) q v = (relCells L A c x q v).setIfInBounds (o + 5) (.bool true) := by
      rcases hd with ⟨rfl, rfl⟩ | ⟨rfl, rfl⟩ <;> simp [relCells, Sys.ended, Sys.line, upn]
    rw [e]; exact hb
  have hl1 : Lines L x A0 (w.setCell ⟨r, o + 5, none⟩ (.bool true)) := (Lines.framed ..).only hst.fst hoS (fun b ha e => by subst e; exact hst.ap _ ha hr.fr)
  obtain ⟨-, -, c2, c3, -, -⟩ := hr2.way hd
  obtain ⟨G, hp, hG, hturn, -⟩ := Lines.at hl1 (1 - d) (by omega)
  refine ⟨hr.blk.frozen _, (hr.way hd).2.2.2.2.2, c2, c3, G, hp, fun w' ht => ?_⟩
  obtain ⟨A1, hl2, o2, hA1⟩ := hturn (1 - d) _ w' ht
  have hsz := hoS.size
  have hl2' : Lines L (x.ended d) A1 w' := hl2
  refine (hst.swap.both (Lines.framed ..) (Rly.framed L r (x.ended d)) (P' := Rly L r (x.ended d)) (Q' := Lines L (x.ended d)) ⟨_, _, _, _, _, _, hr2⟩ (hoS.mono fun i _ e => by subst e; exact hr.fr) (fun b hb => .inl hb) hl2' o2 fun b hb => ?_).imp fun _ k => k.swap
  rcases hA1 b hb with k | k
  · exact .inl k
  · exact .inr ⟨by omega, fun hb' => by have := hr.lt b hb'; omega⟩

set_option maxHeartbeats 2000000 in
set_option maxRecDepth 100000 in
theorem read_open (h : SysT L r x F w) (hx : x.Ok) (hO : OthF F w) {d o : Nat} (hd : (d = 0 ∧ o = 0) ∨ (d = 1 ∧ o = 6)) (n t : Int) (hs : x.shut d n = false) :
    Calls Tryd.prog 41 #[.pointer (some ⟨r, 0, none⟩), .int .i64 d, .int .i64 n, .int .i64 t] w (Did L r F w (x.read d n t)) := by
  have hd2 : d < 2 := by omega
  have hsh := hs
  have ho : Oth w := hO w (Only.refl F w)
  obtain ⟨A0, B0, hst⟩ := h
  obtain ⟨A, c, q, g, v, l, hr⟩ := id hst.snd
  obtain ⟨c0, c1, -, -, c4, c5⟩ := hr.way hd
  obtain ⟨Ae, ce', rfl, -⟩ := hr.el.row.form
  have ce : w.cell? ⟨r, 13, none⟩ = some (.slice Ae l.length ce') := hr.blk.cell 13
  have cn : w.cell? ⟨r, 14, none⟩ = some (.int .i64 (whole x.ev : Nat)) := hr.blk.cell 14
  have hne : l.length = x.ev.length := by rw [← hr.pe, pes_len]
  rw [hne] at ce
  obtain ⟨m, hm⟩ : ∃ m, x.ev.length = m := ⟨_, rfl⟩
  obtain ⟨N, hN⟩ : ∃ N, whole x.ev = N := ⟨_, rfl⟩
  simp only [Sys.shut, Bool.or_eq_false_iff, decide_eq_false_iff_not] at hs
  obtain ⟨⟨⟨h1, h2⟩, h3⟩, h4⟩ := hs
  have hk0 : (x.ws d).length = 0 := by omega
  rw [hk0] at c4
  rw [h2] at c5
  rw [hm] at ce h4
  rw [hN] at cn
  have hNle : N ≤ 262144 := by rw [← hN]; exact hx.all
  obtain ⟨n2, hn2⟩ : ∃ n2 : Int, min (min n 65536) (262144 - (N : Int)) = n2 := ⟨_, rfl⟩
  have hroom : x.room n = n2 := by rw [← hn2, ← hN]; rfl
  have hm4 : ((m : Int) == 4096) = false := by simp; omega
  have hwrap : IntKind.i64.wrap (262144 - (N : Int)) = 262144 - (N : Int) := IntWalk.i64_in _ (by omega)
  have hmin : ∀ (ts : Array TypeId) (ty : TypeId) (W : World), (Builtin.min_ ts ty #[.int .i64 n, .int .i64 65536, .int .i64 (262144 - (N : Int))]).run Tryd.prog W = .ok (.int .i64 n2) W := fun ts ty W => by
    have e : (Builtin.min_ ts ty #[.int .i64 n, .int .i64 65536, .int .i64 (262144 - (N : Int))]).run Tryd.prog W = .ok (.int .i64 (if (262144 - (N : Int)) < (if 65536 < n then 65536 else n) then 262144 - (N : Int) else (if 65536 < n then 65536 else n))) W := by simp [Builtin.min_, Builtin.min2]
    rw [e, ← hn2]
    congr 2
    split <;> split <;> omega
  obtain ⟨G, hp, hG, hturn, hsame⟩ := Lines.at hst.fst d hd2
  have hread := PRead_own (w := w.drew) (hp.drewN 1) ho.drew d hd2 n2
  obtain ⟨ys, hys⟩ : ∃ ys, (x.f d (1 - d)).xs.take n2.toNat = ys := ⟨_, rfl⟩
  have hgot : x.got d n = ys := by unfold Sys.got Sys.inc; rw [hroom]; exact hys
  rw [hys] at hread
  obtain ⟨zd, hzd⟩ : ∃ zd : Int, (d : Int) = zd := ⟨_, rfl⟩
  obtain ⟨z, hz⟩ : ∃ z : Int, ((1 - d : Nat) : Int) = z := ⟨_, rfl⟩
  obtain ⟨P, hP⟩ : ∃ P, L d = P := ⟨_, rfl⟩
  obtain ⟨P2, hP2⟩ : ∃ P2, L (1 - d) = P2 := ⟨_, rfl⟩
  have hyb : ∀ b ∈ ys, b < 256 := fun b hb => hx.byte d hd2 (1 - d) (by omega) b (by rw [← hys] at hb; exact List.mem_of_mem_take hb)
  have hyl : ys.length ≤ 65536 := by
    have h1 := hx.le d hd2 (1 - d) (by omega)
    have h2 := hx.rm
    rw [← hys, List.length_take]; omega
  obtain ⟨ov, hov⟩ : ∃ ov, ((x.inc d).en && (x.inc d).xs.isEmpty) = ov := ⟨_, rfl⟩
  rw [hP] at c0 hread
  rw [hzd] at c1 hread ⊢
  have KW : ∀ {w1 : World} {A9 : Option Addr} {c9 : Nat} {gt : Option Nat}, (Row w1 5 gt (.slice A9 ys.length c9) (bv ys) ∧ (∀ b, gt = some b → w.drew.heap.size ≤ b) ∧ PAt G w1 P x.rm (upd (x.f d) (1 - d) ⟨(x.f d (1 - d)).en, (x.f d (1 - d)).xs.drop n2.toNat⟩) ∧ Only G w.drew w1) →
      Lines L (x.line d (1 - d) ⟨(x.f d (1 - d)).en, (x.f d (1 - d)).xs.drop n2.toNat⟩) A0 w1 ∧ Only A0 w w1 ∧ Oth w1 := by
    rintro w1 A9 c9 gt ⟨hrow, hgt, hp1, ho1⟩
    have ho' : Only G w w1 := ⟨ho1.os, ho1.tape, ho1.output, ho1.size, ho1.block⟩
    rw [← hP] at hp1
    obtain ⟨k1, k2⟩ := hsame _ _ w1 hp1 ho'
    exact ⟨k1, k2, hO w1 (k2.mono fun i _ hi => (hst.un i).2 (.inl hi))⟩
  have HT : Hid (∀ (w1 : World) (A9 : Option Addr) (c9 : Nat) (gt : Option Nat), (Row w1 5 gt (.slice A9 ys.length c9) (bv ys) ∧ (∀ b, gt = some b → w.drew.heap.size ≤ b) ∧ PAt G w1 P x.rm (upd (x.f d) (1 - d) ⟨(x.f d (1 - d)).en, (x.f d (1 - d)).xs.drop n2.toNat⟩) ∧ Only G w.drew w1) →
      Calls Tryd.prog 54 #[.pointer (some ⟨r, 0, none⟩), .int .i64 zd, .int .i64 t, .slice A9 ys.length c9] w1 fun e w2 => e = .returned (.tuple #[]) ∧ w2.frozen? ⟨r, o + 4, none⟩ = false ∧ (∃ u, w2.cell? ⟨r, o + 4, none⟩ = some u) ∧ (0 < ys.length → Did L r F w (x.read d n t) (.returned (.bool true)) (w2.setCell ⟨r, o + 4, none⟩ (.slice A9 ys.length c9)))) := by
    intro w1 A9 c9 gt hh
    obtain ⟨k1, k2, -⟩ := KW hh
    have hr1 : Rly L r x B0 w1 := (Rly.framed ..).only hst.snd k2 (fun b hb ha => hst.ap b ha hb)
    rw [← hzd]
    refine (note_at hr1 t hh.1 hyb hyl hx.len hx.all).mono ?_
    rintro e w2 ⟨rfl, ht⟩
    obtain ⟨f1, f3, f2⟩ := read_took (y := ⟨(x.inc d).en, (x.inc d).xs.drop (x.room n).toNat⟩) hst hd (n := n) rfl hgot hyb hyl hh.1 hh.2.1 (by rw [hroom]; exact k1) k2 ht
    refine ⟨rfl, f1, f3, fun hy0 => ?_⟩
    have e : x.read d n t = (true, x.took d n t) := by
      unfold Sys.read
      rw [if_neg (by simp [hsh]), if_pos (by rw [hgot]; intro e; rw [e] at hy0; simp at hy0)]
    rw [e]
    exact ⟨rfl, f2⟩
  have KN : ∀ {w1 : World} {A9 : Option Addr} {c9 : Nat} {gt : Option Nat}, (Row w1 5 gt (.slice A9 ys.length c9) (bv ys) ∧ (∀ b, gt = some b → w.drew.heap.size ≤ b) ∧ PAt G w1 P x.rm (upd (x.f d) (1 - d) ⟨(x.f d (1 - d)).en, (x.f d (1 - d)).xs.drop n2.toNat⟩) ∧ Only G w.drew w1) → ys.length = 0 →
      StarF (Lines L x) (Rly L r x) A0 B0 F w1 ∧ Only F w w1 ∧ Oth w1 := by
    intro w1 A9 c9 gt hh hy0
    obtain ⟨k1, k2, k3⟩ := KW hh
    have e : (x.f d (1 - d)).xs.drop n2.toNat = (x.f d (1 - d)).xs := by
      have h0 : ((x.f d (1 - d)).xs.take n2.toNat).length = 0 := by rw [hys]; exact hy0
      rw [List.length_take] at h0
      rcases Nat.eq_zero_or_pos n2.toNat with h | h
      · rw [h, List.drop_zero]
      · have : (x.f d (1 - d)).xs = [] := List.eq_nil_of_length_eq_zero (by omega)
        rw [this, List.drop_nil]
    rw [e] at k1
    have k1' : Lines L x A0 w1 := by
      have := Sys.line_same x d (1 - d)
      rw [show (⟨(x.f d (1 - d)).en, (x.f d (1 - d)).xs⟩ : Way) = x.f d (1 - d) from rfl, this] at k1
      exact k1
    obtain ⟨k4, k5⟩ := read_none hst k1' k2
    exact ⟨k4, k5, k3⟩
  have hempty : ys.length = 0 → x.got d n = [] := fun h => by rw [hgot]; exact List.eq_nil_of_length_eq_zero h
  have HN : Hid (∀ (w1 : World) (A9 : Option Addr) (c9 : Nat) (gt : Option Nat), (Row w1 5 gt (.slice A9 ys.length c9) (bv ys) ∧ (∀ b, gt = some b → w.drew.heap.size ≤ b) ∧ PAt G w1 P x.rm (upd (x.f d) (1 - d) ⟨(x.f d (1 - d)).en, (x.f d (1 - d)).xs.drop n2.toNat⟩) ∧ Only G w.drew w1) → ys.length = 0 →
      w1.cell? ⟨r, o, none⟩ = some (.pointer (some ⟨P, 0, none⟩)) ∧ w1.cell? ⟨r, o + 1, none⟩ = some (.int .i64 zd) ∧
      Calls Tryd.prog 22 #[.pointer (some ⟨P, 0, none⟩), .int .i64 zd] w1.drew (fun e w' => e = .returned (.bool ov) ∧ w1.drew = w') ∧
      (ov = true → w1.drew.frozen? ⟨r, o + 5, none⟩ = false ∧ w1.drew.cell? ⟨r, o + 5, none⟩ = some (.bool (x.ov d)) ∧ (w1.drew.setCell ⟨r, o + 5, none⟩ (.bool true)).cell? ⟨r, o + 2, none⟩ = some (.pointer (some ⟨P2, 0, none⟩)) ∧ (w1.drew.setCell ⟨r, o + 5, none⟩ (.bool true)).cell? ⟨r, o + 3, none⟩ = some (.int .i64 z) ∧
        Calls Tryd.prog 31 #[.pointer (some ⟨P2, 0, none⟩), .int .i64 z] (w1.drew.setCell ⟨r, o + 5, none⟩ (.bool true)).drew (fun e w' => e = .returned (.tuple #[]) ∧ Did L r F w (x.read d n t) (.returned (.bool true)) w'))) := by
    intro w1 A9 c9 gt hh hy0
    obtain ⟨k1, k2, k3⟩ := KN hh hy0
    have k1d : StarF (Lines L x) (Rly L r x) A0 B0 F w1.drew := (read_none k1 ((Lines.framed ..).only k1.fst ((Only.refl (fun _ => False) w1).drew) (fun _ _ e => e)) ((Only.refl A0 w1).drew)).1
    obtain ⟨G1, hp1, -, -, -⟩ := Lines.at k1d.fst d hd2
    obtain ⟨A', c', q', g', v', l', hr1⟩ := id k1.snd
    obtain ⟨d0, d1, -, -, -, -⟩ := hr1.way hd
    rw [hP] at d0
    rw [hzd] at d1
    refine ⟨d0, d1, ?_, fun hov1 => ?_⟩
    · have := POver_at hp1 k3.drew d hd2
      rw [hP, hzd] at this
      rw [← hov]; exact this
    · obtain ⟨e1, e2, e3, e4, G2, hp2, e5⟩ := read_ended k1d hd
      rw [hP2] at e3
      rw [hz] at e4
      refine ⟨e1, e2, e3, e4, ?_⟩
      have := PHang_at (w := (w1.drew.setCell ⟨r, o + 5, none⟩ (.bool true)).drew) (hp2.drewN 1) (1 - d) (by omega)
      rw [hP2, hz] at this
      refine this.mono ?_
      rintro e w' ⟨rfl, G', ht, ho', hGG⟩
      rw [← hP2] at ht
      obtain ⟨F', hs1, hs2, hs3⟩ := e5 w' ⟨G', ht, ⟨ho'.os, ho'.tape, ho'.output, ho'.size, ho'.block⟩, hGG⟩
      have e : x.read d n t = (true, x.ended d) := by
        unfold Sys.read
        rw [if_neg (by simp [hsh]), if_neg (by simp [hempty hy0]), if_pos (by rw [hov]; exact hov1)]
      rw [e]
      have k2s := k2.size
      refine ⟨rfl, rfl, F', hs1, ⟨hs2.os.trans k2.os, hs2.tape.trans k2.tape, hs2.output.trans k2.output, Nat.le_trans k2s hs2.size, fun i hi hF => (hs2.block i (Nat.lt_of_lt_of_le hi k2s) hF).trans (k2.block i hi hF)⟩, fun b hb => (hs3 b hb).imp id (fun k => Nat.le_trans k2s k)⟩
  have HE : Hid (∀ (w1 : World) (A9 : Option Addr) (c9 : Nat) (gt : Option Nat), (Row w1 5 gt (.slice A9 ys.length c9) (bv ys) ∧ (∀ b, gt = some b → w.drew.heap.size ≤ b) ∧ PAt G w1 P x.rm (upd (x.f d) (1 - d) ⟨(x.f d (1 - d)).en, (x.f d (1 - d)).xs.drop n2.toNat⟩) ∧ Only G w.drew w1) → ys.length = 0 →
      (ov = false → Did L r F w (x.read d n t) (.returned (.bool false)) w1.drew)) := by
    intro w1 A9 c9 gt hh hy0 hov0
    obtain ⟨k1, k2, k3⟩ := KN hh hy0
    have e : x.read d n t = (false, x) := by
      unfold Sys.read
      rw [if_neg (by simp [hsh]), if_neg (by simp [hempty hy0]), if_neg (by rw [hov, hov0]; simp)]
    rw [e]
    have k1d : StarF (Lines L x) (Rly L r x) A0 B0 F w1.drew := (read_none k1 ((Lines.framed ..).only k1.fst ((Only.refl (fun _ => False) w1).drew) (fun _ _ e => e)) ((Only.refl A0 w1).drew)).1
    exact ⟨rfl, F, ⟨A0, B0, k1d⟩, ⟨k2.os, k2.tape, k2.output, k2.size, k2.block⟩, fun _ => .inl⟩
  have HP := Lib.hid hread
  clear hread hst hr hturn hsame hp hG hgot hys hP hP2 hov h1 h2 hk0 hN hm hne hx ho hO hsh hroom KW KN hempty hyb hn2
  rcases hd with ⟨rfl, rfl⟩ | ⟨rfl, rfl⟩
  · obtain rfl : zd = 0 := by omega
    obtain rfl : z = 1 := by omega
    clear hzd hz hd2
    simp only [Nat.zero_add] at c0 c1 c4 c5 HT HE HN
    go_enter Tryd.func41, Tryd.ntmps41
    go_wp2_with fail
    go_still_tail 17, (by kernel_rfl)
    change wpList _ _ _ _ _ w.drew
    go_wp2_with fail
    refine HP.out.mono ?_
    rintro e w1 ⟨A9, c9, gt, rfl, hrow, hgt, hp1, ho1⟩
    have H1 := Lib.hid (And.intro hrow (And.intro hgt (And.intro hp1 ho1)))
    clear hrow hgt hp1 ho1 c0 c1 c4 c5 ce cn hmin hwrap
    by_cases hy0 : 0 < ys.length
    · go_wp2_with fail
      refine (HT.out w1 _ _ _ H1.out).mono ?_
      rintro e w2 ⟨rfl, hfr, ⟨u, hcu⟩, ht⟩
      have HH := Lib.hid (ht hy0)
      clear ht
      go_wp2_with fail
      go_ret
      exact HH.out
    · obtain ⟨f0, f1, HO⟩ := HN.out w1 _ _ _ H1.out (by omega)
      have hy : ys.length = 0 := by omega
      rw [hy]
      have HY := Lib.hid (And.intro hy0 hy)
      clear hy0 hy
      cases hov : ov with
      | false =>
        subst hov
        have HO1 := Lib.hid HO.1
        clear HO
        go_wp2_with fail
        go_still_tail 10, (by kernel_rfl)
        change wpList _ _ _ _ _ w1.drew
        go_wp2_with fail
        refine HO1.out.mono ?_
        rintro e w2 ⟨rfl, rfl⟩
        go_wp2_with fail
        go_ret
        exact HE.out w1 _ _ _ H1.out HY.out.2 (by trivial)
      | true =>
        subst hov
        obtain ⟨V, hV⟩ : ∃ V, w1.drew = V := ⟨_, rfl⟩
        rw [hV] at HO
        have HV := Lib.hid hV
        have HO1 := Lib.hid HO.1
        obtain ⟨hfz, k5, k2, k3, HH0⟩ := HO.2 rfl
        generalize hV2 : World.setCell V _ _ = V2 at k2 k3 HH0
        have HH := Lib.hid HH0
        have HV2 := Lib.hid hV2
        clear HO HH0 hV hV2
        go_wp2_with fail
        go_still_tail 10, (by kernel_rfl)
        change wpList _ _ _ _ _ w1.drew
        rw [HV.out]
        go_wp2_with fail
        refine HO1.out.mono ?_
        rintro e w2 ⟨rfl, rfl⟩
        go_wp2_with fail
        rw [HV2.out]
        go_still_tail 10, (by kernel_rfl)
        change wpList _ _ _ _ _ V2.drew
        go_wp2_with fail
        refine HH.out.mono ?_
        rintro e w3 ⟨rfl, ht⟩
        have HHH := Lib.hid ht
        clear ht
        go_wp2_with fail
        go_ret
        exact HHH.out
  · obtain rfl : zd = 1 := by omega
    obtain rfl : z = 0 := by omega
    clear hzd hz hd2
    simp only [Nat.reduceAdd] at c0 c1 c4 c5 HT HE HN
    go_enter Tryd.func41, Tryd.ntmps41
    go_wp2_with fail
    go_still_tail 17, (by kernel_rfl)
    change wpList _ _ _ _ _ w.drew
    go_wp2_with fail
    refine HP.out.mono ?_
    rintro e w1 ⟨A9, c9, gt, rfl, hrow, hgt, hp1, ho1⟩
    have H1 := Lib.hid (And.intro hrow (And.intro hgt (And.intro hp1 ho1)))
    clear hrow hgt hp1 ho1 c0 c1 c4 c5 ce cn hmin hwrap
    by_cases hy0 : 0 < ys.length
    · go_wp2_with fail
      refine (HT.out w1 _ _ _ H1.out).mono ?_
      rintro e w2 ⟨rfl, hfr, ⟨u, hcu⟩, ht⟩
      have HH := Lib.hid (ht hy0)
      clear ht
      go_wp2_with fail
      go_ret
      exact HH.out
    · obtain ⟨f0, f1, HO⟩ := HN.out w1 _ _ _ H1.out (by omega)
      have hy : ys.length = 0 := by omega
      rw [hy]
      have HY := Lib.hid (And.intro hy0 hy)
      clear hy0 hy
      cases hov : ov with
      | false =>
        subst hov
        have HO1 := Lib.hid HO.1
        clear HO
        go_wp2_with fail
        go_still_tail 10, (by kernel_rfl)
        change wpList _ _ _ _ _ w1.drew
        go_wp2_with fail
        refine HO1.out.mono ?_
        rintro e w2 ⟨rfl, rfl⟩
        go_wp2_with fail
        go_ret
        exact HE.out w1 _ _ _ H1.out HY.out.2 (by trivial)
      | true =>
        subst hov
        obtain ⟨V, hV⟩ : ∃ V, w1.drew = V := ⟨_, rfl⟩
        rw [hV] at HO
        have HV := Lib.hid hV
        have HO1 := Lib.hid HO.1
        obtain ⟨hfz, k5, k2, k3, HH0⟩ := HO.2 rfl
        generalize hV2 : World.setCell V _ _ = V2 at k2 k3 HH0
        have HH := Lib.hid HH0
        have HV2 := Lib.hid hV2
        clear HO HH0 hV hV2
        go_wp2_with fail
        go_still_tail 10, (by kernel_rfl)
        change wpList _ _ _ _ _ w1.drew
        rw [HV.out]
        go_wp2_with fail
        refine HO1.out.mono ?_
        rintro e w2 ⟨rfl, rfl⟩
        go_wp2_with fail
        rw [HV2.out]
        go_still_tail 10, (by kernel_rfl)
        change wpList _ _ _ _ _ V2.drew
        go_wp2_with fail
        refine HH.out.mono ?_
        rintro e w3 ⟨rfl, ht⟩
        have HHH := Lib.hid ht
        clear ht
        go_wp2_with fail
        go_ret
        exact HHH.out

/-- The relay's read does what is asked. -/
theorem way_read (h : SysT L r x F w) (hx : x.Ok) (hO : OthF F w) {d o : Nat} (hd : (d = 0 ∧ o = 0) ∨ (d = 1 ∧ o = 6)) (n t : Int) :
    Calls Tryd.prog 41 #[.pointer (some ⟨r, 0, none⟩), .int .i64 d, .int .i64 n, .int .i64 t] w (Did L r F w (x.read d n t)) := by
  cases hs : x.shut d n with
  | true => exact read_shut h hd n t hs
  | false => exact read_open h hx hO hd n t hs
end
end Go.Proofs.YtfmmomdfmmoklaaDoor
