/-
  The line and the document's line, apart from each other; what each call leaves of both.
  Conditions: the package's table holds what its initialiser lays (Oth).
-/
import Derived.Test.YtniikeciccfjoaaDoorPDoc
import Derived.Test.YtniikeciccfjoaaDoorApart
import Derived.Test.YtniikeciccfjoaaDoorPActs
namespace Go.Proofs.YtniikeciccfjoaaDoor
open Go.RowKit

def Line (p rm : Nat) (f : Nat → Way) : Thing := fun F w => PAt F w p rm f
def Docs (m rm : Nat) (t : Nat → Way) : Thing := fun F w => DAt F w m rm t
theorem Line.framed (p rm : Nat) (f : Nat → Way) : Framed (Line p rm f) := ⟨fun h ho hd => PAt.only h ho hd, fun h => h.lt⟩
theorem Docs.framed (m rm : Nat) (t : Nat → Way) : Framed (Docs m rm t) := ⟨fun h ho hd => DAt.only h ho hd, fun h => h.lt⟩

/-- The line, and the document's. -/
def Pair (N M : Nat → Prop) (w0 w : World) (p m rm : Nat) (f t : Nat → Way) : Prop := Apart (Line p rm f) (Docs m rm t) N M w0 w

/-- The ways from a side are those that come to the other one. -/
def Alike (f t : Nat → Way) : Prop := ∀ s, s < 2 → t (1 - s) = f s
theorem Alike.upd {f t : Nat → Way} (h : Alike f t) {s : Nat} (hs : s < 2) (y : Way) : Alike (upd f s y) (upd t (1 - s) y) := by
  intro k hk
  by_cases hks : k = s
  · subst hks; rw [upd_at, upd_at]
  · rw [upd_far _ _ hks, upd_far _ _ (show 1 - k ≠ 1 - s by omega)]; exact h k hk
theorem Alike.upd' {f t : Nat → Way} (h : Alike f t) {s : Nat} (hs : s < 2) (y : Way) : Alike (Go.Proofs.YtniikeciccfjoaaDoor.upd f (1 - s) y) (Go.Proofs.YtniikeciccfjoaaDoor.upd t s y) := by
  have := h.upd (s := 1 - s) (by omega) y
  rwa [show 1 - (1 - s) = s by omega] at this
theorem Alike.to {f t : Nat → Way} (h : Alike f t) (s : Nat) (hs : s < 2) : t s = f (1 - s) := by
  have := h (1 - s) (by omega)
  rwa [show 1 - (1 - s) = s by omega] at this

section
variable {N M : Nat → Prop} {w0 w w' : World} {p m rm : Nat} {f t f' t' : Nat → Way}
theorem Pair.below (h : Pair N M w0 w p m rm f t) : Below w0.heap.size w0 w := Apart.below h
theorem Pair.keep (h : Pair N M w0 w p m rm f t) (hb : Below w.heap.size w w') : Pair N M w0 w' p m rm f t := Apart.keep h (Line.framed ..) (Docs.framed ..) hb
theorem Pair.drew (h : Pair N M w0 w p m rm f t) : Pair N M w0 w.drew p m rm f t := h.keep ⟨rfl, rfl, rfl, Nat.le_refl _, fun _ _ => rfl⟩
theorem Pair.drewN (h : Pair N M w0 w p m rm f t) (n : Nat) : Pair N M w0 (w.drewN n) p m rm f t := h.keep ⟨rfl, rfl, rfl, Nat.le_refl _, fun _ _ => rfl⟩
theorem Pair.none_ (h : Pair N M w0 w p m rm f t) : Pair (fun _ => False) (fun _ => False) w0 w p m rm f t := Apart.less h (fun _ e => e.elim) (fun _ e => e.elim)
theorem Pair.more (h : Pair N M w0 w p m rm f t) (o : Obj) : Pair (fun b => b = w.heap.size) (fun b => b = w.heap.size) w0 (w.alloc o) p m rm f t := Apart.more h (Line.framed ..) (Docs.framed ..) o
theorem Pair.start {w1 w2 : World} {a b : Nat → Way} (hb : Below w0.heap.size w0 w) (hp : PAt (Since w w1) w1 p rm a) (hb1 : Below w.heap.size w w1) (hq : DAt (Since w1 w2) w2 m rm b) (hb2 : Below w1.heap.size w1 w2) : Pair (fun _ => False) (fun _ => False) w0 w2 p m rm a b := by
  have h0 := hb.size
  have h1 := hb1.size
  refine ⟨Since w w1, Since w1 w2, hp.keep hb2, hq, ?_, ?_, ?_, fun _ e => e.elim, fun _ e => e.elim, fun _ e => e.elim, fun _ e => e.elim, hb.trans ((hb1.mono h0).trans (hb2.mono (Nat.le_trans h0 h1)))⟩
  · rintro b ⟨_, k1⟩ ⟨k2, _⟩; omega
  · rintro b ⟨k1, _⟩; omega
  · rintro b ⟨k1, _⟩; omega

theorem pair_write (h : Pair N M w0 w p m rm f t) (s : Nat) (hs : s < 2) {A : Option Addr} {n c : Nat} {ys : List Nat} (hr : Rd w (.slice A n c) (bv ys)) (hn : n ≤ 9223372036854775807) :
    Calls Tryd.prog 13 #[.pointer (some ⟨p, 0, none⟩), .int .i64 s, .slice A n c] w fun e w' => e = .returned (.int .i64 (putN rm (f s).en (f s).xs.length n)) ∧ Pair N M w0 w' p m rm (upd f s ⟨(f s).en, (f s).xs ++ ys.take (putN rm (f s).en (f s).xs.length n)⟩) t ∧ Stay N w w' := by
  obtain ⟨F, G, h⟩ := h
  refine (PWrite_at h.fst s hs hr hn).mono ?_
  rintro e w' ⟨rfl, ht⟩
  exact ⟨rfl, h.turn0 (Docs.framed ..) ht⟩
theorem pair_dwrite (h : Pair N M w0 w p m rm f t) (s : Nat) (hs : s < 2) {A : Option Addr} {n c : Nat} {ys : List Nat} (hr : Rd w (.slice A n c) (bv ys)) (hn : n ≤ 65536) (hby : ∀ d ∈ ys, d < 256) :
    Calls Tryd.prog 18 #[.pointer (some ⟨m, 0, none⟩), .int .i64 s, .slice A n c] w fun e w' => e = .returned (.int .i64 (putN rm (t (1 - s)).en (t (1 - s)).xs.length n)) ∧ Pair N M w0 w' p m rm f (upd t (1 - s) ⟨(t (1 - s)).en, (t (1 - s)).xs ++ ys.take (putN rm (t (1 - s)).en (t (1 - s)).xs.length n)⟩) ∧ Stay M w w' := by
  obtain ⟨G, F, h⟩ := Apart.swap h
  refine (DWrite_at h.fst s hs hr hn hby).mono ?_
  rintro e w' ⟨rfl, ht⟩
  obtain ⟨h1, h2⟩ := h.turn0 (P' := Docs m rm _) (Line.framed ..) ht
  exact ⟨rfl, h1.swap, h2⟩
/-- What is read lies in memory that is none of the document's line's. -/
theorem pair_read (h : Pair N M w0 w p m rm f t) (ho : Oth w0) (s : Nat) (hs : s < 2) (n : Int) :
    Calls Tryd.prog 14 #[.pointer (some ⟨p, 0, none⟩), .int .i64 s, .int .i64 n] w fun e w' => ∃ A c gt, e = .returned (.slice A ((f (1 - s)).xs.take n.toNat).length c) ∧ Row w' 5 gt (.slice A ((f (1 - s)).xs.take n.toNat).length c) (bv ((f (1 - s)).xs.take n.toNat)) ∧ Pair N (fun b => M b ∨ gt = some b) w0 w' p m rm (upd f (1 - s) ⟨(f (1 - s)).en, (f (1 - s)).xs.drop n.toNat⟩) t ∧ Stay N w w' := by
  obtain ⟨F, G, h⟩ := h
  refine (PRead_at h.fst (ho.below h.below) s hs n).mono ?_
  rintro e w' ⟨A, c, gt, rfl, hrow, hge, ht⟩
  exact ⟨A, c, gt, rfl, hrow, h.turn (Docs.framed ..) ht (fun b e => ⟨hge b e, hrow.lt e⟩)⟩
theorem pair_dread (h : Pair N M w0 w p m rm f t) (s : Nat) (hs : s < 2) (n : Int) :
    Calls Tryd.prog 19 #[.pointer (some ⟨m, 0, none⟩), .int .i64 s, .int .i64 n] w fun e w' => ∃ A c, e = .returned (.slice A ((t s).xs.take n.toNat).length c) ∧ Rd w' (.slice A ((t s).xs.take n.toNat).length c) (bv ((t s).xs.take n.toNat)) ∧ Pair N M w0 w' p m rm f (upd t s ⟨(t s).en, (t s).xs.drop n.toNat⟩) ∧ Stay M w w' := by
  obtain ⟨G, F, h⟩ := Apart.swap h
  refine (DRead_at h.fst s hs n).mono ?_
  rintro e w' ⟨A, c, gt, rfl, hrow, hge, ht⟩
  obtain ⟨h1, h2⟩ := h.turn0 (P' := Docs m rm _) (Line.framed ..) ht
  exact ⟨A, c, rfl, hrow.rd, h1.swap, h2⟩
theorem pair_hang (h : Pair N M w0 w p m rm f t) (s : Nat) (hs : s < 2) :
    Calls Tryd.prog 12 #[.pointer (some ⟨p, 0, none⟩), .int .i64 s] w fun e w' => e = .returned (.tuple #[]) ∧ Pair N M w0 w' p m rm (upd f s ⟨true, (f s).xs⟩) t ∧ Stay N w w' := by
  obtain ⟨F, G, h⟩ := h
  refine (PHang_at h.fst s hs).mono ?_
  rintro e w' ⟨rfl, ht⟩
  exact ⟨rfl, h.turn0 (Docs.framed ..) ht⟩
/-- The document's queue of a side: where it lies, and that it is at its end behind a store. -/
theorem pair_queue (h : Pair N M w0 w p m rm f t) (s : Nat) (hs : s < 2) : ∃ q A c, w.cell? ⟨m, s, none⟩ = some (.pointer (some ⟨q, 0, none⟩)) ∧ w.cell? ⟨q, 0, none⟩ = some (.slice A (t s).xs.length c) ∧ w.cell? ⟨q, 2, none⟩ = some (.bool (t s).en) ∧ w.frozen? ⟨q, 2, none⟩ = false ∧
    Pair N M w0 (w.setCell ⟨q, 2, none⟩ (.bool true)) p m rm f (upd t s ⟨true, (t s).xs⟩) ∧
    ∀ n, Calls Tryd.prog 21 #[.pointer (some ⟨q, 0, none⟩)] (w.drewN n) fun e w' => e = .returned (.int .i64 (roomOf rm (t s).en (t s).xs.length)) ∧ ∃ n', w' = w.drewN n' := by
  obtain ⟨G, F, h⟩ := Apart.swap h
  obtain ⟨q, g, hB, hF⟩ := h.fst.ex
  have hle := h.fst.le s hs
  have hrl := h.fst.room_le
  have hq0 := hB.que s hs
  have hrm := fun n => RRoom_at (hq0.drewN n) hrl (by rw [dv_len]; exact hle)
  rw [dv_len] at hrm
  obtain ⟨v, hq, hrow⟩ := id hq0
  obtain ⟨A, c, rfl⟩ := hrow.form
  have hq' := hq
  rw [dv_len] at hq'
  refine ⟨q s, A, c, ?_, hq'.cell 0, hq'.cell 2, hq'.frozen 2, ?_, fun n => (hrm n).mono fun e w' ⟨he, n', hw⟩ => ⟨he, n + n', by rw [hw]; exact World.drewN_drewN ..⟩⟩
  · rw [hB.blk.cell s]
    rcases (show s = 0 ∨ s = 1 by omega) with rfl | rfl <;> rfl
  · have ho : Only (fun b => b = q s ∨ some b = g s) w (w.setCell ⟨q s, 2, none⟩ (.bool true)) := (Only.refl _ w).setCell (p := ⟨q s, 2, none⟩) (.inl (.inl rfl)) _
    have hq1 : MAt (w.setCell ⟨q s, 2, none⟩ (.bool true)) (q s) (g s) rm true (dv (t s).xs) :=
      ⟨_, hq.set_ 2 _, hrow.far (p := ⟨q s, 2, none⟩) hq0.ne_ _⟩
    have ht := hB.turn h.fst hF hs (y := ⟨true, (t s).xs⟩) hle (h.fst.byte s hs) hq1 ho (.inl rfl)
    exact (h.turn0 (P' := Docs m rm _) (Line.framed ..) ht).1.swap
theorem pair_over (h : Pair N M w0 w p m rm f t) (ho : Oth w0) (s : Nat) (hs : s < 2) :
    Calls Tryd.prog 15 #[.pointer (some ⟨p, 0, none⟩), .int .i64 s] w fun e w' => e = .returned (.bool ((f (1 - s)).en && (f (1 - s)).xs.isEmpty)) ∧ w = w' := by
  obtain ⟨F, G, h⟩ := h
  exact POver_at h.fst (ho.below h.below) s hs
theorem pair_dover (h : Pair N M w0 w p m rm f t) (s : Nat) (hs : s < 2) :
    Calls Tryd.prog 20 #[.pointer (some ⟨m, 0, none⟩), .int .i64 s] w fun e w' => e = .returned (.bool ((t s).en && (t s).xs.isEmpty)) ∧ w = w' := by
  obtain ⟨F, G, h⟩ := h
  exact DOver_at h.snd s hs
theorem pair_waits (h : Pair N M w0 w p m rm f t) (ho : Oth w0) (s : Nat) (hs : s < 2) :
    Calls Tryd.prog 16 #[.pointer (some ⟨p, 0, none⟩), .int .i64 s] w fun e w' => e = .returned (.int .i64 (f (1 - s)).xs.length) ∧ w = w' := by
  obtain ⟨F, G, h⟩ := h
  exact PWaits_at h.fst (ho.below h.below) s hs
theorem pair_room (h : Pair N M w0 w p m rm f t) (s : Nat) (hs : s < 2) :
    Calls Tryd.prog 17 #[.pointer (some ⟨p, 0, none⟩), .int .i64 s] w fun e w' => e = .returned (.int .i64 (roomOf rm (f s).en (f s).xs.length)) ∧ ∃ n, w' = w.drewN n := by
  obtain ⟨F, G, h⟩ := h
  exact PRoom_at h.fst s hs
end
end Go.Proofs.YtniikeciccfjoaaDoor
