/-
  A line in memory that was made since w0, beside blocks N that are none of its own (PBes); what each call leaves of both.
  Conditions: the package's table holds what its initialiser lays (Oth).
-/
import Derived.Test.YtniikeciccfjoaaDoorPAlive
namespace Go.Proofs.YtniikeciccfjoaaDoor
open Go.RowKit

/-- A line in memory that was made since w0; the blocks N are none of its own. -/
def PBes (N : Nat → Prop) (w0 w : World) (p room : Nat) (f : Nat → Way) : Prop :=
  ∃ F, PAt F w p room f ∧ (∀ b, F b → w0.heap.size ≤ b) ∧ (∀ b, N b → ¬ F b) ∧ (∀ b, N b → b < w.heap.size) ∧ Below w0.heap.size w0 w

/-- The blocks N are as they were. -/
def Kept (N : Nat → Prop) (w w' : World) : Prop := ∀ b, N b → w'.heap[b]? = w.heap[b]?

section
variable {N M : Nat → Prop} {w0 w w' : World} {p room : Nat} {f f' : Nat → Way}
theorem Kept.blk {g t : Nat} {cs : Array Value} (h : Kept N w w') (hg : N g) (hb : Blk w g t cs) : Blk w' g t cs := hb.keep (h g hg)
theorem Kept.refl (N : Nat → Prop) (w : World) : Kept N w w := fun _ _ => rfl

theorem PBes.below (h : PBes N w0 w p room f) : Below w0.heap.size w0 w := by obtain ⟨_, _, _, _, _, h⟩ := h; exact h
theorem PBes.room_le (h : PBes N w0 w p room f) : room ≤ 65536 := by obtain ⟨_, h, _⟩ := h; exact h.room_le
theorem PBes.le (h : PBes N w0 w p room f) (s : Nat) (hs : s < 2) : (f s).xs.length ≤ room := by obtain ⟨_, h, _⟩ := h; exact h.le s hs
theorem PBes.lt (h : PBes N w0 w p room f) {b : Nat} (hb : N b) : b < w.heap.size := by obtain ⟨_, _, _, _, h, _⟩ := h; exact h b hb
theorem PBes.congr (h : PBes N w0 w p room f) (h0 : f 0 = f' 0) (h1 : f 1 = f' 1) : PBes N w0 w p room f' := by
  obtain ⟨F, h, hr⟩ := h; exact ⟨F, h.congr h0 h1, hr⟩
theorem PBes.less (h : PBes N w0 w p room f) (hM : ∀ b, M b → N b) : PBes M w0 w p room f := by
  obtain ⟨F, h, h1, h2, h3, h4⟩ := h; exact ⟨F, h, h1, fun b hb => h2 b (hM b hb), fun b hb => h3 b (hM b hb), h4⟩
theorem PBes.keep (h : PBes N w0 w p room f) (hb : Below w.heap.size w w') : PBes N w0 w' p room f := by
  obtain ⟨F, h, h1, h2, h3, h4⟩ := h; exact ⟨F, h.keep hb, h1, h2, fun b hb' => Nat.lt_of_lt_of_le (h3 b hb') hb.size, h4.trans (hb.mono h4.size)⟩
theorem PBes.drew (h : PBes N w0 w p room f) : PBes N w0 w.drew p room f := h.keep ⟨rfl, rfl, rfl, Nat.le_refl _, fun _ _ => rfl⟩
theorem PBes.drewN (h : PBes N w0 w p room f) (n : Nat) : PBes N w0 (w.drewN n) p room f := h.keep ⟨rfl, rfl, rfl, Nat.le_refl _, fun _ _ => rfl⟩
theorem PBes.of_own (h : POwn w0 w p room f) : PBes (fun _ => False) w0 w p room f := by
  obtain ⟨F, h, h1, h2⟩ := h; exact ⟨F, h, h1, fun _ e => e.elim, fun _ e => e.elim, h2⟩
/-- One more block. -/
theorem PBes.more (h : PBes N w0 w p room f) (o : Obj) : PBes (fun b => N b ∨ b = w.heap.size) w0 (w.alloc o) p room f := by
  obtain ⟨F, h, h1, h2, h3, h4⟩ := h
  refine ⟨F, h.alloc o, h1, ?_, ?_, h4.alloc h4.size o⟩
  · rintro b (hb | rfl)
    · exact h2 b hb
    · exact fun hF => Nat.lt_irrefl _ (h.lt _ hF)
  · rintro b (hb | rfl)
    · have := h3 b hb; simp; omega
    · simp
/-- A store into one of the blocks N. -/
theorem PBes.store (h : PBes N w0 w p room f) {g : Nat} (hg : N g) (h0 : w0.heap.size ≤ g) (i : Nat) (u : Value) : PBes N w0 (w.setCell ⟨g, i, none⟩ u) p room f := by
  obtain ⟨F, h, h1, h2, h3, h4⟩ := h
  have ho : Only (fun b => b = g) w (w.setCell ⟨g, i, none⟩ u) := (Only.refl (fun b => b = g) w).setCell (p := ⟨g, i, none⟩) (.inl rfl) u
  exact ⟨F, h.only ho (by rintro b hb rfl; exact h2 b hg hb), h1, h2, fun b hb => Nat.lt_of_lt_of_le (h3 b hb) ho.size, h4.setCell (p := ⟨g, i, none⟩) h0 u⟩
theorem PBes.turn {F : Nat → Prop} (h : Turns F w w' p room f') (h1 : ∀ b, F b → w0.heap.size ≤ b) (h2 : ∀ b, N b → ¬ F b) (h3 : ∀ b, N b → b < w.heap.size) (h4 : Below w0.heap.size w0 w) : PBes N w0 w' p room f' ∧ Kept N w w' := by
  obtain ⟨F', h, ho, hF'⟩ := h
  refine ⟨⟨F', h, fun b hb' => ?_, fun b hb hb' => ?_, fun b hb => Nat.lt_of_lt_of_le (h3 b hb) ho.size, ho.more' h4 (fun i hi hi' => by have := h1 i hi'; omega)⟩, fun b hb => ho.block b (h3 b hb) (h2 b hb)⟩
  · rcases hF' b hb' with h5 | h5
    · exact h1 b h5
    · have := h4.size; omega
  · rcases hF' b hb' with h5 | h5
    · exact h2 b hb h5
    · have := h3 b hb; omega

theorem WriteBes (h : PBes N w0 w p room f) (s : Nat) (hs : s < 2) {A : Option Addr} {m c : Nat} {ys : List Nat} (hr : Rd w (.slice A m c) (bv ys)) (hm : m ≤ 9223372036854775807) :
    Calls Tryd.prog 13 #[.pointer (some ⟨p, 0, none⟩), .int .i64 s, .slice A m c] w fun e w' => e = .returned (.int .i64 (putN room (f s).en (f s).xs.length m)) ∧ PBes N w0 w' p room (upd f s ⟨(f s).en, (f s).xs ++ ys.take (putN room (f s).en (f s).xs.length m)⟩) ∧ Kept N w w' := by
  obtain ⟨F, h, h1, h2, h3, h4⟩ := h
  refine (PWrite_at h s hs hr hm).mono ?_
  rintro e w' ⟨rfl, ht⟩
  exact ⟨rfl, PBes.turn ht h1 h2 h3 h4⟩
theorem ReadBes (h : PBes N w0 w p room f) (ho : Oth w0) (s : Nat) (hs : s < 2) (n : Int) :
    Calls Tryd.prog 14 #[.pointer (some ⟨p, 0, none⟩), .int .i64 s, .int .i64 n] w fun e w' => ∃ A c, e = .returned (.slice A ((f (1 - s)).xs.take n.toNat).length c) ∧ Rd w' (.slice A ((f (1 - s)).xs.take n.toNat).length c) (bv ((f (1 - s)).xs.take n.toNat)) ∧ PBes N w0 w' p room (upd f (1 - s) ⟨(f (1 - s)).en, (f (1 - s)).xs.drop n.toNat⟩) ∧ Kept N w w' := by
  obtain ⟨F, h, h1, h2, h3, h4⟩ := h
  refine (PRead_at h (ho.below h4) s hs n).mono ?_
  rintro e w' ⟨A, c, gt, rfl, hrow, _, ht⟩
  exact ⟨A, c, rfl, hrow.rd, PBes.turn ht h1 h2 h3 h4⟩
theorem HangBes (h : PBes N w0 w p room f) (s : Nat) (hs : s < 2) :
    Calls Tryd.prog 12 #[.pointer (some ⟨p, 0, none⟩), .int .i64 s] w fun e w' => e = .returned (.tuple #[]) ∧ PBes N w0 w' p room (upd f s ⟨true, (f s).xs⟩) ∧ Kept N w w' := by
  obtain ⟨F, h, h1, h2, h3, h4⟩ := h
  refine (PHang_at h s hs).mono ?_
  rintro e w' ⟨rfl, ht⟩
  exact ⟨rfl, PBes.turn ht h1 h2 h3 h4⟩
theorem OverBes (h : PBes N w0 w p room f) (ho : Oth w0) (s : Nat) (hs : s < 2) :
    Calls Tryd.prog 15 #[.pointer (some ⟨p, 0, none⟩), .int .i64 s] w fun e w' => e = .returned (.bool ((f (1 - s)).en && (f (1 - s)).xs.isEmpty)) ∧ w = w' := by
  obtain ⟨F, h, _, _, _, h4⟩ := h
  exact POver_at h (ho.below h4) s hs
theorem WaitsBes (h : PBes N w0 w p room f) (ho : Oth w0) (s : Nat) (hs : s < 2) :
    Calls Tryd.prog 16 #[.pointer (some ⟨p, 0, none⟩), .int .i64 s] w fun e w' => e = .returned (.int .i64 (f (1 - s)).xs.length) ∧ w = w' := by
  obtain ⟨F, h, _, _, _, h4⟩ := h
  exact PWaits_at h (ho.below h4) s hs
theorem RoomBes (h : PBes N w0 w p room f) (s : Nat) (hs : s < 2) :
    Calls Tryd.prog 17 #[.pointer (some ⟨p, 0, none⟩), .int .i64 s] w fun e w' => e = .returned (.int .i64 (roomOf room (f s).en (f s).xs.length)) ∧ ∃ n, w' = w.drewN n := by
  obtain ⟨F, h, _⟩ := h
  exact PRoom_at h s hs
end
end Go.Proofs.YtniikeciccfjoaaDoor
