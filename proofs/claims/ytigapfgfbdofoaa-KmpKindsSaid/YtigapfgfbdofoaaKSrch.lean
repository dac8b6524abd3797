/-
  A search for numbers in memory (SAt: T has its blocks); the contracts of New, Feed, At, Reset, of a nil one, too.
  Conditions: a pattern of at most 17592186044416 things.
-/
import Derived.Test.YtigapfgfbdofoaaKClone
import Derived.Test.YtigapfgfbdofoaaSeqT
namespace Go.Proofs.Ytigapfgfbdofoaa
open Go.RowKit

/-- A search: its struct is block q; all that it keeps lies in T; so many things of p stand at the end. -/
def SAt (T : Nat → Prop) (w : World) (q : Nat) (p : List Int) (k : Nat) : Prop :=
  ∃ A c gp gb, Blk w q 52 #[.slice A p.length c, .slice (some ⟨gb, 0, none⟩) p.length p.length, .int .i64 (k : Int)] ∧
    Row w 3 gp (.slice A p.length c) (iv p) ∧ Blk w gb 3 (iv (bords p)).toArray ∧ T q ∧ T gb ∧ ∀ b, gp = some b → T b

section
variable {T S : Nat → Prop} {w w' : World} {q k : Nat} {p : List Int}
theorem SAt.lt (h : SAt T w q p k) : q < w.heap.size := by obtain ⟨_, _, _, _, h1, _⟩ := h; exact h1.lt
theorem SAt.own (h : SAt T w q p k) : T q := by obtain ⟨_, _, _, _, _, _, _, h1, _⟩ := h; exact h1
theorem SAt.still (h : SAt T w q p k) (hs : Still T w w') : SAt T w' q p k := by
  obtain ⟨A, c, gp, gb, h1, h2, h3, t1, t2, t3⟩ := h
  exact ⟨A, c, gp, gb, h1.keep (hs.same _ t1 h1.lt), h2.keep (fun b e => hs.same b (t3 b e) (h2.lt e)), h3.keep (hs.same _ t2 h3.lt), t1, t2, t3⟩
theorem SAt.mono (h : SAt T w q p k) (hs : ∀ b, T b → S b) : SAt S w q p k := by
  obtain ⟨A, c, gp, gb, h1, h2, h3, t1, t2, t3⟩ := h
  exact ⟨A, c, gp, gb, h1, h2, h3, hs _ t1, hs _ t2, fun b e => hs b (t3 b e)⟩
theorem SAt.drew (h : SAt T w q p k) : SAt T w.drew q p k := h
theorem SAt.drewN (h : SAt T w q p k) (n : Nat) : SAt T (w.drewN n) q p k := h
theorem SAt.only (h : SAt T w q p k) (ho : Only S w w') (hd : ∀ b, T b → ¬ S b) : SAt T w' q p k := h.still (Still.of_only ho fun b _ => hd b)
theorem SAt.alloc (h : SAt T w q p k) (o : Obj) : SAt T (w.alloc o) q p k := h.still ((Still.refl T w).alloc o)
theorem SAt.below (h : SAt T w q p k) (hb : Below w.heap.size w w') : SAt T w' q p k := h.still ⟨hb.size, fun b _ hl => hb.block b hl⟩
theorem SAt.set_ (h : SAt T w q p k) (k' : Nat) : SAt T (w.setCell ⟨q, 2, none⟩ (.int .i64 (k' : Int))) q p k' ∧ Only (fun b => b = q) w (w.setCell ⟨q, 2, none⟩ (.int .i64 (k' : Int))) := by
  obtain ⟨A, c, gp, gb, h1, h2, h3, t1, t2, t3⟩ := h
  refine ⟨⟨A, c, gp, gb, ?_, h2.far (p := ⟨q, 2, none⟩) (h2.ne_ h1 (by decide)) _, h3.far (p := ⟨q, 2, none⟩) (h3.ne_ h1 (by decide)) _, t1, t2, t3⟩, (Only.refl (fun b => b = q) w).setCell (p := ⟨q, 2, none⟩) (.inl rfl) _⟩
  have := h1.set_ 2 (.int .i64 (k' : Int))
  simpa using this
end

/-- What New hands out. -/
def NewTo (w : World) (p : List Int) (e : Ending) (w' : World) : Prop :=
  ∃ q, e = .returned (.pointer (some ⟨q, 0, none⟩)) ∧ SAt (fun b => w.heap.size ≤ b) w' q p 0 ∧ Below w.heap.size w w'

theorem New_i (A : Option Addr) (n c : Nat) (p : List Int) (w : World) (h : Rd w (.slice A n c) (iv p)) (hn : p.length ≤ 17592186044416) :
    Calls Try.prog 19 #[.slice A n c] w (NewTo w p) := by
  have HR := Lib.hid h
  have HC := Lib.hid (Clone_i A n c p w h hn)
  clear h
  go_enter Try.func19, Try.ntmps19
  go_wp2_with fail
  refine HC.out.mono ?_
  rintro e w1 ⟨A1, c1, g1, rfl, hrow, hg1, hb1⟩
  have HB := Lib.hid (Borders_i p A n c w1 (HR.out.kept hb1) hn)
  have X := Lib.hid (And.intro hrow (And.intro hg1 hb1))
  clear hrow hg1 hb1
  go_wp2_with fail
  refine HB.out.mono ?_
  rintro e w2 ⟨gb, rfl, hblk, hge, hb2⟩
  have Y := Lib.hid (And.intro hblk (And.intro hge hb2))
  clear hblk hge hb2
  go_wp2
  go_ret
  obtain ⟨hrow, hg1, hb1⟩ := X.out
  obtain ⟨hblk, hge, hb2⟩ := Y.out
  have hb := hb1.trans (hb2.mono hb1.size)
  exact ⟨_, rfl, ⟨A1, c1, g1, gb, Blk.new _ _ _, (hrow.below hb2 (fun b e => hrow.lt e)).alloc _, hblk.alloc _, hb.size, Nat.le_trans hb1.size hge, hg1⟩, hb.alloc hb.size _⟩

theorem At_nil (w : World) : Calls Try.prog 21 #[.pointer none] w fun e w' => e = .returned (.int .i64 0) ∧ w = w' := by
  go_enter Try.func21, Try.ntmps21
  go_wp2
  go_ret
  exact ⟨rfl, rfl⟩
theorem Feed_nil (x : Int) (w : World) : Calls Try.prog 20 #[.pointer none, .int (.i64) x] w fun e w' => e = .returned (.bool false) ∧ w = w' := by
  go_enter Try.func20, Try.ntmps20
  go_wp2
  go_ret
  exact ⟨rfl, rfl⟩
theorem Reset_nil (w : World) : Calls Try.prog 18 #[.pointer none] w fun e w' => e = .returned (.tuple #[]) ∧ w = w' := by
  go_enter Try.func18, Try.ntmps18
  go_wp2
  go_end0
  exact ⟨rfl, rfl⟩

section
variable {T : Nat → Prop} {w : World} {q k : Nat} {p : List Int}
theorem At_at (h : SAt T w q p k) : Calls Try.prog 21 #[.pointer (some ⟨q, 0, none⟩)] w fun e w' => e = .returned (.int .i64 (k : Int)) ∧ w = w' := by
  obtain ⟨A, c, gp, gb, h1, -⟩ := h
  have c2 : w.cell? ⟨q, 2, none⟩ = some (.int .i64 (k : Int)) := h1.cell 2
  clear h1
  go_enter Try.func21, Try.ntmps21
  go_wp2
  go_ret
  exact ⟨rfl, rfl⟩
theorem Reset_at (h : SAt T w q p k) : Calls Try.prog 18 #[.pointer (some ⟨q, 0, none⟩)] w fun e w' => e = .returned (.tuple #[]) ∧ SAt T w' q p 0 ∧ Only (fun b => b = q) w w' := by
  have H := Lib.hid h
  obtain ⟨A, c, gp, gb, h1, -⟩ := h
  have c2 : w.cell? ⟨q, 2, none⟩ = some (.int .i64 (k : Int)) := h1.cell 2
  have f2 := h1.frozen 2
  clear h1
  go_enter Try.func18, Try.ntmps18
  go_wp2
  go_end0
  exact ⟨rfl, H.out.set_ 0⟩

/-- What Feed leaves. -/
def Fed (T : Nat → Prop) (w : World) (q : Nat) (p : List Int) (n : Nat) (e : Ending) (w' : World) : Prop :=
  e = .returned (.bool (decide (n = p.length))) ∧ SAt T w' q p n ∧ Only (fun b => b = q) w w'

set_option maxRecDepth 100000 in
set_option maxHeartbeats 1000000 in
theorem Feed_at (s : List Int) (x : Int) (h : SAt T w q p (longest s p)) (hn : p.length ≤ 17592186044416) :
    Calls Try.prog 20 #[.pointer (some ⟨q, 0, none⟩), .int (.i64) x] w (Fed T w q p (longest (s ++ [x]) p)) := by
  have H := Lib.hid h
  obtain ⟨A, c, gp, gb, h1, h2, h3, -⟩ := h
  have hb : Rd w (.slice (some ⟨gb, 0, none⟩) p.length p.length) (iv (bords p)) := by have := h3.ints; rwa [bords_len] at this
  have G : Calls Try.prog 29 #[.slice A p.length c, .slice (some ⟨gb, 0, none⟩) p.length p.length, .int .i64 (longest s p : Nat), .int (.i64) x] w.drew fun e w' => e = .returned (.int .i64 (longest (s ++ [x]) p : Nat)) ∧ w' = w.drew :=
    (grown_i s p (bords p) x A (some ⟨gb, 0, none⟩) p.length p.length c p.length w.drew h2.rd hb ((bords_ok p).mono (longest_le s p)) hn (by rw [bords_len]; exact hn)).mono fun _ _ h => ⟨h.1, h.2.symm⟩
  have HG := Lib.hid G
  have c0 : w.cell? ⟨q, 0, none⟩ = some (.slice A p.length c) := h1.cell 0
  have c1 : w.cell? ⟨q, 1, none⟩ = some (.slice (some ⟨gb, 0, none⟩) p.length p.length) := h1.cell 1
  have c2 : w.cell? ⟨q, 2, none⟩ = some (.int .i64 (longest s p : Nat)) := h1.cell 2
  have f2 := h1.frozen 2
  have hle := longest_le (s ++ [x]) p
  clear h1 h2 h3 hb G
  generalize longest (s ++ [x]) p = n at *
  generalize longest s p = m at *
  go_enter Try.func20, Try.ntmps20
  go_wp2
  go_still_tail 17, (by kernel_rfl)
  still_call HG.out
  repeat still_step
  refine wpStill_nil ?_
  change wpList _ _ _ _ _ w.drew
  go_wp2
  have HW := Lib.hid (H.out.set_ n)
  generalize hw2 : w.setCell ⟨q, 2, none⟩ (.int .i64 (n : Int)) = w2 at HW ⊢
  obtain ⟨A2, cc, _, _, h1, -⟩ := HW.out.1
  have d0 : w2.cell? ⟨q, 0, none⟩ = some (.slice A2 p.length cc) := h1.cell 0
  have d2 : w2.cell? ⟨q, 2, none⟩ = some (.int .i64 (n : Int)) := h1.cell 2
  have e1 : ((n : Int) == (p.length : Int)) = decide (n = p.length) := by rw [Bool.eq_iff_iff]; simp; omega
  have HE := Lib.hid e1
  clear h1 hw2 c0 c1 c2 f2 e1
  go_quiet (fail)
  go_wp2
  go_ret
  exact ⟨ret_bool HE.out, (HW.out.1.drew).drewN _, (HW.out.2.drew).drewN _⟩
end
end Go.Proofs.Ytigapfgfbdofoaa
