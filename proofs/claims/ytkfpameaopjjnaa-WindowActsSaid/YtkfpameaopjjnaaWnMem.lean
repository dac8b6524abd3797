/-
  The program's window in memory (WinR: its struct in block b, its memory in block g; WinT: as the laws see it), and its small functions: mayBe, age.
  Conditions: numbers up to 1048576.
-/
import Derived.Test.YtkfpameaopjjnaaWnMath
import Derived.Test.YtkfpameaopjjnaaSep
import Derived.Test.YtkfpameaopjjnaaRet
import Derived.Test.YtkfpameaopjjnaaCopyRow
import Derived.Test.YtkfpameaopjjnaaRowSet
import Derived.StillTailTactics
import Derived.Deep.QuietTactic
import Derived.BigQuiet
namespace Go.Proofs.Ytkfpameaopjjnaa
open Go.RowKit

/-- A window in block b: its number, the greatest one since it was cut, how many came, its memory, from where its bytes l lie there; all of it lies in F. -/
structure WinR (b most top tot : Nat) (A : Option Addr) (c fr : Nat) (m l : List Nat) (g : Option Nat) (F : Nat → Prop) (W : World) : Prop where
  blk : Blk W b 50 #[.int .i64 (most : Nat), .int .i64 (tot : Nat), .slice A m.length c, .int .i64 (fr : Nat), .int .i64 ((fr + l.length : Nat) : Int)]
  row : Row W 5 g (.slice A m.length c) (bv m)
  fit : fr + l.length ≤ m.length
  its : (m.drop fr).take l.length = l
  cap : m.length ≤ 2 * top
  one : 1 ≤ most
  mt : most ≤ top
  tp : top ≤ 1048576
  own : ∀ x, F x ↔ x = b ∨ g = some x
/-- A window as the laws see it. -/
def WinT (b most top : Nat) (l : List Nat) (tot : Nat) : Thing := fun F W => l.length ≤ most ∧ ∃ A c fr m g, WinR b most top tot A c fr m l g F W
/-- A window that has room for one more. -/
def WinS (b most top : Nat) (l : List Nat) (tot : Nat) : Thing := fun F W => l.length ≤ most ∧ ∃ A c fr m g, fr + l.length < m.length ∧ WinR b most top tot A c fr m l g F W

section
variable {b most top tot : Nat} {A : Option Addr} {c fr : Nat} {m l : List Nat} {g : Option Nat} {F S : Nat → Prop} {w w' : World}
theorem WinR.ne_ (h : WinR b most top tot A c fr m l g F w) : g ≠ some b := h.row.ne_ h.blk (by decide)
theorem WinR.lt (h : WinR b most top tot A c fr m l g F w) : ∀ x, F x → x < w.heap.size := fun x hx => by
  rcases (h.own x).1 hx with rfl | e
  · exact h.blk.lt
  · exact h.row.lt e
theorem WinR.only (h : WinR b most top tot A c fr m l g F w) (ho : Only S w w') (hd : ∀ x, F x → ¬ S x) : WinR b most top tot A c fr m l g F w' :=
  ⟨h.blk.only ho (hd b ((h.own b).2 (.inl rfl))), h.row.only ho (fun x e => hd x ((h.own x).2 (.inr e))), h.fit, h.its, h.cap, h.one, h.mt, h.tp, h.own⟩
theorem WinR.len (h : WinR b most top tot A c fr m l g F w) : l.length ≤ m.length := by have := h.fit; omega
end
theorem win_framed (b most top : Nat) (l : List Nat) (tot : Nat) : Framed (WinT b most top l tot) := by
  constructor
  · rintro F S w w' ⟨h0, A, c, fr, m, g, h⟩ ho hd
    exact ⟨h0, A, c, fr, m, g, h.only ho hd⟩
  · rintro F w ⟨_, A, c, fr, m, g, h⟩; exact h.lt
theorem win_le {b most top : Nat} {l : List Nat} {tot : Nat} {F : Nat → Prop} {W : World} (h : WinT b most top l tot F W) : l.length ≤ most := h.1

theorem mayBe_is (z : Int) (w : World) : Calls Try.prog 21 #[.int .i64 z] w fun e w' => e = .returned (.bool (decide (1 ≤ z ∧ z ≤ 1048576))) ∧ w = w' := by
  by_cases h1 : 1 ≤ z
  · by_cases h2 : z ≤ 1048576
    · have hr : Hid (decide (1 ≤ z ∧ z ≤ 1048576) = true) := Lib.hid (by simp; omega)
      have d1 : decide (z ≥ 1) = true := by simp; omega
      have d2 : decide (z ≤ 1048576) = true := by simp; omega
      rw [hr.out]
      go_enter Try.func21, Try.ntmps21
      go_wp2
      go_ret
      exact ⟨rfl, rfl⟩
    · have hr : Hid (decide (1 ≤ z ∧ z ≤ 1048576) = false) := Lib.hid (by simp; omega)
      have d1 : decide (z ≥ 1) = true := by simp; omega
      have d2 : decide (z ≤ 1048576) = false := by simp; omega
      rw [hr.out]
      go_enter Try.func21, Try.ntmps21
      go_wp2
      go_ret
      exact ⟨rfl, rfl⟩
  · have hr : Hid (decide (1 ≤ z ∧ z ≤ 1048576) = false) := Lib.hid (by simp; omega)
    have d1 : decide (z ≥ 1) = false := by simp; omega
    rw [hr.out]
    go_enter Try.func21, Try.ntmps21
    go_wp2
    go_ret
    exact ⟨rfl, rfl⟩

theorem age_list {fr : Nat} {m l : List Nat} (most : Nat) (h : (m.drop fr).take l.length = l) : (m.drop (fr + (l.length - most))).take (lastS most l).length = lastS most l := by
  have e : lastS most l = ((m.drop fr).take l.length).drop (l.length - most) := by rw [h]; rfl
  rw [last_len, e, List.drop_take, List.drop_drop]
  congr 1
  omega

set_option maxRecDepth 100000 in
theorem age_is {b most top tot : Nat} {A : Option Addr} {c fr : Nat} {m l : List Nat} {g : Option Nat} {F : Nat → Prop} {w : World} (h : WinR b most top tot A c fr m l g F w) :
    Calls Try.prog 23 #[.pointer (some ⟨b, 0, none⟩)] w fun e w' => e = .returned (.tuple #[]) ∧ WinR b most top tot A c (fr + (l.length - most)) m (lastS most l) g F w' ∧ Only F w w' := by
  have hml := h.cap
  have htp := h.tp
  have hft := h.fit
  have hmt := h.mt
  have c0 := h.blk.cell 0
  have c3 := h.blk.cell 3
  have c4 := h.blk.cell 4
  have f3 := h.blk.frozen 3
  have H := Lib.hid h
  have w1 : IntKind.i64.wrap (((fr + l.length : Nat) : Int) - (most : Int)) = ((fr + l.length : Nat) : Int) - (most : Int) := IntWalk.i64_in _ (by omega)
  have v1 : max (fr : Int) (((fr + l.length : Nat) : Int) - (most : Int)) = ((fr + (l.length - most) : Nat) : Int) := by omega
  have HE : Hid (fr + (l.length - most) + (lastS most l).length = fr + l.length) := Lib.hid (by rw [last_len]; omega)
  clear h hml htp hft hmt
  generalize hto : fr + l.length = to at *
  generalize hfr : fr + (l.length - most) = fr' at *
  have HT := Lib.hid (And.intro hto hfr)
  clear hto hfr
  go_enter Try.func23, Try.ntmps23
  go_region
  all_goals go_end0
  have h := H.out
  obtain ⟨e1, e2⟩ := HT.out
  have e3 := HE.out
  have hb := h.blk.set_ 3 (.int .i64 (fr' : Int))
  rw [e1, ← e3] at hb
  have hne := h.ne_
  refine ⟨rfl, ⟨hb, h.row.far (p := ⟨b, 3, none⟩) hne _, ?_, ?_, h.cap, h.one, h.mt, h.tp, h.own⟩, ((Only.refl F w).setCell (p := ⟨b, 3, none⟩) (.inl ((h.own b).2 (.inl rfl))) _).drew⟩
  · have := h.fit; omega
  · rw [← e2]; exact age_list most h.its

/-- The window with its bytes at the front of its memory, where there is room for one more. -/
theorem WinR.remade {b most top tot : Nat} {A A' : Option Addr} {c c' fr n : Nat} {m m' l : List Nat} {g g' : Option Nat} {F : Nat → Prop} {w w1 w' : World} (h : WinR b most top tot A c fr m l g F w) (hl : l.length ≤ most) (hb : Below w.heap.size w w1)
    (hn : n = m'.length) (hgr : w1.grownBy w' g') (hr : Row w' 5 g' (.slice A' n c') (bv m')) (hg : g' = g ∨ g' = some w.heap.size) (hm : m'.take l.length = l) (hlt : l.length < m'.length) (hcap : m'.length ≤ 2 * top) :
    Turned (WinS b most top l tot) F w (((w'.setCell ⟨b, 3, none⟩ (.int .i64 0)).setCell ⟨b, 4, none⟩ (.int .i64 (l.length : Nat))).setCell ⟨b, 2, none⟩ (.slice A' n c')) := by
  subst hn
  have hne := h.ne_
  have hbl := h.blk.lt
  have hne' : g' ≠ some b := by
    rcases hg with e | e
    · rw [e]; exact hne
    · intro e2; rw [e] at e2; injection e2 with e2; omega
  have hfb : F b := (h.own b).2 (.inl rfl)
  have hblk : Blk w' b 50 _ := (h.blk.below hb hbl).keep (hgr.block b (Nat.lt_of_lt_of_le hbl hb.size) (fun e => hne' e.symm))
  have hblk' := ((hblk.set_ 3 (.int .i64 0)).set_ 4 (.int .i64 (l.length : Nat))).set_ 2 (.slice A' m'.length c')
  have ho : Only F w w' := (Only.of_below hb (Nat.le_refl _) F).grown hgr fun k e => by
    rcases hg with e2 | e2
    · rw [e2] at e; exact .inl ((h.own k).2 (.inr e))
    · rw [e2] at e; injection e with e; exact .inr (by omega)
  refine ⟨fun x => x = b ∨ g' = some x, ⟨hl, A', c', 0, m', g', by omega, ⟨?_, ?_, by omega, by rw [List.drop_zero]; exact hm, hcap, h.one, h.mt, h.tp, fun _ => Iff.rfl⟩⟩, ?_, ?_⟩
  · rw [Nat.zero_add]; exact hblk'
  · exact ((hr.far (p := ⟨b, 3, none⟩) hne' _).far (p := ⟨b, 4, none⟩) hne' _).far (p := ⟨b, 2, none⟩) hne' _
  · exact ((ho.setCell (p := ⟨b, 3, none⟩) (.inl hfb) _).setCell (p := ⟨b, 4, none⟩) (.inl hfb) _).setCell (p := ⟨b, 2, none⟩) (.inl hfb) _
  · rintro x (rfl | e)
    · exact .inl hfb
    · rcases hg with e2 | e2
      · rw [e2] at e; exact .inl ((h.own x).2 (.inr e))
      · rw [e2] at e; injection e with e; exact .inr (by omega)
end Go.Proofs.Ytkfpameaopjjnaa
