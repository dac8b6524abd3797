/-
  The document's reader in memory, and the contract of its head.
  Conditions: the slice reads as these bytes.
-/
import Derived.Test.YtbaibabnfbjdeaaTrDec
import Derived.Test.YtbaibabnfbjdeaaRGet
namespace Go.Proofs.Ytbaibabnfbjdeaa
open Go.RowKit

/-- The reader's own block. -/
def Rdr (W : World) (Q : Nat) (v : Value) (a : Nat) (la : Int) (all : Nat) (u : Value) (f : Bool) : Prop :=
  Blk W Q 60 #[v, .int .i64 a, .int .i64 la, .int .u64 all, u, .bool f]

theorem hd_at {k : Nat} (h : k < 4) : ∃ x : Nat, (bv hd)[k]? = some (.int .u8 (x : Int)) ∧ hd.drop k = x :: hd.drop (k + 1) := by
  have : k = 0 ∨ k = 1 ∨ k = 2 ∨ k = 3 := by omega
  rcases this with rfl | rfl | rfl | rfl
  · exact ⟨67, rfl, rfl⟩
  · exact ⟨85, rfl, rfl⟩
  · exact ⟨69, rfl, rfl⟩
  · exact ⟨49, rfl, rfl⟩

/-- What head leaves. -/
def RHeadTo (w W : World) (Q : Nat) (v : Value) (la : Int) (all : Nat) (u : Value) (f : Bool) (r : Option (Nat × Nat)) (e : Ending) (w' : World) : Prop :=
  match r with
  | some (p, er) => e = .returned (.tuple #[.int .i64 (p : Nat), .int .i64 (er : Nat)]) ∧ Below w.heap.size w w'
  | none => e = .returned (.tuple #[.int .i64 0, .int .i64 0]) ∧ Below w.heap.size w w' ∧ Rdr w' Q v 4 la all u f ∧ W.heap.size ≤ w'.heap.size

set_option maxRecDepth 100000 in
theorem RHead_any (w W : World) (Q : Nat) (A : Option Addr) (n c : Nat) (bs : List Nat) (a : Nat) (la : Int) (all : Nat) (u : Value) (f : Bool) (hq : Rdr W Q (.slice A n c) a la all u f) (hle : w.heap.size ≤ Q) (hbel : Below w.heap.size w W)
    (hr : Rd w (.slice A n c) (bv bs)) (hb : ∀ b ∈ bs, b < 256) (hn : n ≤ 9223372036854775807) :
    Calls Try.prog 29 #[.pointer (some ⟨Q, 0, none⟩)] W (RHeadTo w W Q (.slice A n c) la all u f (headW bs 0 hd)) := by
  have HR := Lib.hid hr
  have HN := Lib.hid hr.bytes
  have HB := Lib.hid hb
  have HQ := Lib.hid (And.intro hq (And.intro hle hbel))
  clear hr hb hq hle hbel
  go_enter Try.func29, Try.ntmps29
  go_wp2_with fail
  go_loopw [5] (fun i wr => ∃ (k : Nat), k ≤ 4 ∧ k ≤ n ∧ i = .int .i64 k ∧ Hid (headW bs k (hd.drop k) = headW bs 0 hd ∧ Below (W.alloc (.cells #[.int .u8 67, .int .u8 85, .int .u8 69, .int .u8 49] 5)).heap.size (W.alloc (.cells #[.int .u8 67, .int .u8 85, .int .u8 69, .int .u8 49] 5)) wr)) (fun i _ => 4 - (intOf i).toNat)
  case atStart => exact ⟨0, by omega, by omega, rfl, rfl, Below.refl _ _⟩
  case round =>
    obtain ⟨k, hk, hkn', rfl, HW⟩ := hrel
    have hbW : Below W.heap.size W wr := below2 ((Below.refl _ W).alloc (Nat.le_refl _) _) HW.out.2
    have hbw := HQ.out.2.2.trans (hbW.mono HQ.out.2.2.size)
    have bq : Rdr wr Q (.slice A n c) a la all u f := HQ.out.1.below hbW HQ.out.1.lt
    have bm := (Blk.new W 5 #[.int .u8 67, .int .u8 85, .int .u8 69, .int .u8 49]).below HW.out.2 (by simp)
    have q0 : wr.cell? ⟨Q, 0, none⟩ = some (.slice A n c) := bq.cell 0
    have q1 : wr.cell? ⟨Q, 1, none⟩ = some (.int .i64 a) := bq.cell 1
    have qf := bq.frozen 1
    have HBW := Lib.hid (And.intro hbw (And.intro bq hbW))
    clear hbw bq hbW
    by_cases hlt : k < 4
    · obtain ⟨x, hx, hdrop⟩ := hd_at hlt
      have hm : wr.cell? ⟨W.heap.size, 0 + k, none⟩ = some (.int .u8 (x : Int)) := by
        rw [Nat.zero_add, bm.cell k, ← hx, ← Array.getElem?_toList]
        rfl
      rw [Nat.zero_add] at hm
      have HDP := Lib.hid hdrop
      have HRk := Lib.hid (HR.out.kept HBW.out.1)
      clear bm hx hdrop
      have i3 : (k : Int) < 4 := by omega
      by_cases hkn : k < n
      · obtain ⟨b, o, d, rfl, hc, hd⟩ := HRk.out.byteAt hkn
        have HD := Lib.hid hd
        have i1 : (k : Int) < n := by omega
        have i2 : decide ((k : Int) ≥ (n : Int)) = false := by simp; omega
        clear hd
        by_cases he : d = x
        · subst he
          go_wp2_with fail
          go_quiet (fail)
          go_wp2_with fail
          go_roundw
          case rel => exact ⟨k + 1, by omega, by omega, by go_num, by rw [← HW.out.1, HDP.out]; conv => rhs; rw [headW, HD.out]; simp, belowN HW.out.2 _⟩
          case measure => simp [intOf]; omega
        · have hq : ((d : Int) != (x : Int)) = true := by rw [bne_iff_ne]; omega
          have HS : Hid (headW bs 0 hd = some (k, 4)) := by
            show _ = _
            rw [← HW.out.1, HDP.out, headW, HD.out]; simp [he]
          clear he
          go_wp2_with fail
          go_quiet (fail)
          go_wp2_with fail
          go_ret2
          rw [HS.out]
          exact ⟨rfl, belowN HBW.out.1 _⟩
      · obtain rfl : k = n := by omega
        have i2 : decide ((k : Int) ≥ (k : Int)) = true := by simp
        have HS : Hid (headW bs 0 hd = some (k, 5)) := by
          show _ = _
          rw [← HW.out.1, HDP.out, headW, List.getElem?_eq_none (by have := HN.out; omega)]
        go_wp2_with fail
        go_ret2
        rw [HS.out]
        exact ⟨rfl, HBW.out.1⟩
    · obtain rfl : k = 4 := by omega
      have HS : Hid (headW bs 0 hd = none) := by
        show _ = _
        rw [← HW.out.1]; exact headW_four bs
      clear bm
      go_wp2_with fail
      go_ret2
      rw [HS.out]
      exact ⟨rfl, HBW.out.1.setCell (p := ⟨Q, 1, none⟩) HQ.out.2.1 _, HBW.out.2.1.set_ 1 _, by have := HBW.out.2.2.size; simpa [World.setCell] using this⟩
end Go.Proofs.Ytbaibabnfbjdeaa
