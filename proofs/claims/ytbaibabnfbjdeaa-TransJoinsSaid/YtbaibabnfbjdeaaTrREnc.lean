/-
  The contract of the document's Encode.
  Conditions: the events are right.
-/
import Derived.Test.YtbaibabnfbjdeaaTrRow
import Derived.Test.YtbaibabnfbjdeaaRPut
import Derived.WalkKit
import Derived.IntWalk
import Derived.Deep.Cut
namespace Go.Proofs.Ytbaibabnfbjdeaa
open Go.RowKit

theorem sole {n : Int} {m : Nat} (h : n = (m : Int)) : [Value.int .u8 n] = bv [m] := by rw [h]; rfl
theorem mark_plus {d : Int} (h : d = 0 ∨ d = 1) : 1 + d = ((mark d : Nat) : Int) := by unfold mark; rcases h with rfl | rfl <;> simp

theorem head_row (w1 : World) {b : Nat} (hb : b = w1.heap.size) : RowAt w1 (w1.alloc (.cells #[.int .u8 67, .int .u8 85, .int .u8 69, .int .u8 49] 5)) (some ⟨b, 0, none⟩) 4 (some b) hd := by
  subst hb
  refine ⟨Row.new w1 5 #[.int .u8 67, .int .u8 85, .int .u8 69, .int .u8 49] 4 rfl (by simp only [maxLen]; omega) (by omega) (by intro u hu; simp at hu; rcases hu with rfl | rfl | rfl | rfl <;> rfl), ?_, (Below.refl _ _).alloc (Nat.le_refl _) _⟩
  intro b e; cases e; exact Nat.le_refl _
theorem EncK.done {l : List Ev} {X : List Nat} {la : Int} (h : EncK l l.length X la) (en : Bool) : trEnc (pes l) en = X ++ fin en := by rw [h.bytes, pes_all]; simp [trEnc]

set_option maxRecDepth 100000 in
set_option maxHeartbeats 4000000 in
theorem REncode_any (v : Value) (l : List Ev) (en : Bool) (w : World) (h : Evs w v l) (hr : Right 0 0 (pes l)) :
    Calls Try.prog 13 #[.agg #[v, .bool en]] w (Made w (trEnc (pes l) en)) := by
  obtain ⟨A, c, rfl, hle⟩ := h.form
  have hll := (right_len (by omega) (by omega) hr).1
  rw [pes_len] at hll
  have HE := Lib.hid h
  have HR := Lib.hid hr
  clear h hle hr
  go_enter Try.func13, Try.ntmps13
  go_wp2_with fail
  go_loopw [3, 4, 5] (fun s q i wr => ∃ (k : Nat) (B : Option Addr) (cB : Nat) (g : Option Nat) (X : List Nat) (la : Int), k ≤ l.length ∧ i = .int .i64 k ∧ q = .int .i64 la ∧ s = .slice B X.length cB ∧ Hid (EncK l k X la ∧ RowAt (w.alloc (.cells #[.slice A l.length c, .bool en] 24)) wr B cB g X)) (fun _ _ i _ => l.length - (intOf i).toNat)
  case atStart => exact ⟨0, _, 4, _, hd, 0, by omega, rfl, rfl, rfl, encK HR.out 0, head_row _ (by simp)⟩
  case round =>
    obtain ⟨k, B, cB, g, X, la, hk, rfl, rfl, rfl, HK⟩ := hrel
    have hbw : Below w.heap.size w wr := ((Below.refl _ w).alloc (Nat.le_refl _) _).trans (HK.out.2.2.2.mono (by simp))
    have bx := (Blk.new w 24 #[.slice A l.length c, .bool en]).below HK.out.2.2.2 (by simp)
    have x0 : wr.cell? ⟨w.heap.size, 0, none⟩ = some (.slice A l.length c) := bx.cell 0
    have x1 : wr.cell? ⟨w.heap.size, 1, none⟩ = some (.bool en) := bx.cell 1
    have hXl := HK.out.1.len
    have HBW := Lib.hid hbw
    clear bx
    by_cases hlt : k < l.length
    · obtain ⟨b, o, d, t, Aa, ca, bs, rfl, ha, c0, c1, c2, hbm, hok⟩ := HE.out.seeAt hbw hlt
      obtain ⟨hd01, hbs6, ht64⟩ := right_ev HR.out ha
      have hrd : Rd (w.alloc (.cells #[.slice (some ⟨b, o, none⟩) l.length c, .bool en] 24)) (.slice Aa bs.length ca) (bv bs) := by
        have h1 := (HE.out.ok (List.mem_of_getElem? ha)).rd
        exact h1.alloc _
      have hd0 : 0 ≤ d := by omega
      have hd1 : d ≤ 1 := by omega
      have HN := Lib.hid (HK.out.1.next HR.out ha)
      have HD := Lib.hid (And.intro hd01 (And.intro hrd ht64))
      clear ha hok hbw hd01 hrd ht64
      go_upto_region 7 with (fail)
      generalize hV : World.alloc wr _ = V
      have hrV : RowAt (w.alloc (.cells #[.slice (some ⟨b, o, none⟩) l.length c, .bool en] 24)) V B cB g X := by rw [← hV]; exact HK.out.2.below ((Below.refl _ wr).alloc (Nat.le_refl _) _)
      have heV : EvB (w.alloc (.cells #[.slice (some ⟨b, o, none⟩) l.length c, .bool en] 24)) V wr.heap.size d t Aa ca bs := by rw [← hV]; exact EvB.box HD.out.2.1
      have HV := Lib.hid (And.intro hrV heV)
      have y0 := heV.dir
      have HK1 := Lib.hid HK.out.1
      generalize wr.heap.size = eb at *
      clear hV hrV heV c0 c1 c2 x0 x1 HK HBW
      have p1 := Var.enc_len10 (zn_lt la t)
      have p2 := Var.enc_len10 (x := bs.length) (by omega)
      go_wp2_with (at_builtin; refine wpList_more (W := V) (.inl HV.out.1) HV.out.2 ((Below.refl _ V).alloc (Nat.le_refl _) _) rfl (.tmp 20) (.tmp 25) rfl rfl _ _ rfl [mark d] (sole (mark_plus HD.out.1)) (Rd.byte V _) (by omega) (by simp) (.inr (by simp)) ?_; intro A1 c1 W1 g1 X1 HX1 H1 hl1; have y1 := H1.out.2.time; rw [List.length_singleton] at hl1; clear y0 HV)
      refine (RDelta_any _ _ _ HK1.out.in_ HD.out.2.2).mono ?_
      rintro e w' ⟨rfl, rfl⟩
      go_wp2_with fail
      refine (RZig_any _ _ (delta_in _ _).1 (delta_in _ _).2).mono ?_
      rintro e w' ⟨rfl, rfl⟩
      rw [← zn_cast]
      go_wp2_with fail
      refine (RPut_any _ _ (zn_lt la t)).mono ?_
      rintro e W2 ⟨AP, cP, gP, rfl, hrP, -, hP⟩
      have HP := Lib.hid (And.intro hrP.rd hP)
      clear hrP hP y1
      go_wp2_with (at_builtin; refine wpList_more (W := W1) (.inl H1.out.1) H1.out.2 HP.out.2 rfl (.tmp 27) (.tmp 33) rfl rfl _ _ rfl _ rfl HP.out.1 (by omega) (by omega) (.inl H1.out.1) ?_; intro A3 c3 W3 g3 X3 HX3 H3 hl3; have y2 := H3.out.2.data; clear H1 HP)
      refine (RPut_any _ _ (show bs.length < 18446744073709551616 by omega)).mono ?_
      rintro e W4 ⟨AQ, cQ, gQ, rfl, hrP, -, hP⟩
      have HP := Lib.hid (And.intro hrP.rd hP)
      clear hrP hP y2
      go_wp2_with (first
        | (at_builtin; refine wpList_more (W := W3) (.inl H3.out.1) H3.out.2 HP.out.2 rfl (.tmp 35) (.tmp 40) rfl rfl _ _ rfl _ rfl HP.out.1 (by omega) (by omega) (.inl H3.out.1) ?_; intro A5 c5 W5 g5 X5 HX5 H5 hl5; have y2 := H5.out.2.data; clear H3 HP)
        | (at_builtin; refine wpList_more (W := W5) (.inl H5.out.1) H5.out.2 (Below.refl _ _) rfl (.tmp 42) (.tmp 44) rfl rfl _ _ rfl bs rfl (H5.out.2.2.kept H5.out.1.2.2) (by omega) (by omega) (.inl H5.out.1) ?_; intro A6 c6 W6 g6 X6 HX6 H6 hl6; have y1 := H6.out.2.time; clear y2 H5))
      go_roundw
      case rel => exact ⟨k + 1, A6, c6, g6, X6, t, by omega, by go_num, rfl, rfl, by rw [HX6.out, HX5.out, HX3.out, HX1.out]; exact HN.out, H6.out.1⟩
      case measure => simp [intOf]; omega
    · obtain rfl : k = l.length := by omega
      have HF := Lib.hid (HK.out.1.done en)
      clear hbw HE HR
      cases en with
      | false =>
        go_wp2_with fail
        go_ret
        rw [HF.out]
        have h1 := HK.out.2.1
        exact ⟨B, cB, g, by simp [fin], by simpa [fin] using h1, fun b e => by have := HK.out.2.2.1 b e; simp at this; omega, HBW.out⟩
      | true =>
        go_wp2_with (at_builtin; refine wpList_last (W := wr) (.inl HK.out.2) ((Below.refl _ wr).alloc (Nat.le_refl _) _) rfl (.tmp 50) (.tmp 51) rfl rfl _ _ rfl [3] rfl (Rd.byte wr _) (by omega) (by simp) (.inl HK.out.2) ?_; intro A1 c1 W1 g1 X1 HX1 H1)
        go_ret
        rw [HF.out]
        have h1 := H1.out
        rw [HX1.out] at h1 ⊢
        exact ⟨A1, c1, g1, rfl, h1.1, fun b e => by have := h1.2.1 b e; simp at this; omega, ((Below.refl _ w).alloc (Nat.le_refl _) _).trans (h1.2.2.mono (by simp))⟩
end Go.Proofs.Ytbaibabnfbjdeaa
