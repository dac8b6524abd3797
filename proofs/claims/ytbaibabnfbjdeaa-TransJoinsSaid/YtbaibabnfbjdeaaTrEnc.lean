/-
  The contracts of trans.markOf and trans.Encode.
  Conditions: none (events that are right, and others).
-/
import Derived.Test.YtbaibabnfbjdeaaTrREnc
import Derived.Test.YtbaibabnfbjdeaaPut
import Derived.Test.YtbaibabnfbjdeaaEvSee
namespace Go.Proofs.Ytbaibabnfbjdeaa
open Go.RowKit

theorem markOf_any (d : Int) (w : World) : Calls Try.prog 18 #[.int .i64 d] w fun e w' => e = .returned (.int .u8 (mark d : Nat)) ∧ w = w' := by
  by_cases h : d = 1
  · subst h
    go_enter Try.func18, Try.ntmps18
    go_wp2
    go_ret
    exact ⟨rfl, rfl⟩
  · have hb : (d == 1) = false := by simpa using h
    have HM : Hid (mark d = 1) := by show _ = _; unfold mark; rw [if_neg h]
    clear h
    go_enter Try.func18, Try.ntmps18
    go_wp2
    go_ret
    rw [HM.out]
    exact ⟨rfl, rfl⟩

theorem Encode_bad (v : Value) (l : List Ev) (en : Bool) (w : World) (h : Evs w v l) (hc : chkAll (pes l) ≠ 0) :
    Calls Try.prog 10 #[.agg #[v, .bool en]] w fun e w' => e = .returned (.tuple #[.slice none 0 0, .int .i64 (chkAll (pes l))]) ∧ Below w.heap.size w w' := by
  have HE := Lib.hid h
  have hne : (chkAll (pes l) != 0) = true := by simpa using hc
  clear h hc
  go_enter Try.func10, Try.ntmps10
  go_wp2_with fail
  refine (Check_any _ l _ (HE.out.alloc _)).mono ?_
  rintro e w1 ⟨rfl, hb⟩
  have HB : Hid (Below w.heap.size w w1) := ((Below.refl _ w).alloc (Nat.le_refl _) _).trans (hb.mono (by simp))
  clear hb
  go_wp2_with fail
  go_ret2
  exact ⟨rfl, HB.out⟩

/-- New bytes, and no error. -/
def EncTo (w : World) (l : List Nat) (e : Ending) (w' : World) : Prop :=
  ∃ A c, e = .returned (.tuple #[.slice A l.length c, .int .i64 0]) ∧ Rd w' (.slice A l.length c) (bv l) ∧ Below w.heap.size w w'

theorem head_const (w1 : World) : BA w1 (w1.alloc (.cells #[.int .u8 67, .int .u8 85, .int .u8 69, .int .u8 49] 5 (4, 5))) (some ⟨w1.heap.size, 0, none⟩) 4 none hd :=
  .inr ⟨rfl, rfl, Rd.ofBlk (al_at rfl) hd rfl, (Below.refl _ _).alloc (Nat.le_refl _) _⟩

set_option maxRecDepth 100000 in
set_option maxHeartbeats 4000000 in
theorem Encode_good (v : Value) (l : List Ev) (en : Bool) (w : World) (h : Evs w v l) (hr : Right 0 0 (pes l)) :
    Calls Try.prog 10 #[.agg #[v, .bool en]] w (EncTo w (trEnc (pes l) en)) := by
  obtain ⟨A, c, rfl, hle⟩ := h.form
  have hll := (right_len (by omega) (by omega) hr).1
  rw [pes_len] at hll
  have HE := Lib.hid h
  have HR := Lib.hid hr
  have HC := Lib.hid (right_chkAll hr).1
  clear h hle hr
  go_enter Try.func10, Try.ntmps10
  go_wp2_with fail
  refine (Check_any _ l _ (HE.out.alloc _)).mono ?_
  rw [HC.out]
  rintro e W0 ⟨rfl, hb⟩
  have bx := (Blk.new w 24 #[.slice A l.length c, .bool en]).below hb (by simp)
  have x0 : W0.cell? ⟨w.heap.size, 0, none⟩ = some (.slice A l.length c) := bx.cell 0
  have x1 : W0.cell? ⟨w.heap.size, 1, none⟩ = some (.bool en) := bx.cell 1
  have hlt0 : w.heap.size < W0.heap.size := bx.lt
  have HB : Hid (Below w.heap.size w W0) := ((Below.refl _ w).alloc (Nat.le_refl _) _).trans (hb.mono (by simp))
  have HX := Lib.hid bx
  have HE0 := Lib.hid (HE.out.below HB.out)
  have kc := run_const
  clear hb bx HE
  go_wp2_with fail
  clear kc
  go_loopw [5, 6, 20] (fun s q i wr => ∃ (k : Nat) (B : Option Addr) (cB : Nat) (g : Option Nat) (X : List Nat) (la : Int), k ≤ l.length ∧ i = .int .i64 k ∧ q = .int .i64 la ∧ s = .slice B X.length cB ∧ Hid (EncK l k X la ∧ BA W0 wr B cB g X)) (fun _ _ i _ => l.length - (intOf i).toNat)
  case atStart => exact ⟨0, _, 4, _, hd, 0, by omega, rfl, rfl, rfl, encK HR.out 0, head_const W0⟩
  case round =>
    obtain ⟨k, B, cB, g, X, la, hk, rfl, rfl, rfl, HK⟩ := hrel
    have x1' : wr.cell? ⟨w.heap.size, 1, none⟩ = some (.bool en) := (HX.out.below HK.out.2.bel HX.out.lt).cell 1
    have hXl := HK.out.1.len
    clear x0 x1
    by_cases hlt : k < l.length
    · obtain ⟨b, o, d, t, Aa, ca, bs, rfl, ha, c0, c1, c2, hbm, hok⟩ := HE0.out.seeAt HK.out.2.bel hlt
      obtain ⟨hd01, hbs6, ht64⟩ := right_ev HR.out ha
      have hrd := (HE0.out.ok (List.mem_of_getElem? ha)).rd
      have HN := Lib.hid (HK.out.1.next HR.out ha)
      have HD := Lib.hid (And.intro hd01 (And.intro hrd ht64))
      clear ha hok hd01 hrd ht64
      go_upto_region 9 with (fail)
      generalize hV : World.alloc wr _ = V
      have hrV : BA W0 V B cB g X := by rw [← hV]; exact HK.out.2.below ((Below.refl _ wr).alloc (Nat.le_refl _) _)
      have heV : EvB W0 V wr.heap.size d t Aa ca bs := by rw [← hV]; exact EvB.box HD.out.2.1
      have HV := Lib.hid (And.intro hrV heV)
      have y0 := heV.dir
      have HK1 := Lib.hid HK.out.1
      generalize wr.heap.size = eb at *
      clear hV hrV heV c0 c1 c2 x1' HK
      have p1 := Var.enc_len10 (zn_lt la t)
      have p2 := Var.enc_len10 (x := bs.length) (by omega)
      go_wp2_with fail
      refine (markOf_any _ _).mono ?_
      rintro e w' ⟨rfl, rfl⟩
      go_wp2_with (at_builtin; refine wpList_more (W := V) HV.out.1 HV.out.2 ((Below.refl _ V).alloc (Nat.le_refl _) _) rfl (.tmp 24) (.tmp 28) rfl rfl _ _ rfl [mark d] (sole rfl) (Rd.byte V _) (by omega) (by simp) (.inr (by simp)) ?_; intro A1 c1 W1 g1 X1 HX1 H1 hl1; have y1 := H1.out.2.time; rw [List.length_singleton] at hl1; clear y0 HV)
      refine (Delta_any _ _ _ HK1.out.in_ HD.out.2.2).mono ?_
      rintro e w' ⟨rfl, rfl⟩
      go_wp2_with fail
      refine (Zig_any _ _ (delta_in _ _).1 (delta_in _ _).2).mono ?_
      rintro e w' ⟨rfl, rfl⟩
      rw [← zn_cast]
      go_wp2_with fail
      refine (Put_any _ _ (zn_lt la t)).mono ?_
      rintro e W2 ⟨AP, cP, gP, rfl, hrP, -, hP⟩
      have HP := Lib.hid (And.intro hrP.rd hP)
      clear hrP hP y1
      go_wp2_with (at_builtin; refine wpList_more (W := W1) (.inl H1.out.1) H1.out.2 HP.out.2 rfl (.tmp 30) (.tmp 36) rfl rfl _ _ rfl _ rfl HP.out.1 (by omega) (by omega) (.inl H1.out.1) ?_; intro A3 c3 W3 g3 X3 HX3 H3 hl3; have y2 := H3.out.2.data; clear H1 HP)
      refine (Put_any _ _ (show bs.length < 18446744073709551616 by omega)).mono ?_
      rintro e W4 ⟨AQ, cQ, gQ, rfl, hrP, -, hP⟩
      have HP := Lib.hid (And.intro hrP.rd hP)
      clear hrP hP y2
      go_wp2_with (first
        | (at_builtin; refine wpList_more (W := W3) (.inl H3.out.1) H3.out.2 HP.out.2 rfl (.tmp 38) (.tmp 43) rfl rfl _ _ rfl _ rfl HP.out.1 (by omega) (by omega) (.inl H3.out.1) ?_; intro A5 c5 W5 g5 X5 HX5 H5 hl5; have y2 := H5.out.2.data; clear H3 HP)
        | (at_builtin; refine wpList_more (W := W5) (.inl H5.out.1) H5.out.2 (Below.refl _ _) rfl (.tmp 45) (.tmp 47) rfl rfl _ _ rfl bs rfl (H5.out.2.2.kept H5.out.1.2.2) (by omega) (by omega) (.inl H5.out.1) ?_; intro A6 c6 W6 g6 X6 HX6 H6 hl6; have y1 := H6.out.2.time; clear y2 H5))
      go_roundw
      case rel => exact ⟨k + 1, A6, c6, g6, X6, t, by omega, by go_num, rfl, rfl, by rw [HX6.out, HX5.out, HX3.out, HX1.out]; exact HN.out, .inl H6.out.1⟩
      case measure => simp [intOf]; omega
    · obtain rfl : k = l.length := by omega
      have HF := Lib.hid (HK.out.1.done en)
      clear HE0 HR
      cases en with
      | false =>
        go_wp2_with fail
        go_ret2
        rw [HF.out]
        have h1 := HK.out.2.rd
        exact ⟨B, cB, by simp [fin], by simpa [fin] using h1, below2 HB.out HK.out.2.bel⟩
      | true =>
        go_wp2_with (at_builtin; refine wpList_last (W := wr) HK.out.2 ((Below.refl _ wr).alloc (Nat.le_refl _) _) rfl (.tmp 54) (.tmp 55) rfl rfl _ _ rfl [3] rfl (Rd.byte wr _) (by omega) (by simp) (.inr (by simp)) ?_; intro A1 c1 W1 g1 X1 HX1 H1)
        go_ret2
        rw [HF.out]
        have h1 := H1.out
        rw [HX1.out] at h1 ⊢
        exact ⟨A1, c1, rfl, h1.1.rd, below2 HB.out h1.2.2⟩
end Go.Proofs.Ytbaibabnfbjdeaa
