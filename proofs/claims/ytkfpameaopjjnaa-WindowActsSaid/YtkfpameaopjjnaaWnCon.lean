/-
  The program's window: what New, Put, Cut, Most, Bytes, Total and Held answer, and what they leave of it.
  Conditions: numbers from 1 to 1048576, at most 4194304 bytes at a time.
-/
import Derived.Test.YtkfpameaopjjnaaWnRoom
import Derived.Test.YtkfpameaopjjnaaWnRef
namespace Go.Proofs.Ytkfpameaopjjnaa
open Go.RowKit

section
variable {b most top tot : Nat} {A : Option Addr} {c fr bk oo : Nat} {m l : List Nat} {g : Option Nat} {F : Nat → Prop} {W W' : World}
theorem WinR.gk (h : WinR b most top tot (some ⟨bk, oo, none⟩) c fr m l g F W) (hp : 0 < m.length) : g = some bk := by
  obtain ⟨A', c', e, hle, _, _, hg⟩ := h.row
  injection e with e1 e2 e3
  rcases hg with ⟨e4, _⟩ | ⟨b', o', cs, _, e5, e6, _⟩
  · rw [bv_len] at hle; omega
  · rw [e6] at e1; injection e1 with e1; injection e1 with e1; rw [e5, e1]
theorem WinR.same (h : WinR b most top tot A c fr m l g F W) (hb : Below W.heap.size W W') : WinR b most top tot A c fr m l g F W' := h.only (Only.of_below hb (Nat.le_refl _) (fun _ => False)) fun _ _ e => e
theorem WinR.drew (h : WinR b most top tot A c fr m l g F W) : WinR b most top tot A c fr m l g F W.drew := h.same ⟨rfl, rfl, rfl, Nat.le_refl _, fun _ _ => rfl⟩
theorem set_part (m : List Nat) (l : List Nat) (fr x : Nat) (hf : fr + l.length < m.length) (h : (m.drop fr).take l.length = l) : ((m.set (fr + l.length) x).drop fr).take (l ++ [x]).length = l ++ [x] := by
  rw [List.drop_set, if_neg (by omega), show fr + l.length - fr = l.length by omega, List.length_append, List.length_singleton, List.take_add_one]
  rw [List.take_set_of_le (by omega), h, List.getElem?_set_self (by rw [List.length_drop]; omega)]
  rfl
/-- One byte more, not yet any too old. -/
theorem WinR.pushed (h : WinR b most top tot (some ⟨bk, oo, none⟩) c fr m l g F W) (hlt : fr + l.length < m.length) (x : Nat) :
    WinR b most top tot (some ⟨bk, oo, none⟩) c fr (m.set (fr + l.length) x) (l ++ [x]) g F ((W.setCell ⟨bk, oo + (fr + l.length), none⟩ (.int .u8 (x : Nat))).setCell ⟨b, 4, none⟩ (.int .i64 (((fr + l.length : Nat) : Int) + 1))) ∧
    Only F W ((W.setCell ⟨bk, oo + (fr + l.length), none⟩ (.int .u8 (x : Nat))).setCell ⟨b, 4, none⟩ (.int .i64 (((fr + l.length : Nat) : Int) + 1))) := by
  have hne := h.ne_
  have hgk := h.gk (by omega)
  have hbk : b ≠ bk := fun e => hne (by rw [hgk, e])
  have hfb : F b := (h.own b).2 (.inl rfl)
  have hfk : F bk := (h.own bk).2 (.inr hgk)
  have hb := (h.blk.far (p := ⟨bk, oo + (fr + l.length), none⟩) hbk (.int .u8 (x : Nat))).set_ 4 (.int .i64 (((fr + l.length : Nat) : Int) + 1))
  have hr := (h.row.set_ (k := fr + l.length) (u := .int .u8 (x : Nat)) (by rw [bv_len]; exact hlt) rfl).1.far (p := ⟨b, 4, none⟩) hne (.int .i64 (((fr + l.length : Nat) : Int) + 1))
  have e1 : (m.set (fr + l.length) x).length = m.length := List.length_set
  refine ⟨⟨?_, ?_, by rw [e1, List.length_append, List.length_singleton]; omega, set_part m l fr x hlt h.its, by rw [e1]; exact h.cap, h.one, h.mt, h.tp, h.own⟩, ((Only.refl F W).setCell (p := ⟨bk, oo + (fr + l.length), none⟩) (.inl hfk) _).setCell (p := ⟨b, 4, none⟩) (.inl hfb) _⟩
  · rw [e1, List.length_append, List.length_singleton, show ((fr + (l.length + 1) : Nat) : Int) = ((fr + l.length : Nat) : Int) + 1 by omega]
    exact hb
  · rw [e1, show bv (m.set (fr + l.length) x) = (bv m).set (fr + l.length) (.int .u8 (x : Nat)) by simp [bv, List.map_set]]
    exact hr
end

theorem mayBe_yes (n : Nat) (h1 : 1 ≤ n) (h2 : n ≤ 1048576) (w : World) : Calls Try.prog 21 #[.int .i64 (n : Nat)] w fun e w' => e = .returned (.bool true) ∧ w = w' := by
  have := mayBe_is (n : Int) w
  rwa [show decide (1 ≤ (n : Int) ∧ (n : Int) ≤ 1048576) = true by simp; omega] at this
theorem mayBe_no (z : Int) (h : z < 1 ∨ 1048576 < z) (w : World) : Calls Try.prog 21 #[.int .i64 z] w fun e w' => e = .returned (.bool false) ∧ w = w' := by
  have := mayBe_is z w
  rwa [show decide (1 ≤ z ∧ z ≤ 1048576) = false by simp; omega] at this
theorem New_ok (n : Nat) (h1 : 1 ≤ n) (h2 : n ≤ 1048576) (w : World) : Calls Try.prog 11 #[.int .i64 (n : Nat)] w fun e w' =>
    ∃ b F, e = .returned (.tuple #[.pointer (some ⟨b, 0, none⟩), .int .i64 0]) ∧ WinT b n n [] 0 F w' ∧ (∀ x, F x → w.heap.size ≤ x) ∧ Below w.heap.size w w' := by
  have H := Lib.hid (mayBe_yes n h1 h2)
  go_enter Try.func11, Try.ntmps11
  go_wp2_with fail
  refine (H.out w).mono ?_
  rintro e w1 ⟨rfl, rfl⟩
  go_wp2_with fail
  go_ret2
  refine ⟨_, fun x => x = w.heap.size, rfl, ⟨Nat.zero_le _, none, 0, 0, [], none, Blk.new w _ _, (Row.nil w _).alloc _, Nat.le_refl _, rfl, Nat.zero_le _, h1, Nat.le_refl _, h2, fun x => by simp⟩, fun x e => by omega, (Below.refl _ _).alloc (Nat.le_refl _) _⟩
theorem New_bad (z : Int) (h : z < 1 ∨ 1048576 < z) (w : World) : Calls Try.prog 11 #[.int .i64 z] w fun e w' => e = .returned (.tuple #[.pointer none, .int .i64 3]) ∧ Below w.heap.size w w' := by
  have H := Lib.hid (mayBe_no z h)
  go_enter Try.func11, Try.ntmps11
  go_wp2_with fail
  refine (H.out w).mono ?_
  rintro e w1 ⟨rfl, rfl⟩
  go_wp2_with fail
  go_ret2
  exact ⟨rfl, Below.refl _ _⟩

set_option maxRecDepth 100000 in
set_option maxHeartbeats 2000000 in
theorem Put_is {b most top : Nat} {l m : List Nat} {tot : Nat} {F : Nat → Prop} {w : World} {A : Option Addr} {c : Nat} (h : WinT b most top l tot F w) (hr : RdT (fun x => ¬ F x) w (.slice A m.length c) (bv m)) (_hm : ∀ d ∈ m, d < 256) (hn : m.length ≤ 4194304) (ht : tot ≤ 4611686018427387904) :
    Calls Try.prog 12 #[.pointer (some ⟨b, 0, none⟩), .slice A m.length c] w fun e w' => e = .returned (.tuple #[]) ∧ Turned (WinT b most top (lastS most (l ++ m)) (tot + m.length)) F w w' := by
  have HH := Lib.hid h
  have HM := Lib.hid hr.bound
  have hlm := h.1
  have HLM := Lib.hid hlm
  clear h hr hlm
  go_enter Try.func12, Try.ntmps12
  go_wp2_with fail
  go_loopw [10] (fun v wr => ∃ i : Nat, i ≤ m.length ∧ v = .int .i64 (i : Nat) ∧ Hid (Turned (WinT b most top (lastS most (l ++ m.take i)) tot) F w wr)) (fun v _ => m.length - (intOf v).toNat)
  case atStart => exact ⟨0, by omega, rfl, Lib.hid (by rw [List.take_zero, List.append_nil, last_all HLM.out]; exact Turned.refl HH.out)⟩
  case round =>
    obtain ⟨i, hi, rfl, HT⟩ := hrel
    by_cases hlt : i < m.length
    · obtain ⟨G, ⟨hle, A2, c2, fr, mm, g, hR⟩, ho, hG⟩ := HT.out
      have hrd := HM.out.still (Still.of_only ho fun b hb1 hb2 hb3 => hb2.1 hb3)
      obtain ⟨bb, ob, x, rfl, cx, hx⟩ := hrd.1.byteAt hlt
      have HX : Hid (m.take (i + 1) = m.take i ++ [x]) := Lib.hid (by rw [List.take_add_one, hx]; rfl)
      have e2 : wr.cell? ⟨b, 2, none⟩ = some (.slice A2 mm.length c2) := hR.blk.cell 2
      have e4 : wr.cell? ⟨b, 4, none⟩ = some (.int .i64 ((fr + (lastS most (l ++ m.take i)).length : Nat) : Int)) := hR.blk.cell 4
      obtain ⟨L, hL⟩ : ∃ L, L = lastS most (l ++ m.take i) := ⟨_, rfl⟩
      rw [← hL] at e4 hle hR
      have HLE := Lib.hid hL
      have HR := Lib.hid hR
      have HOO := Lib.hid (And.intro ho hG)
      have HLL := Lib.hid hle
      by_cases hfull : fr + L.length = mm.length
      · have q1 : decide (((fr + L.length : Nat) : Int) = (mm.length : Int)) = true := decide_eq_true (by omega)
        have HRM := Lib.hid (fun k => room_is (hR.same (W' := wr.drewN k) ⟨rfl, rfl, rfl, Nat.le_refl _, fun _ _ => rfl⟩) hle)
        clear hrd hx hL hR ho hG hle HT
        generalize fr + L.length = tq at *
        generalize mm.length = n at *
        go_wp2_with fail
        go_quiet (fail)
        go_wp2_with fail
        refine (HRM.out nq).mono ?_
        rintro e W ⟨rfl, hS⟩
        have HS : Hid (Turned (WinS b most top L tot) F w W) := Lib.hid (Turned.comp (HOO.out.1.drewN nq) HOO.out.2 hS)
        clear hS HRM hfull q1 e2 e4 cx HR HOO HLL
        obtain ⟨G, ⟨hle, A2, c2, fr, mm, g, hlt2, hR⟩, ho, hG⟩ := HS.out
        obtain ⟨bk, oo, xd, rfl, cx2, -⟩ := hR.row.rd.byteAt hlt2
        have hfz := (hR.row.set_ (k := fr + L.length) (u := .int .u8 (x : Nat)) (by rw [bv_len]; exact hlt2) rfl).2.2
        have hgk := hR.gk (by omega)
        have hne := hR.ne_
        have hbk : b ≠ bk := fun e => hne (by rw [hgk, e])
        have HPU := Lib.hid (hR.pushed hlt2 x)
        have d2 := hR.blk.cell 2
        have d4 : W.cell? ⟨b, 4, none⟩ = some (.int .i64 ((fr + L.length : Nat) : Int)) := hR.blk.cell 4
        have d4' : ∀ u : Value, (W.setCell ⟨bk, oo + (fr + L.length), none⟩ u).cell? ⟨b, 4, none⟩ = some (.int .i64 ((fr + L.length : Nat) : Int)) := fun u => (World.cell?_setCell_other _ _ _ _ (by intro e; injection e with e1; exact hbk e1.symm)).trans d4
        have f4' : ∀ u : Value, (W.setCell ⟨bk, oo + (fr + L.length), none⟩ u).frozen? ⟨b, 4, none⟩ = false := fun u => (hR.blk.far (p := ⟨bk, oo + (fr + L.length), none⟩) hbk u).frozen 4
        have hcap := hR.cap
        have htp := hR.tp
        have w1 : IntKind.i64.wrap (((fr + L.length : Nat) : Int) + 1) = ((fr + L.length : Nat) : Int) + 1 := IntWalk.i64_in _ (by omega)
        have HO := Lib.hid (And.intro ho hG)
        clear ho hG hle hne hgk hR hcap htp
        generalize hto : fr + L.length = tq at *
        generalize hN : mm.length = n at *
        have HTO := Lib.hid (And.intro hto hN)
        clear hto hN
        go_wp2_with fail
        go_region
        go_wp2_with fail
        obtain ⟨e1, e2⟩ := HTO.out
        subst e1
        subst e2
        refine (age_is HPU.out.1.drew).mono ?_
        rintro e w3 ⟨rfl, h3, ho3⟩
        have HN : Hid (Turned (WinT b most top (lastS most (l ++ m.take (i + 1))) tot) F w w3) := Lib.hid (Turned.comp HO.out.1 HO.out.2 ⟨G, ⟨by rw [last_len]; exact Nat.min_le_left _ _, _, _, _, _, _, by rw [HX.out, ← List.append_assoc, ← last_more, ← HLE.out]; exact h3⟩, HPU.out.2.drew.trans ho3 (fun _ _ e => e), fun _ e => .inl e⟩)
        clear h3 ho3
        go_wp2_with fail
        go_roundw
        case rel => exact ⟨i + 1, by omega, by go_num, HN⟩
        case measure => simp [intOf]; omega
      · have q1 : (((fr + L.length : Nat) : Int) == (mm.length : Int)) = false := beq_eq_false_iff_ne.2 (by omega)
        have hfit := hR.fit
        have HS0 : Hid (∀ k, Turned (WinS b most top L tot) F w (wr.drewN k)) := Lib.hid (fun k => ⟨G, ⟨hle, A2, c2, fr, mm, g, by omega, hR.same ⟨rfl, rfl, rfl, Nat.le_refl _, fun _ _ => rfl⟩⟩, ho.drewN k, hG⟩)
        clear hrd hx hL hR ho hG hle HT hfit
        generalize fr + L.length = tq at *
        generalize mm.length = n at *
        go_wp2_with fail
        go_quiet (fail)
        have HS := Lib.hid (HS0.out nq)
        generalize hW : World.drewN wr nq = W at *
        clear HS0 hfull q1 e2 e4 cx HR HOO HLL hW
        obtain ⟨G, ⟨hle, A2, c2, fr, mm, g, hlt2, hR⟩, ho, hG⟩ := HS.out
        obtain ⟨bk, oo, xd, rfl, cx2, -⟩ := hR.row.rd.byteAt hlt2
        have hfz := (hR.row.set_ (k := fr + L.length) (u := .int .u8 (x : Nat)) (by rw [bv_len]; exact hlt2) rfl).2.2
        have hgk := hR.gk (by omega)
        have hne := hR.ne_
        have hbk : b ≠ bk := fun e => hne (by rw [hgk, e])
        have HPU := Lib.hid (hR.pushed hlt2 x)
        have d2 := hR.blk.cell 2
        have d4 : W.cell? ⟨b, 4, none⟩ = some (.int .i64 ((fr + L.length : Nat) : Int)) := hR.blk.cell 4
        have d4' : ∀ u : Value, (W.setCell ⟨bk, oo + (fr + L.length), none⟩ u).cell? ⟨b, 4, none⟩ = some (.int .i64 ((fr + L.length : Nat) : Int)) := fun u => (World.cell?_setCell_other _ _ _ _ (by intro e; injection e with e1; exact hbk e1.symm)).trans d4
        have f4' : ∀ u : Value, (W.setCell ⟨bk, oo + (fr + L.length), none⟩ u).frozen? ⟨b, 4, none⟩ = false := fun u => (hR.blk.far (p := ⟨bk, oo + (fr + L.length), none⟩) hbk u).frozen 4
        have hcap := hR.cap
        have htp := hR.tp
        have w1 : IntKind.i64.wrap (((fr + L.length : Nat) : Int) + 1) = ((fr + L.length : Nat) : Int) + 1 := IntWalk.i64_in _ (by omega)
        have HO := Lib.hid (And.intro ho hG)
        clear ho hG hle hne hgk hR hcap htp
        generalize hto : fr + L.length = tq at *
        generalize hN : mm.length = n at *
        have HTO := Lib.hid (And.intro hto hN)
        clear hto hN
        go_wp2_with fail
        go_region
        go_wp2_with fail
        obtain ⟨e1, e2⟩ := HTO.out
        subst e1
        subst e2
        refine (age_is HPU.out.1.drew).mono ?_
        rintro e w3 ⟨rfl, h3, ho3⟩
        have HN : Hid (Turned (WinT b most top (lastS most (l ++ m.take (i + 1))) tot) F w w3) := Lib.hid (Turned.comp HO.out.1 HO.out.2 ⟨G, ⟨by rw [last_len]; exact Nat.min_le_left _ _, _, _, _, _, _, by rw [HX.out, ← List.append_assoc, ← last_more, ← HLE.out]; exact h3⟩, HPU.out.2.drew.trans ho3 (fun _ _ e => e), fun _ e => .inl e⟩)
        clear h3 ho3
        go_wp2_with fail
        go_roundw
        case rel => exact ⟨i + 1, by omega, by go_num, HN⟩
        case measure => simp [intOf]; omega
    · obtain rfl : i = m.length := by omega
      obtain ⟨G, ⟨hle, A2, c2, fr, mm, g, hR⟩, ho, hG⟩ := HT.out
      rw [List.take_length] at hle hR
      have e1 : wr.cell? ⟨b, 1, none⟩ = some (.int .i64 (tot : Nat)) := hR.blk.cell 1
      have f1 := hR.blk.frozen 1
      have w1 : IntKind.i64.wrap ((tot : Int) + (m.length : Int)) = ((tot + m.length : Nat) : Int) := by rw [IntWalk.i64_in _ (by omega)]; omega
      have HO := Lib.hid (And.intro ho (And.intro hG (And.intro hle hR)))
      clear ho hG hle hR HT
      go_wp2_with fail
      go_end0
      obtain ⟨ho, hG, hle, hR⟩ := HO.out
      refine ⟨rfl, G, ⟨hle, A2, c2, fr, mm, g, ?_⟩, ho.trans ((Only.refl G wr).setCell (p := ⟨b, 1, none⟩) (.inl ((hR.own b).2 (.inl rfl))) _) (fun i hi hb => (hG i hb).resolve_right (by have := ho.size; omega)), hG⟩
      exact ⟨hR.blk.set_ 1 _, hR.row.far (p := ⟨b, 1, none⟩) hR.ne_ _, hR.fit, hR.its, hR.cap, hR.one, hR.mt, hR.tp, hR.own⟩

theorem Cut_is {b most top : Nat} {l : List Nat} {tot : Nat} {F : Nat → Prop} {w : World} (h : WinT b most top l tot F w) :
    Calls Try.prog 14 #[.pointer (some ⟨b, 0, none⟩)] w fun e w' => e = .returned (.tuple #[]) ∧ Turned (WinT b most most [] 0) F w w' := by
  obtain ⟨hle, A2, c2, fr, mm, g, hR⟩ := h
  have e0 : w.cell? ⟨b, 0, none⟩ = some (.int .i64 (most : Nat)) := hR.blk.cell 0
  have e1 : w.cell? ⟨b, 1, none⟩ = some (.int .i64 (tot : Nat)) := hR.blk.cell 1
  have e2 : w.cell? ⟨b, 2, none⟩ = some (.slice A2 mm.length c2) := hR.blk.cell 2
  have e3 : w.cell? ⟨b, 3, none⟩ = some (.int .i64 (fr : Nat)) := hR.blk.cell 3
  have e4 : w.cell? ⟨b, 4, none⟩ = some (.int .i64 ((fr + l.length : Nat) : Int)) := hR.blk.cell 4
  have f0 := hR.blk.frozen 0
  have f1 := hR.blk.frozen 1
  have f2 := hR.blk.frozen 2
  have f3 := hR.blk.frozen 3
  have f4 := hR.blk.frozen 4
  have H := Lib.hid hR
  clear hR hle
  go_enter Try.func14, Try.ntmps14
  go_wp2_with fail
  go_end0
  have hR := H.out
  have hfb : F b := (hR.own b).2 (.inl rfl)
  have hb := ((((hR.blk.set_ 0 (.int .i64 (most : Nat))).set_ 1 (.int .i64 0)).set_ 2 (.slice none 0 0)).set_ 3 (.int .i64 0)).set_ 4 (.int .i64 0)
  refine ⟨rfl, fun x => x = b, ⟨Nat.zero_le _, none, 0, 0, [], none, hb, Row.nil _ _, Nat.le_refl _, rfl, Nat.zero_le _, hR.one, Nat.le_refl _, by have := hR.mt; have := hR.tp; omega, fun x => by simp⟩, ?_, fun x e => .inl (by rw [e]; exact hfb)⟩
  exact (((((Only.refl F w).setCell (p := ⟨b, 0, none⟩) (.inl hfb) _).setCell (p := ⟨b, 1, none⟩) (.inl hfb) _).setCell (p := ⟨b, 2, none⟩) (.inl hfb) _).setCell (p := ⟨b, 3, none⟩) (.inl hfb) _).setCell (p := ⟨b, 4, none⟩) (.inl hfb) _
theorem Most_ok {b most top : Nat} {l : List Nat} {tot : Nat} {F : Nat → Prop} {w : World} (h : WinT b most top l tot F w) (n : Nat) (h1 : 1 ≤ n) (h2 : n ≤ 1048576) :
    Calls Try.prog 16 #[.pointer (some ⟨b, 0, none⟩), .int .i64 (n : Nat)] w fun e w' => e = .returned (.int .i64 0) ∧ Turned (WinT b n (max top n) (lastS n l) tot) F w w' := by
  obtain ⟨hle, A2, c2, fr, mm, g, hR⟩ := h
  have e0 : w.cell? ⟨b, 0, none⟩ = some (.int .i64 (most : Nat)) := hR.blk.cell 0
  have f0 := hR.blk.frozen 0
  have hfb : F b := (hR.own b).2 (.inl rfl)
  have hcap := hR.cap
  have htp := hR.tp
  have hR2 : WinR b n (max top n) tot A2 c2 fr mm l g F (w.setCell ⟨b, 0, none⟩ (.int .i64 (n : Nat))) :=
    ⟨hR.blk.set_ 0 _, hR.row.far (p := ⟨b, 0, none⟩) hR.ne_ _, hR.fit, hR.its, by omega, h1, by omega, by omega, hR.own⟩
  have HS : Hid (Only F w (w.setCell ⟨b, 0, none⟩ (.int .i64 (n : Nat)))) := Lib.hid ((Only.refl F w).setCell (p := ⟨b, 0, none⟩) (.inl hfb) _)
  have HA := Lib.hid (age_is hR2)
  have HY := Lib.hid (mayBe_yes n h1 h2)
  clear hR hle hfb hcap htp hR2
  go_enter Try.func16, Try.ntmps16
  go_wp2_with fail
  refine (HY.out w).mono ?_
  rintro e w1 ⟨rfl, rfl⟩
  go_wp2_with fail
  refine HA.out.mono ?_
  rintro e w3 ⟨rfl, h3, ho3⟩
  have HN : Hid (Turned (WinT b n (max top n) (lastS n l) tot) F w w3) := Lib.hid ⟨F, ⟨by rw [last_len]; exact Nat.min_le_left _ _, _, _, _, _, _, h3⟩, HS.out.trans ho3 (fun _ _ e => e), fun _ e => .inl e⟩
  clear h3 ho3
  go_wp2_with fail
  go_ret
  exact ⟨rfl, HN.out⟩
theorem Most_bad {b most top : Nat} {l : List Nat} {tot : Nat} {F : Nat → Prop} {w : World} (h : WinT b most top l tot F w) (z : Int) (hz : z < 1 ∨ 1048576 < z) :
    Calls Try.prog 16 #[.pointer (some ⟨b, 0, none⟩), .int .i64 z] w fun e w' => e = .returned (.int .i64 3) ∧ Turned (WinT b most top l tot) F w w' := by
  have H := Lib.hid h
  have HY := Lib.hid (mayBe_no z hz)
  clear h hz
  go_enter Try.func16, Try.ntmps16
  go_wp2_with fail
  refine (HY.out w).mono ?_
  rintro e w1 ⟨rfl, rfl⟩
  go_wp2_with fail
  go_ret
  exact ⟨rfl, Turned.refl H.out⟩
set_option maxRecDepth 100000 in
theorem Bytes_is {b most top : Nat} {l : List Nat} {tot : Nat} {F : Nat → Prop} {w : World} (h : WinT b most top l tot F w) :
    Calls Try.prog 19 #[.pointer (some ⟨b, 0, none⟩)] w (BytTo w l) := by
  obtain ⟨hle, A2, c2, fr, mm, g, hR⟩ := h
  have e2 : w.cell? ⟨b, 2, none⟩ = some (.slice A2 mm.length c2) := hR.blk.cell 2
  have e3 : w.cell? ⟨b, 3, none⟩ = some (.int .i64 (fr : Nat)) := hR.blk.cell 3
  have e4 : w.cell? ⟨b, 4, none⟩ = some (.int .i64 ((fr + l.length : Nat) : Int)) := hR.blk.cell 4
  have hcap := hR.cap
  have htp := hR.tp
  have hfit := hR.fit
  obtain ⟨A1, c1, hs1, hr1⟩ := run_part hR.row.rd hR.fit
  rw [hR.its] at hr1
  have HC := Lib.hid (SClone_is A1 l.length c1 l w.drew hr1.drew (by omega))
  clear hR hle hcap htp hfit hr1
  generalize fr + l.length = tq at *
  go_enter Try.func19, Try.ntmps19
  go_wp2_with fail
  go_still_tail 13, (by kernel_rfl)
  change wpList _ _ _ _ _ w.drew
  go_wp2_with fail
  refine HC.out.mono ?_
  rintro e w1 ⟨A3, c3, g3, rfl, hr3, hg3, hb3⟩
  have HY := Lib.hid (And.intro hr3 (And.intro hg3 hb3))
  clear hr3 hg3 hb3
  go_wp2_with fail
  go_ret
  obtain ⟨hr3, hg3, hb3⟩ := HY.out
  exact ⟨A3, c3, g3, rfl, hr3, hg3, ⟨hb3.os, hb3.tape, hb3.output, hb3.size, hb3.block⟩⟩
theorem Total_is {b most top : Nat} {l : List Nat} {tot : Nat} {F : Nat → Prop} {w : World} (h : WinT b most top l tot F w) :
    Calls Try.prog 20 #[.pointer (some ⟨b, 0, none⟩)] w fun e w' => e = .returned (.int .i64 (tot : Nat)) ∧ ∃ m, w' = w.drewN m := by
  obtain ⟨hle, A2, c2, fr, mm, g, hR⟩ := h
  have e1 : w.cell? ⟨b, 1, none⟩ = some (.int .i64 (tot : Nat)) := hR.blk.cell 1
  clear hR hle
  go_enter Try.func20, Try.ntmps20
  go_wp2_with fail
  go_ret
  exact ⟨rfl, 0, rfl⟩
theorem Held_is {b most top : Nat} {l : List Nat} {tot : Nat} {F : Nat → Prop} {w : World} (h : WinT b most top l tot F w) :
    Calls Try.prog 18 #[.pointer (some ⟨b, 0, none⟩)] w fun e w' => (∃ h : Nat, l.length ≤ h ∧ h ≤ 2 * top ∧ h ≤ 4194304 ∧ e = .returned (.int .i64 (h : Nat))) ∧ ∃ m, w' = w.drewN m := by
  obtain ⟨hle, A2, c2, fr, mm, g, hR⟩ := h
  have e4 : w.cell? ⟨b, 4, none⟩ = some (.int .i64 ((fr + l.length : Nat) : Int)) := hR.blk.cell 4
  have hcap := hR.cap
  have htp := hR.tp
  have hfit := hR.fit
  have HQ : Hid (l.length ≤ fr + l.length ∧ fr + l.length ≤ 2 * top ∧ fr + l.length ≤ 4194304) := Lib.hid (by omega)
  clear hR hle hcap htp hfit
  go_enter Try.func18, Try.ntmps18
  go_wp2_with fail
  go_ret
  exact ⟨⟨_, HQ.out.1, HQ.out.2.1, HQ.out.2.2, rfl⟩, 0, rfl⟩
/-! ### Of none -/
theorem NPut_is (v : Value) (w : World) : Calls Try.prog 12 #[.pointer none, v] w fun e w' => e = .returned (.tuple #[]) ∧ Below w.heap.size w w' := by
  go_enter Try.func12, Try.ntmps12
  go_wp2_with fail
  try simp only [Exit.inBlock, Exit.then]
  refine bodyPost_ret (results_none rfl _ _ _) rfl ?_
  exact ⟨rfl, Below.refl _ _⟩
theorem NCut_is (w : World) : Calls Try.prog 14 #[.pointer none] w fun e w' => e = .returned (.tuple #[]) ∧ Below w.heap.size w w' := by
  go_enter Try.func14, Try.ntmps14
  go_wp2_with fail
  go_end0
  exact ⟨rfl, Below.refl _ _⟩
theorem NMost_is (w : World) : Calls Try.prog 16 #[.pointer none, .int .i64 5] w fun e w' => e = .returned (.int .i64 1) ∧ Below w.heap.size w w' := by
  go_enter Try.func16, Try.ntmps16
  go_wp2_with fail
  go_ret
  exact ⟨rfl, Below.refl _ _⟩
theorem NBytes_is (w : World) : Calls Try.prog 19 #[.pointer none] w fun e w' => (∃ A c, e = .returned (.slice A 0 c)) ∧ Below w.heap.size w w' := by
  go_enter Try.func19, Try.ntmps19
  go_wp2_with fail
  go_ret
  exact ⟨⟨_, _, rfl⟩, Below.refl _ _⟩
theorem NTotal_is (w : World) : Calls Try.prog 20 #[.pointer none] w fun e w' => e = .returned (.int .i64 0) ∧ Below w.heap.size w w' := by
  go_enter Try.func20, Try.ntmps20
  go_wp2_with fail
  go_ret
  exact ⟨rfl, Below.refl _ _⟩
theorem NHeld_is (w : World) : Calls Try.prog 18 #[.pointer none] w fun e w' => e = .returned (.int .i64 0) ∧ Below w.heap.size w w' := by
  go_enter Try.func18, Try.ntmps18
  go_wp2_with fail
  go_ret
  exact ⟨rfl, Below.refl _ _⟩
end Go.Proofs.Ytkfpameaopjjnaa
