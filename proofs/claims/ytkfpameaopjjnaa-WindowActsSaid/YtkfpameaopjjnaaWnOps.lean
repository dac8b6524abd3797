/-
  A window, alone or beside another thing, since world w0 (Has): its calls; alive, great.
  Conditions: those of each theorem.
-/
import Derived.Test.YtkfpameaopjjnaaWnCon
import Derived.Test.YtkfpameaopjjnaaEvL
import Derived.Laws.StructEq
namespace Go.Proofs.Ytkfpameaopjjnaa
open Go.RowKit

section
variable {P P' Q Q' : Thing} {N : Nat → Prop} {w0 w : World} {f : FuncId} {args : Array Value} {φ : Ending → Prop}
/-- A call on a thing. -/
theorem Has.call (h : Has P N w0 w) (k : ∀ F, P F w → (∀ x, F x → w0.heap.size ≤ x ∧ ¬ N x) → Calls Try.prog f args w fun e w' => φ e ∧ Turned P' F w w') : Calls Try.prog f args w fun e w' => φ e ∧ Has P' N w0 w' ∧ Stay N w w' := by
  obtain ⟨F, h⟩ := h
  refine (k F h.it fun x hx => ⟨h.new x hx, fun hn => (h.np x hn).1 hx⟩).mono ?_
  rintro e w' ⟨he, ht⟩
  exact ⟨he, h.turn ht⟩
/-- On the first of two. -/
theorem Has.callL (h : Has (Star P Q) N w0 w) (fQ : Framed Q) (k : ∀ F, P F w → (∀ x, F x → w0.heap.size ≤ x ∧ ¬ N x) → Calls Try.prog f args w fun e w' => φ e ∧ Turned P' F w w') : Calls Try.prog f args w fun e w' => φ e ∧ Has (Star P' Q) N w0 w' ∧ Stay N w w' := by
  obtain ⟨F, h⟩ := h
  obtain ⟨A, B, hs⟩ := h.it
  refine (k A hs.fst fun x hx => ⟨h.new x ((hs.un x).2 (.inl hx)), fun hn => (h.np x hn).1 ((hs.un x).2 (.inl hx))⟩).mono ?_
  rintro e w' ⟨he, ht⟩
  exact ⟨he, h.turn (hs.left fQ ht)⟩
/-- On the second of two. -/
theorem Has.callR (h : Has (Star P Q) N w0 w) (fP : Framed P) (k : ∀ F, Q F w → (∀ x, F x → w0.heap.size ≤ x ∧ ¬ N x) → Calls Try.prog f args w fun e w' => φ e ∧ Turned Q' F w w') : Calls Try.prog f args w fun e w' => φ e ∧ Has (Star P Q') N w0 w' ∧ Stay N w w' := by
  obtain ⟨F, h⟩ := h
  obtain ⟨A, B, hs⟩ := h.it
  refine (k B hs.snd fun x hx => ⟨h.new x ((hs.un x).2 (.inr hx)), fun hn => (h.np x hn).1 ((hs.un x).2 (.inr hx))⟩).mono ?_
  rintro e w' ⟨he, ht⟩
  exact ⟨he, h.turn (hs.right fP ht)⟩
theorem Has.fst (h : Has (Star P Q) N w0 w) : ∃ F, P F w ∧ ∀ x, F x → w0.heap.size ≤ x ∧ ¬ N x := by
  obtain ⟨F, h⟩ := h
  obtain ⟨A, B, hs⟩ := h.it
  exact ⟨A, hs.fst, fun x hx => ⟨h.new x ((hs.un x).2 (.inl hx)), fun hn => (h.np x hn).1 ((hs.un x).2 (.inl hx))⟩⟩
theorem Has.snd (h : Has (Star P Q) N w0 w) : ∃ F, Q F w ∧ ∀ x, F x → w0.heap.size ≤ x ∧ ¬ N x := by
  obtain ⟨F, h⟩ := h
  obtain ⟨A, B, hs⟩ := h.it
  exact ⟨B, hs.snd, fun x hx => ⟨h.new x ((hs.un x).2 (.inr hx)), fun hn => (h.np x hn).1 ((hs.un x).2 (.inr hx))⟩⟩
end

section
variable {b most top tot : Nat} {l m : List Nat} {N : Nat → Prop} {w0 w : World} {Q P : Thing} {A : Option Addr} {c : Nat}
/-- Bytes that are read, from ahead of w0 or out of N. -/
def OutR (N : Nat → Prop) (w0 w : World) (v : Value) (m : List Nat) : Prop := RdT (fun x => N x ∨ x < w0.heap.size) w v (bv m)
theorem OutR.not {F : Nat → Prop} {v : Value} (h : OutR N w0 w v m) (k : ∀ x, F x → w0.heap.size ≤ x ∧ ¬ N x) : RdT (fun x => ¬ F x) w v (bv m) := RdT.mono h fun x hx hF => by
  have := k x hF
  rcases hx with hx | hx
  · exact this.2 hx
  · omega
theorem old_out {v : Value} (h : RdT (fun x => x < w0.heap.size) w0 v (bv m)) (hb : Below w0.heap.size w0 w) : OutR N w0 w v m := (h.below hb).mono fun _ hx => .inr hx
theorem put_1 (h : Has (WinT b most top l tot) N w0 w) (hr : OutR N w0 w (.slice A m.length c) m) (hm : ∀ d ∈ m, d < 256) (hn : m.length ≤ 4194304) (ht : tot ≤ 4611686018427387904) :
    Calls Try.prog 12 #[.pointer (some ⟨b, 0, none⟩), .slice A m.length c] w fun e w' => e = .returned (.tuple #[]) ∧ Has (WinT b most top (lastS most (l ++ m)) (tot + m.length)) N w0 w' ∧ Stay N w w' :=
  h.call fun _ hw hF => Put_is hw (hr.not hF) hm hn ht
theorem put_l (h : Has (Star (WinT b most top l tot) Q) N w0 w) (fQ : Framed Q) (hr : OutR N w0 w (.slice A m.length c) m) (hm : ∀ d ∈ m, d < 256) (hn : m.length ≤ 4194304) (ht : tot ≤ 4611686018427387904) :
    Calls Try.prog 12 #[.pointer (some ⟨b, 0, none⟩), .slice A m.length c] w fun e w' => e = .returned (.tuple #[]) ∧ Has (Star (WinT b most top (lastS most (l ++ m)) (tot + m.length)) Q) N w0 w' ∧ Stay N w w' :=
  h.callL fQ fun _ hw hF => Put_is hw (hr.not hF) hm hn ht
theorem put_r (h : Has (Star P (WinT b most top l tot)) N w0 w) (fP : Framed P) (hr : OutR N w0 w (.slice A m.length c) m) (hm : ∀ d ∈ m, d < 256) (hn : m.length ≤ 4194304) (ht : tot ≤ 4611686018427387904) :
    Calls Try.prog 12 #[.pointer (some ⟨b, 0, none⟩), .slice A m.length c] w fun e w' => e = .returned (.tuple #[]) ∧ Has (Star P (WinT b most top (lastS most (l ++ m)) (tot + m.length))) N w0 w' ∧ Stay N w w' :=
  h.callR fP fun _ hw hF => Put_is hw (hr.not hF) hm hn ht
/-- What a call that makes things alone leaves. -/
theorem Has.drewL (h : Has P N w0 w) (fP : Framed P) {w' : World} (hb : ∃ k, w' = w.drewN k) : Has P N w0 w' := by
  obtain ⟨k, rfl⟩ := hb
  exact h.drewN fP k
theorem new_has (n : Nat) (h1 : 1 ≤ n) (h2 : n ≤ 1048576) (hb : Below w0.heap.size w0 w) : Calls Try.prog 11 #[.int .i64 (n : Nat)] w fun e w' =>
    ∃ b, e = .returned (.tuple #[.pointer (some ⟨b, 0, none⟩), .int .i64 0]) ∧ Has (WinT b n n [] 0) (fun _ => False) w0 w' := by
  refine (New_ok n h1 h2 w).mono ?_
  rintro e w' ⟨b, F, he, hw, hF, hb1⟩
  exact ⟨b, he, Has.made hb hw hF hb1⟩
theorem new_two (n : Nat) (h1 : 1 ≤ n) (h2 : n ≤ 1048576) (h : Has P N w0 w) (fP : Framed P) : Calls Try.prog 11 #[.int .i64 (n : Nat)] w fun e w' =>
    ∃ b, e = .returned (.tuple #[.pointer (some ⟨b, 0, none⟩), .int .i64 0]) ∧ Has (Star P (WinT b n n [] 0)) (fun _ => False) w0 w' := by
  refine (New_ok n h1 h2 w).mono ?_
  rintro e w' ⟨b, F, he, hw, hF, hb1⟩
  exact ⟨b, he, h.both fP hw hF hb1⟩
/-- Blocks that were just made are none of its. -/
theorem Has.fresh {M : Nat → Prop} {w' : World} (h : Has P N w0 w) (fP : Framed P) (hb : Below w.heap.size w w') (hM : ∀ x, M x → w.heap.size ≤ x ∧ x < w'.heap.size) : Has P (fun x => N x ∨ M x) w0 w' := by
  obtain ⟨F, h⟩ := h
  have ho : Only (fun _ => False) w w' := Only.of_below hb (Nat.le_refl _) _
  refine ⟨F, fP.only h.it ho (fun _ _ e => e), h.new, ?_, h.below.trans (hb.mono h.below.size)⟩
  rintro x (hx | hx)
  · exact ⟨(h.np x hx).1, Nat.lt_of_lt_of_le (h.np x hx).2 hb.size⟩
  · exact ⟨fun hF => by have := fP.lt h.it x hF; have := (hM x hx).1; omega, (hM x hx).2⟩
/-- A new window beside blocks N that lay. -/
theorem new_beside (n : Nat) (h1 : 1 ≤ n) (h2 : n ≤ 1048576) (hb : Below w0.heap.size w0 w) (hN : ∀ x, N x → x < w.heap.size) : Calls Try.prog 11 #[.int .i64 (n : Nat)] w fun e w' =>
    ∃ b, e = .returned (.tuple #[.pointer (some ⟨b, 0, none⟩), .int .i64 0]) ∧ Has (WinT b n n [] 0) N w0 w' ∧ Stay N w w' := by
  refine (New_ok n h1 h2 w).mono ?_
  rintro e w' ⟨b, F, he, hw, hF, hb1⟩
  have h0 := hb.size
  exact ⟨b, he, ⟨F, hw, fun x k => by have := hF x k; omega, fun x hx => ⟨fun k => by have := hF x k; have := hN x hx; omega, Nat.lt_of_lt_of_le (hN x hx) hb1.size⟩, hb.trans (hb1.mono h0)⟩, fun x hx => hb1.block x (hN x hx)⟩
/-- Bytes, with the world that it leaves. -/
theorem bytes_1 (h : Has (WinT b most top l tot) N w0 w) : Calls Try.prog 19 #[.pointer (some ⟨b, 0, none⟩)] w (BytTo w l) := by
  obtain ⟨F, h⟩ := h
  exact Bytes_is h.it
theorem bytes_l (h : Has (Star (WinT b most top l tot) Q) N w0 w) : Calls Try.prog 19 #[.pointer (some ⟨b, 0, none⟩)] w (BytTo w l) := by
  obtain ⟨F, hw, _⟩ := h.fst
  exact Bytes_is hw
theorem bytes_r (h : Has (Star P (WinT b most top l tot)) N w0 w) : Calls Try.prog 19 #[.pointer (some ⟨b, 0, none⟩)] w (BytTo w l) := by
  obtain ⟨F, hw, _⟩ := h.snd
  exact Bytes_is hw
theorem total_1 (h : Has (WinT b most top l tot) N w0 w) : Calls Try.prog 20 #[.pointer (some ⟨b, 0, none⟩)] w fun e w' => e = .returned (.int .i64 (tot : Nat)) ∧ ∃ m, w' = w.drewN m := by
  obtain ⟨F, h⟩ := h
  exact Total_is h.it
theorem total_l (h : Has (Star (WinT b most top l tot) Q) N w0 w) : Calls Try.prog 20 #[.pointer (some ⟨b, 0, none⟩)] w fun e w' => e = .returned (.int .i64 (tot : Nat)) ∧ ∃ m, w' = w.drewN m := by
  obtain ⟨F, hw, _⟩ := h.fst
  exact Total_is hw
theorem total_r (h : Has (Star P (WinT b most top l tot)) N w0 w) : Calls Try.prog 20 #[.pointer (some ⟨b, 0, none⟩)] w fun e w' => e = .returned (.int .i64 (tot : Nat)) ∧ ∃ m, w' = w.drewN m := by
  obtain ⟨F, hw, _⟩ := h.snd
  exact Total_is hw
/-- A row of bytes that was just made. -/
theorem lit_out {N : Nat → Prop} {w0 w : World} (m : List Nat) (C : Array Value) (hC : C.toList = bv m) (h0 : 0 < m.length) (hm : m.length ≤ 1048576) : OutR (fun x => N x ∨ x = w.heap.size) w0 (w.alloc (.cells C 5)) (.slice (some ⟨w.heap.size, 0, none⟩) m.length m.length) m := by
  have hs : C.size = m.length := by rw [← Array.length_toList, hC, bv_len]
  have hr := (Row.new w 5 C m.length hs.symm (by simp only [maxLen]; omega) h0 (by rw [hC]; exact bv_one m)).rd
  rw [hC] at hr
  exact ⟨hr, fun b o n c e _ => by injection e with e; injection e with e; injection e with e; exact .inl (.inr e.symm)⟩
end

set_option maxRecDepth 100000 in
set_option maxHeartbeats 2000000 in
theorem alive_true (w : World) : Calls Try.prog 9 #[] w fun e w' => e = .returned (.bool true) ∧ Below w.heap.size w w' := by
  go_enter Try.func9, Try.ntmps9
  go_wp2_with fail
  refine (new_has 3 (by omega) (by omega) (Below.refl _ w)).mono ?_
  rintro e w1 ⟨b, rfl, hw⟩
  have H1 := Lib.hid hw
  clear hw
  have H2 := Lib.hid (H1.out.more (win_framed _ _ _ _ _) (.cells #[.int .u8 97, .int .u8 98, .int .u8 99, .int .u8 100] 5))
  have L2 := Lib.hid (lit_out (N := fun _ => False) (w0 := w) (w := w1) [97, 98, 99, 100] #[.int .u8 97, .int .u8 98, .int .u8 99, .int .u8 100] rfl (by simp) (by simp))
  have C2 := Lib.hid (put_1 H2.out L2.out (by simp) (by simp) (by omega))
  go_wp2_with fail
  refine C2.out.mono ?_
  rintro e w2 ⟨rfl, hw, -⟩
  rw [show lastS 3 ([] ++ [97, 98, 99, 100]) = [98, 99, 100] from rfl] at hw
  have H3 := Lib.hid hw.none_
  clear hw C2 L2 H2 H1
  go_wp2_with fail
  refine (bytes_1 H3.out).mono ?_
  rintro e w3 ⟨A3, c3, g3, rfl, hr3, hg3, hb3⟩
  have k3 : (convert 30 9 (.slice A3 3 c3)).run Try.prog w3 = .ok (.string ⟨#[98, 99, 100]⟩) w3 := run_str hr3.rd
  have H4 := Lib.hid (H3.out.keep (win_framed _ _ _ _ _) hb3)
  clear hr3 hg3 hb3 H3
  go_wp2_with fail
  obtain ⟨F4, h4⟩ := H4.out
  refine (Total_is h4.it).mono ?_
  rintro e w4 ⟨rfl, hd⟩
  clear h4
  have H5 := Lib.hid (H4.out.drewL (win_framed _ _ _ _ _) hd)
  clear hd H4
  go_wp2_with fail
  refine (H5.out.call fun F hw _ => Most_ok hw 5 (by omega) (by omega)).mono ?_
  rintro e w5 ⟨rfl, hw, -⟩
  rw [show lastS 5 [98, 99, 100] = [98, 99, 100] from rfl] at hw
  have H6 := Lib.hid hw.none_
  clear hw H5
  have H7 := Lib.hid (H6.out.more (win_framed _ _ _ _ _) (.cells #[.int .u8 101] 5))
  have L7 := Lib.hid (lit_out (N := fun _ => False) (w0 := w) (w := w5) [101] #[.int .u8 101] rfl (by simp) (by simp))
  have C7 := Lib.hid (put_1 H7.out L7.out (by simp) (by simp) (by simp))
  go_wp2_with fail
  refine C7.out.mono ?_
  rintro e w6 ⟨rfl, hw, -⟩
  rw [show lastS 5 ([98, 99, 100] ++ [101]) = [98, 99, 100, 101] from rfl] at hw
  have H8 := Lib.hid hw.none_
  clear hw C7 L7 H7 H6
  go_wp2_with fail
  refine (bytes_1 H8.out).mono ?_
  rintro e w7 ⟨A7, c7, g7, rfl, hr7, hg7, hb7⟩
  have k7 : (convert 30 9 (.slice A7 4 c7)).run Try.prog w7 = .ok (.string ⟨#[98, 99, 100, 101]⟩) w7 := run_str hr7.rd
  have H9 := Lib.hid (H8.out.keep (win_framed _ _ _ _ _) hb7)
  clear hr7 hg7 hb7 H8
  go_wp2_with fail
  go_ret
  exact ⟨rfl, H9.out.below⟩

/-- Are acts more than are looked at? -/
def bigA (l : List Ev) : Bool := decide (80 < l.length) || l.any fun a => decide (80 < a.data.length)
set_option maxRecDepth 100000 in
set_option maxHeartbeats 1000000 in
theorem great_is (v : Value) (l : List Ev) (w : World) (h : Evs w v l) : Calls Try.prog 10 #[v] w fun e w' => e = .returned (.bool (bigA l)) ∧ Below w.heap.size w w' := by
  obtain ⟨A, c, rfl, -⟩ := h.form
  have HE := Lib.hid h
  have hmax := h.max
  clear h
  go_enter Try.func10, Try.ntmps10
  by_cases hbig : 80 < l.length
  · have HB : Hid (bigA l = true) := Lib.hid (by unfold bigA; rw [decide_eq_true hbig]; rfl)
    go_wp2_with fail
    go_ret
    exact ⟨by rw [HB.out]; rfl, Below.refl _ w⟩
  · have hsm : l.length ≤ 80 := by omega
    go_wp2_with fail
    go_loopw [10] (fun iv wr => ∃ i : Nat, i ≤ l.length ∧ iv = .int .i64 (i : Nat) ∧ Hid (Below w.heap.size w wr) ∧ Hid (∀ (j : Nat) (a : Ev), j < i → l[j]? = some a → a.data.length ≤ 80)) (fun iv _ => l.length - (intOf iv).toNat)
    case atStart => exact ⟨0, by omega, rfl, Lib.hid (Below.refl _ w), Lib.hid fun j a h => by omega⟩
    case round =>
      obtain ⟨i, hi, rfl, HW, HS⟩ := hrel
      by_cases hlt : i < l.length
      · obtain ⟨b, o, a, rfl, ha, hat, hok, -⟩ := EvsIn.at (HE.out.below HW.out) hlt
        have c0 := hat.dir
        have c1 := hat.time
        have c2 := hat.data
        have HA := Lib.hid ha
        have HW2 := Lib.hid (HW.out.alloc HW.out.size (.cells #[.int .i64 a.dir, .int .i64 a.time, .slice a.A a.data.length a.c] 34))
        have hdm := hok.max
        clear hat hok ha
        by_cases hd : 80 < a.data.length
        · have HB : Hid (bigA l = true) := Lib.hid (by unfold bigA; rw [List.any_eq_true.2 ⟨a, List.mem_of_getElem? HA.out, decide_eq_true hd⟩, Bool.or_true])
          have hd' : (80 : Int) < (a.data.length : Int) := by omega
          go_wp2_with fail
          go_ret
          exact ⟨by rw [HB.out]; rfl, HW2.out⟩
        · have HS2 : Hid (∀ (j : Nat) (b : Ev), j < i + 1 → l[j]? = some b → b.data.length ≤ 80) := Lib.hid fun j b hj hb => by
            rcases Nat.lt_or_ge j i with h | h
            · exact HS.out j b h hb
            · obtain rfl : j = i := by omega
              rw [HA.out] at hb
              cases hb
              omega
          have hd' : ¬ (80 : Int) < (a.data.length : Int) := by omega
          go_wp2_with fail
          go_roundw
          case rel => exact ⟨i + 1, by omega, by go_num, HW2, HS2⟩
          case measure => simp [intOf]; omega
      · have HB : Hid (bigA l = false) := Lib.hid (by
          unfold bigA
          rw [decide_eq_false hbig, Bool.false_or, ← Bool.not_eq_true, List.any_eq_true]
          rintro ⟨a, ha, hd⟩
          obtain ⟨j, hj⟩ := List.mem_iff_getElem?.1 ha
          have := HS.out j a (by have := (List.getElem?_eq_some_iff.1 hj).1; omega) hj
          have := of_decide_eq_true hd
          omega)
        go_wp2_with fail
        go_ret
        exact ⟨by rw [HB.out]; rfl, HW.out⟩
end Go.Proofs.Ytkfpameaopjjnaa
