/-
  The law WindowOwn.
  Conditions: none.
-/
import Derived.Test.YtkfpameaopjjnaaWnCuts
import Derived.Test.YtkfpameaopjjnaaRowSet
import Derived.Test.YtkfpameaopjjnaaAppRun
namespace Go.Proofs.Ytkfpameaopjjnaa
open Go.RowKit

/-- Bytes, whichever. -/
def anyB (xs : List Value) : Prop := ∀ u ∈ xs, ∃ d : Int, u = .int .u8 d ∧ 0 ≤ d ∧ d < 256
theorem any_bv {l : List Nat} (h : ∀ d ∈ l, d < 256) : anyB (bv l) := fun u hu => by
  obtain ⟨c, hc, rfl⟩ := List.mem_map.1 hu
  exact ⟨c, rfl, by omega, by have := h c hc; omega⟩
theorem any_set {xs : List Value} (h : anyB xs) (k : Nat) (d : Int) (h0 : 0 ≤ d) (h1 : d < 256) : anyB (xs.set k (.int .u8 d)) := fun u hu => by
  rcases List.mem_or_eq_of_mem_set hu with hu | rfl
  · exact h u hu
  · exact ⟨d, rfl, h0, h1⟩
theorem Row.cellV {w : World} {e : TypeId} {g : Option Nat} {A : Option Addr} {n c i : Nat} {xs : List Value} (h : Row w e g (.slice A n c) xs) (hn : n = xs.length) (hi : i < n) : ∃ b o, A = some ⟨b, o, none⟩ ∧ g = some b ∧ w.cell? ⟨b, o + i, none⟩ = some (xs.getD i undef) := by
  obtain ⟨A', c', e', hle, _, _, hg⟩ := h
  injection e' with e1 e2 e3
  subst e1 e3
  rcases hg with ⟨hz, _⟩ | ⟨b, o, cs, _, rfl, rfl, hb, _, hx⟩
  · omega
  · have hi' : i < xs.length := by omega
    refine ⟨b, o, rfl, rfl, (cell_of_row w b (o + i) cs e (0, 0) hb).trans ?_⟩
    rw [List.getD_eq_getElem?_getD, List.getElem?_eq_getElem hi']
    exact hx i _ (List.getElem?_eq_getElem hi')

set_option maxRecDepth 100000 in
set_option maxHeartbeats 2000000 in
theorem own_true (z : Int) (A1 : Option Addr) (n1 c1 : Nat) (l : List Nat) (w : World) (h1 : Rd w (.slice A1 n1 c1) (bv l)) (hl : ∀ d ∈ l, d < 256) :
    Calls Try.prog 7 #[.int .i64 z, .slice A1 n1 c1] w fun e w' => e = .returned (.bool true) ∧ Below w.heap.size w w' := by
  obtain ⟨i0, hi0, hz0, hz1, hz2⟩ := info_parts byte_info
  obtain ⟨k, hk, hkz⟩ := num30 z
  obtain ⟨n, hn1, hn2, hn3⟩ : ∃ n : Nat, 1 ≤ n ∧ n ≤ 30 ∧ (1 : Int) + (k : Int) = (n : Int) := ⟨1 + k, by omega, by omega, by omega⟩
  obtain ⟨A3, hrun3, hr3⟩ := run_min h1 100
  have e3 : (l.take 100).length ≤ 100 := by rw [List.length_take]; omega
  have b3 : ∀ d ∈ l.take 100, d < 256 := fun d hd => hl d (List.mem_of_mem_take hd)
  generalize l.take 100 = l3 at *
  have H3 := Lib.hid (And.intro (hr3.alloc (.cells #[] 5)) b3)
  have H3b := Lib.hid b3
  have hl1 := h1.le
  rw [show (((100 : Nat)) : Int) = 100 from rfl] at hrun3
  clear hl h1 b3 hr3
  go_enter Try.func7, Try.ntmps7
  go_wp2_with (at_builtin; refine wpList_append_row _ rfl (.tmp 11) (.tmp 16) _ rfl 5 i0 _ 1 Try.underlying30 hi0 hz0 hz1 hz2 rfl none _ [] rfl (Row.empty _ _ _) _ (bv l3) rfl H3.out.1 (by simp only [maxLen, bv_len, List.length_nil]; omega) (by simp only [bv_len, List.length_nil]; omega) ?_; intro A5 c5 w5 g5 hr5 hg5 hn5; simp only [List.length_nil, Nat.zero_add, List.nil_append, bv_len] at hr5 ⊢; have X5 := Lib.hid (And.intro hr5 (And.intro (((Below.refl _ w).alloc (Nat.le_refl _) (.cells #[] 5)).grown hg5 (by simp) (fun k e => by cases e)) (fun x (e : g5 = some x) => show w.heap.size ≤ x by rcases hn5 with e2 | e2; rw [e2] at e; cases e; rw [e2] at e; cases e; simp))); clear hr5 hg5 hn5)
  have X5n : ∀ x, g5 = some x → x < w5.heap.size := fun x e => X5.out.1.lt e
  refine (new_beside (N := fun x => g5 = some x) n hn1 (by omega) X5.out.2.1 X5n).mono ?_
  rintro e w6 ⟨b, rfl, hw, hst⟩
  have X6 := Lib.hid (And.intro hw (hst.row (fun x e => e) X5.out.1))
  have G5 := Lib.hid X5.out.2.2
  clear hw hst X5 X5n H3
  go_wp2_with fail
  refine (alive_true _).mono ?_
  rintro e w7 ⟨rfl, hb⟩
  have X7 := Lib.hid (And.intro (X6.out.1.keep (win_framed _ _ _ _ _) hb) (X6.out.2.below hb fun _ e => X6.out.2.lt e))
  clear hb X6
  have L7 : Hid (OutR (fun x => g5 = some x) w w7 (.slice A5 l3.length c5) l3) := Lib.hid ⟨X7.out.2.rd, fun b o n' c e hp => by
    obtain ⟨b2, o2, e1, e2, -⟩ := X7.out.2.cellV (i := 0) (bv_len l3).symm (by rw [bv_len] at hp; exact hp)
    injection e with e
    rw [e1] at e
    injection e with e
    injection e with e
    subst e
    exact .inl e2⟩
  have hbyte : ∀ d ∈ l3, d < 256 := H3b.out
  have P7 := Lib.hid (put_1 X7.out.1 L7.out hbyte (by omega) (by omega))
  have R7 := Lib.hid X7.out.2
  clear L7 X7
  go_wp2_with fail
  refine P7.out.mono ?_
  rintro e w8 ⟨rfl, hw, hst⟩
  simp only [List.nil_append, Nat.zero_add] at hw
  have X8 := Lib.hid (And.intro hw (hst.row (fun x e => e) R7.out))
  clear hw hst P7 R7
  have HLB : Hid (∀ d ∈ lastS n l3, d < 256) := Lib.hid (last_mem hbyte)
  have hLL := last_len n l3
  have hLs : (lastS n l3).length ≤ 100 := by omega
  clear hLL
  generalize lastS n l3 = L at *
  go_wp2_with fail
  refine (bytes_1 X8.out.1).mono ?_
  rintro e w9 ⟨A9, c9, g9, rfl, hr9, -, hb⟩
  have s9 := run_str hr9.rd
  have X9 := Lib.hid (And.intro (X8.out.1.keep (win_framed _ _ _ _ _) hb) (X8.out.2.below hb fun _ e => X8.out.2.lt e))
  have AB := Lib.hid (any_bv hbyte)
  have BL := bv_len l3
  clear hb hr9 X8
  go_wp2_with fail
  clear s9
  generalize bv l3 = xs0 at *
  go_loopw [44] (fun iv wr => ∃ (i : Nat) (xs : List Value), i ≤ l3.length ∧ iv = .int .i64 (i : Nat) ∧ Hid (Has (WinT b n n L l3.length) (fun x => g5 = some x) w wr) ∧ Hid (Row wr 5 g5 (.slice A5 l3.length c5) xs) ∧ Hid (anyB xs ∧ xs.length = l3.length)) (fun iv _ => l3.length - (intOf iv).toNat)
  case atStart => exact ⟨0, xs0, by omega, rfl, Lib.hid X9.out.1, Lib.hid X9.out.2, Lib.hid ⟨AB.out, BL⟩⟩
  case round =>
    obtain ⟨i, xs, hi, rfl, HW, HR, HX⟩ := hrel
    clear X9
    by_cases hlt : i < l3.length
    · obtain ⟨bb, oo, rfl, hg, hc⟩ := HR.out.cellV HX.out.2.symm hlt
      obtain ⟨d, hd, hd0, hd1⟩ := HX.out.1 (xs.getD i undef) (by rw [List.getD_eq_getElem?_getD, List.getElem?_eq_getElem (by have := HX.out.2; omega)]; exact List.getElem_mem _)
      rw [hd] at hc
      have hset := fun u (hu : u.oneCell' = true) => HR.out.set_ (k := i) (by have := HX.out.2; omega) (u := u) hu
      have hf := (hset (.int .u8 0) rfl).2.2
      have HS := Lib.hid hset
      have HG := Lib.hid hg
      clear hset hg hd
      go_wp2_with fail
      go_roundw
      case rel => exact ⟨i + 1, _, by omega, by go_num, Lib.hid (HW.out.store (win_framed _ _ _ _ _) HG.out (G5.out _ HG.out) _ _), Lib.hid (HS.out _ rfl).1, Lib.hid ⟨any_set HX.out.1 _ _ (by omega) (by omega), by rw [List.length_set]; exact HX.out.2⟩⟩
      case measure => simp [intOf]; omega
    · clear AB BL
      go_wp2_with fail
      refine (bytes_1 HW.out).mono ?_
      rintro e w10 ⟨A10, c10, g10, rfl, hr10, hg10, hb⟩
      have X10 := Lib.hid (And.intro (HW.out.none_.fresh (M := fun x => g10 = some x) (win_framed _ _ _ _ _) hb fun x e => ⟨hg10 x e, hr10.lt e⟩) hr10)
      have G10 : Hid (∀ x, g10 = some x → w.heap.size ≤ x) := Lib.hid fun x e => Nat.le_trans HW.out.below.size (hg10 x e)
      have hbL : Hid (anyB (bv L) ∧ (bv L).length = L.length) := Lib.hid ⟨any_bv HLB.out, bv_len L⟩
      clear hr10 hg10 hb HW HR HX
      go_wp2_with fail
      go_loopw [58] (fun iv wr => ∃ (i : Nat) (xs : List Value), i ≤ L.length ∧ iv = .int .i64 (i : Nat) ∧ Hid (Has (WinT b n n L l3.length) (fun x => False ∨ g10 = some x) w wr) ∧ Hid (Row wr 5 g10 (.slice A10 L.length c10) xs) ∧ Hid (anyB xs ∧ xs.length = L.length)) (fun iv _ => L.length - (intOf iv).toNat)
      case atStart => exact ⟨0, bv L, by omega, rfl, Lib.hid X10.out.1, Lib.hid X10.out.2, hbL⟩
      case round =>
        obtain ⟨i, xs, hi, rfl, HW, HR, HX⟩ := hrel
        clear X10
        by_cases hlt : i < L.length
        · obtain ⟨bb, oo, rfl, hg, hc⟩ := HR.out.cellV HX.out.2.symm hlt
          obtain ⟨d, hd, hd0, hd1⟩ := HX.out.1 (xs.getD i undef) (by rw [List.getD_eq_getElem?_getD, List.getElem?_eq_getElem (by have := HX.out.2; omega)]; exact List.getElem_mem _)
          rw [hd] at hc
          have hset := fun u (hu : u.oneCell' = true) => HR.out.set_ (k := i) (by have := HX.out.2; omega) (u := u) hu
          have hf := (hset (.int .u8 0) rfl).2.2
          have HS := Lib.hid hset
          have HG := Lib.hid hg
          clear hset hg hd
          go_wp2_with fail
          go_roundw
          case rel => exact ⟨i + 1, _, by omega, by go_num, Lib.hid (HW.out.store (win_framed _ _ _ _ _) (.inr HG.out) (G10.out _ HG.out) _ _), Lib.hid (HS.out _ rfl).1, Lib.hid ⟨any_set HX.out.1 _ _ (by omega) (by omega), by rw [List.length_set]; exact HX.out.2⟩⟩
          case measure => simp [intOf]; omega
        · go_wp2_with fail
          refine (bytes_1 HW.out).mono ?_
          rintro e w11 ⟨A11, c11, g11, rfl, hr11, -, hb⟩
          have s11 := run_str hr11.rd
          have X11 := Lib.hid (HW.out.keep (win_framed _ _ _ _ _) hb)
          clear hr11 hb HW HR HX
          go_wp2_with fail
          go_ret
          exact ⟨rfl, X11.out.below⟩
end Go.Proofs.Ytkfpameaopjjnaa
