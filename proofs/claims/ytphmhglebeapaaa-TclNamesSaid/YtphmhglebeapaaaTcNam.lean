/-
  The law TclNames.
  Conditions: none.
-/
import Derived.Test.YtphmhglebeapaaaTclLaw
import Derived.Test.YtphmhglebeapaaaTcBk
import Derived.Test.YtphmhglebeapaaaTclLs
namespace Go.Proofs.Ytphmhglebeapaaa
open Go.RowKit

def tabN : List Nat := [97, 98, 99, 120, 121, 122, 65, 66, 67, 88, 89, 90, 48, 49, 56, 57, 95]
def tabE : List Nat := [45, 46, 44, 58, 47, 61, 43, 64, 37, 94, 126, 33, 63, 40, 41, 60, 62, 124, 38, 39, 42]
def nmB (c : Nat) : Nat := tabN.getD (c % 17) 0
def endE (c : Nat) : Nat := tabE.getD (c % 21) 0
theorem tabN_name : ∀ m, m < 17 → nameB (tabN.getD m 0) = true := by decide
theorem tabE_aside : ∀ m, m < 21 → plain (tabE.getD m 0) = true ∧ blankB (tabE.getD m 0) = false ∧ nameB (tabE.getD m 0) = false := by decide
theorem nmB_name (c : Nat) : nameB (nmB c) = true := tabN_name _ (by omega)
theorem endE_aside (c : Nat) : aside (endE c) := tabE_aside _ (by omega)
theorem name_bytes {s : List Nat} (hs : ∀ c ∈ s, nameB c = true) : ∀ c ∈ s, c < 256 := fun c hc => name_byte (hs c hc)
theorem nameT_bytes (q : Bool) {s : List Nat} (hs : ∀ c ∈ s, c < 256) {e : Nat} (he : e < 256) : ∀ c ∈ nameT q s e, c < 256 := by
  intro c hc
  unfold nameT at hc
  cases q <;> simp at hc <;> (rcases hc with h | h | h | h | h | h | h | h | h | h | h) <;> first | omega | exact hs c h
theorem tabN_bytes : ∀ c ∈ tabN, c < 256 := by decide
theorem tabE_bytes : ∀ c ∈ tabE, c < 256 := by decide
theorem tabN_at (c : Nat) : tabN[c % 17]? = some (nmB c) := by
  have h : c % 17 < tabN.length := Nat.mod_lt _ (by decide)
  rw [List.getElem?_eq_getElem h]; unfold nmB; simp [List.getD, List.getElem?_eq_getElem h]
theorem tabE_at (c : Nat) : tabE[c % 21]? = some (endE c) := by
  have h : c % 21 < tabE.length := Nat.mod_lt _ (by decide)
  rw [List.getElem?_eq_getElem h]; unfold endE; simp [List.getD, List.getElem?_eq_getElem h]

set_option maxRecDepth 100000 in
set_option maxHeartbeats 8000000 in
theorem names_true (A : Option Addr) (n c : Nat) (b0 : List Nat) (bh : Nat) (q : Bool) (w : World) (h : Rd w (.slice A n c) (bv b0)) (hb0 : ∀ d ∈ b0, d < 256) (hbh : bh < 256) :
    Calls Try.prog 10 #[.slice A n c, .int .u8 (bh : Nat), .bool q] w fun e w' => e = .returned (.bool true) ∧ Below w.heap.size w w' := by
  obtain rfl := h.bytes
  obtain ⟨m, hm1, hm2, hm3⟩ : ∃ m : Nat, m ≤ b0.length ∧ m ≤ 80 ∧ min (b0.length : Int) 80 = (m : Int) := ⟨min b0.length 80, Nat.min_le_left _ _, Nat.min_le_right _ _, by omega⟩
  obtain ⟨A1, hsl, hE⟩ := run_upto h hm1
  have hbl : (b0.take m).length = m := by simp; omega
  have hb : ∀ d ∈ b0.take m, d < 256 := fun d hd => hb0 d (List.mem_of_mem_take hd)
  generalize b0.take m = b at *
  obtain rfl : b.length = m := hbl
  have HE := Lib.hid (And.intro hE hb)
  have s0 : Hid (str ((b.take 0).map nmB) = ⟨#[]⟩) := Lib.hid rfl
  have HBH := Lib.hid hbh
  clear h hE hb hb0
  go_enter Try.func10, Try.ntmps10
  go_wp2_with fail
  clear hsl hm3
  go_loopw [7, 23] (fun s i wr => ∃ k : Nat, k ≤ b.length ∧ i = .int .i64 k ∧ s = .string (str ((b.take k).map nmB)) ∧ Hid (Below w.heap.size w wr)) (fun _ i _ => b.length - (intOf i).toNat)
  case atStart => exact ⟨0, by omega, rfl, by rw [s0.out], Lib.hid (Below.refl _ _)⟩
  case round =>
    obtain ⟨k, hk, rfl, rfl, HW⟩ := hrel
    by_cases hlt : k < b.length
    · obtain ⟨p, o, d, rfl, hc, hd⟩ := (HE.out.1.kept HW.out).byteAt hlt
      have hd6 := HE.out.2 d (List.mem_of_getElem? hd)
      obtain ⟨Z, hZ⟩ : ∃ Z, Z = (b.take k).map nmB := ⟨_, rfl⟩
      have hlz : Z.length ≤ 80 := by rw [hZ, List.length_map, List.length_take]; omega
      have hcat0 := str_app Z [nmB d]
      have HQ : Hid (Z ++ [nmB d] = (b.take (k + 1)).map nmB) := Lib.hid (by rw [hZ, List.take_succ_eq_append_getElem hlt, (List.getElem?_eq_some_iff.1 hd).2]; simp)
      rw [HQ.out] at hcat0
      generalize hY : str ((b.take (k + 1)).map nmB) = Y at *
      have HY := Lib.hid hY
      rw [← hZ]
      obtain ⟨j, hj⟩ : ∃ j, j = d % 17 := ⟨_, rfl⟩
      have hj1 : (d : Int) % 17 = (j : Int) := by omega
      have hj2 : j < 17 := by omega
      obtain ⟨hks, hx⟩ := str_at tabN_bytes (tabN_at d)
      have hx2 : ((⟨#[97, 98, 99, 120, 121, 122, 65, 66, 67, 88, 89, 90, 48, 49, 56, 57, 95]⟩ : ByteArray)[j]'(by show j < 17; omega)).toNat = nmB d := by subst hj; exact hx
      have hz : (str Z).size + (str [nmB d]).size ≤ 9223372036854775807 := by rw [str_len, str_len]; simp; omega
      have qn := run_str_new wr #[.int .u8 (nmB d : Nat)] [nmB d] 1 rfl rfl
      have hb3 : Below wr.heap.size wr (wr.alloc (.cells #[.int .u8 (nmB d : Nat)] 5)) := (Below.refl _ wr).alloc (Nat.le_refl _) _
      have HW3 := Lib.hid (HW.out.trans (hb3.mono HW.out.size))
      have r1 : decide ((k : Int) < (b.length : Int)) = true := decide_eq_true (by omega)
      have r1n : decide (k < b.length) = true := decide_eq_true hlt
      clear hZ hY hd hj hx hks hb3
      generalize nmB d = dd at *
      go_wp2_with fail
      go_roundw
      case rel => exact ⟨k + 1, by omega, by go_num, by rw [HY.out], HW3⟩
      case measure => simp [intOf]; omega
    · have r1 : decide ((k : Int) < (b.length : Int)) = false := decide_eq_false (by omega)
      have r1n : decide (k < b.length) = false := decide_eq_false hlt
      have htk : b.take k = b := List.take_of_length_le (by omega)
      rw [htk]
      clear hlt htk
      have hsl : (b.map nmB).length = b.length := by simp
      have hnm : ∀ x ∈ b.map nmB, nameB x = true := fun x hx => by obtain ⟨y, _, rfl⟩ := List.mem_map.1 hx; exact nmB_name y
      generalize b.map nmB = s at *
      have hs80 : s.length ≤ 80 := by omega
      clear hsl
      have HNM := Lib.hid hnm
      have HAS := Lib.hid (endE_aside bh)
      have HEB : Hid (endE bh < 256) := Lib.hid (tabE_bytes _ (List.mem_of_getElem? (tabE_at bh)))
      obtain ⟨j, hj⟩ : ∃ j, j = bh % 21 := ⟨_, rfl⟩
      have hj1 : (bh : Int) % 21 = (j : Int) := by omega
      have hj2 : j < 21 := by omega
      obtain ⟨hks, hx⟩ := str_at tabE_bytes (tabE_at bh)
      have hx2 : ((⟨#[45, 46, 44, 58, 47, 61, 43, 64, 37, 94, 126, 33, 63, 40, 41, 60, 62, 124, 38, 39, 42]⟩ : ByteArray)[j]'(by show j < 21; omega)).toNat = endE bh := by subst hj; exact hx
      clear hj hx hks hnm
      generalize endE bh = e at *
      have qn := run_str_new wr #[.int .u8 (e : Nat)] [e] 1 rfl rfl
      have hb3 : Below wr.heap.size wr (wr.alloc (.cells #[.int .u8 (e : Nat)] 5)) := (Below.refl _ wr).alloc (Nat.le_refl _) _
      have HW3 := Lib.hid (HW.out.trans (hb3.mono HW.out.size))
      have hsy := str_len s
      have hse := str_len [e]
      clear hb3
      cases q with
      | false =>
        by_cases hbig : 64 < s.length
        · have hc1 : (⟨#[115, 101, 110, 100, 32, 97, 36]⟩ : ByteArray) ++ str s = str ([115, 101, 110, 100, 32, 97, 36] ++ s) := str_app [115, 101, 110, 100, 32, 97, 36] s
          have hl1 := str_len ([115, 101, 110, 100, 32, 97, 36] ++ s)
          have hl1b : ([115, 101, 110, 100, 32, 97, 36] ++ s).length = s.length + 7 := by simp
          have hc2 : str ([115, 101, 110, 100, 32, 97, 36] ++ s) ++ str [e] = str ([115, 101, 110, 100, 32, 97, 36] ++ s ++ [e]) := str_app _ _
          have hl2 := str_len ([115, 101, 110, 100, 32, 97, 36] ++ s ++ [e])
          have hl2b : ([115, 101, 110, 100, 32, 97, 36] ++ s ++ [e]).length = s.length + 7 + 1 := by simp
          have HT : Hid (str ([115, 101, 110, 100, 32, 97, 36] ++ s ++ [e]) = str (nameT false s e)) := Lib.hid (by unfold nameT; rw [if_neg (by simp)]; simp)
          have hnl : (nameT false s e).length ≤ 1048576 := by unfold nameT; simp; omega
          have HP := Lib.hid (fun W => parse_at (nameT_bytes false (name_bytes HNM.out) HEB.out) hnl (parseR_bad (by omega) (name_long false HNM.out hbig HAS.out)) W)
          have r5 : decide ((64 : Int) < (s.length : Int)) = true := decide_eq_true (by omega)
          have r5n : decide (64 < s.length) = true := decide_eq_true hbig
          clear hbig
          rw [HT.out] at hc2 hl2
          clear hnl
          generalize str (nameT false s e) = t3 at *
          generalize str ([115, 101, 110, 100, 32, 97, 36] ++ s) = t1 at *
          rw [hl1b] at hl1
          rw [hl2b] at hl2
          clear hl1b hl2b
          generalize str [e] = u at *
          generalize str s = y at *
          go_wp2_with fail
          refine (HP.out _).mono ?_
          rintro r w4 ⟨v4, rfl, hc4', hb4⟩
          have X4 := Lib.hid (And.intro hc4' (HW3.out.trans (hb4.mono HW3.out.size)))
          obtain ⟨A4, c4, rfl, _⟩ := hc4'.form
          clear hc4' hb4 HP
          simp only [List.length_nil, List.length_cons] at *
          go_wp2_with fail
          refine (alive_true w4).mono ?_
          rintro r w5 ⟨rfl, hb5⟩
          have X5 := Lib.hid (X4.out.2.trans (hb5.mono X4.out.2.size))
          clear hb5
          go_wp2_with fail
          go_ret
          exact ⟨rfl, X5.out⟩
        · by_cases hnil : s = []
          · have hc1 : (⟨#[115, 101, 110, 100, 32, 97, 36]⟩ : ByteArray) ++ str s = str ([115, 101, 110, 100, 32, 97, 36] ++ s) := str_app [115, 101, 110, 100, 32, 97, 36] s
            have hl1 := str_len ([115, 101, 110, 100, 32, 97, 36] ++ s)
            have hl1b : ([115, 101, 110, 100, 32, 97, 36] ++ s).length = s.length + 7 := by simp
            have hc2 : str ([115, 101, 110, 100, 32, 97, 36] ++ s) ++ str [e] = str ([115, 101, 110, 100, 32, 97, 36] ++ s ++ [e]) := str_app _ _
            have hl2 := str_len ([115, 101, 110, 100, 32, 97, 36] ++ s ++ [e])
            have hl2b : ([115, 101, 110, 100, 32, 97, 36] ++ s ++ [e]).length = s.length + 7 + 1 := by simp
            have HT : Hid (str ([115, 101, 110, 100, 32, 97, 36] ++ s ++ [e]) = str (nameT false s e)) := Lib.hid (by unfold nameT; rw [if_neg (by simp)]; simp)
            have hnl : (nameT false s e).length ≤ 1048576 := by unfold nameT; simp; omega
            obtain ⟨g1, g2, hps, hparts⟩ := name_none false HAS.out
            have HP := Lib.hid (fun W => parse_at (nameT_bytes false (name_bytes HNM.out) HEB.out) hnl (parseR_ok (by omega) (by rw [hnil]; exact hps)) W)
            have hc4 : (⟨#[97, 36]⟩ : ByteArray) ++ str [e] = str [97, 36, e] := str_app [97, 36] [e]
            have hss : (str s).toList.isEmpty = true := by rw [hnil, str_nil, ByteArray.toList_eq]; rfl
            have r5 : decide ((64 : Int) < (s.length : Int)) = false := decide_eq_false (by omega)
            have r5n : decide (64 < s.length) = false := decide_eq_false (by omega)
            have HPT := Lib.hid hparts
            clear hparts hps
            clear hnil
            rw [HT.out] at hc2 hl2
            clear hnl
            generalize str (nameT false s e) = t3 at *
            generalize str ([115, 101, 110, 100, 32, 97, 36] ++ s) = t1 at *
            rw [hl1b] at hl1
            rw [hl2b] at hl2
            clear hl1b hl2b
            generalize str s = y at *
            generalize hz : str [97, 36, e] = z at *
            have HZ := Lib.hid hz
            clear hz
            generalize str [e] = u at *
            go_wp2_with fail
            refine (HP.out _).mono ?_
            rintro r w4 ⟨v4, rfl, hc4', hb4⟩
            have X4 := Lib.hid (And.intro hc4' (HW3.out.trans (hb4.mono HW3.out.size)))
            obtain ⟨A4, c4, rfl, _⟩ := hc4'.form
            clear hc4' hb4 HP
            simp only [List.length_nil, List.length_cons] at *
            obtain ⟨b1, o1, u1, e1, _, x1, Y1⟩ := cmds_at (k := 0) X4.out.1 (by simp)
            subst e1
            obtain ⟨A5, c5, rfl, _⟩ := Y1.form
            obtain ⟨b2, o2, u2, e2, _, _, y2, P2⟩ := words_at (k := 1) Y1 (by simp)
            subst e2
            obtain ⟨A6, c6, rfl, _⟩ := P2.form
            simp only [List.getElem_cons_zero, List.getElem_cons_succ, List.length_cons, List.length_nil] at x1 y2 P2
            rw [HPT.out] at P2 y2
            simp at x1
            simp only [List.length_cons, List.length_nil] at y2
            have XP := Lib.hid P2
            clear P2 Y1
            go_wp2_with fail
            refine (alive_true w4).mono ?_
            rintro r w5 ⟨rfl, hb5⟩
            obtain ⟨b70, o70, e70, p0, q0⟩ := parts_at (k := 0) (SlI.below prt_ok XP.out hb5) (by simp)
            subst e70
            simp only [List.getElem_cons_zero] at p0 q0
            rw [HZ.out] at q0
            simp at p0 q0
            have X5 := Lib.hid (X4.out.2.trans (hb5.mono X4.out.2.size))
            clear hb5
            go_wp2_with fail
            go_ret
            exact ⟨rfl, X5.out⟩
          · have hc1 : (⟨#[115, 101, 110, 100, 32, 97, 36]⟩ : ByteArray) ++ str s = str ([115, 101, 110, 100, 32, 97, 36] ++ s) := str_app [115, 101, 110, 100, 32, 97, 36] s
            have hl1 := str_len ([115, 101, 110, 100, 32, 97, 36] ++ s)
            have hl1b : ([115, 101, 110, 100, 32, 97, 36] ++ s).length = s.length + 7 := by simp
            have hc2 : str ([115, 101, 110, 100, 32, 97, 36] ++ s) ++ str [e] = str ([115, 101, 110, 100, 32, 97, 36] ++ s ++ [e]) := str_app _ _
            have hl2 := str_len ([115, 101, 110, 100, 32, 97, 36] ++ s ++ [e])
            have hl2b : ([115, 101, 110, 100, 32, 97, 36] ++ s ++ [e]).length = s.length + 7 + 1 := by simp
            have HT : Hid (str ([115, 101, 110, 100, 32, 97, 36] ++ s ++ [e]) = str (nameT false s e)) := Lib.hid (by unfold nameT; rw [if_neg (by simp)]; simp)
            have hnl : (nameT false s e).length ≤ 1048576 := by unfold nameT; simp; omega
            obtain ⟨g1, g2, hps, hparts⟩ := name_some false (s := s) ⟨HNM.out, by have := List.length_pos_iff.2 hnil; omega, by omega⟩ HAS.out
            have HP := Lib.hid (fun W => parse_at (nameT_bytes false (name_bytes HNM.out) HEB.out) hnl (parseR_ok (by omega) hps) W)
            have hss := str_some hnil
            have r5 : decide ((64 : Int) < (s.length : Int)) = false := decide_eq_false (by omega)
            have r5n : decide (64 < s.length) = false := decide_eq_false (by omega)
            have HPT := Lib.hid hparts
            clear hparts hps
            clear hnil
            rw [HT.out] at hc2 hl2
            clear hnl
            generalize str (nameT false s e) = t3 at *
            generalize str ([115, 101, 110, 100, 32, 97, 36] ++ s) = t1 at *
            rw [hl1b] at hl1
            rw [hl2b] at hl2
            clear hl1b hl2b
            generalize hu : str [e] = u at *
            have HU := Lib.hid hu
            generalize hy : str s = y at *
            have HYY := Lib.hid hy
            clear hu hy
            go_wp2_with fail
            refine (HP.out _).mono ?_
            rintro r w4 ⟨v4, rfl, hc4', hb4⟩
            have X4 := Lib.hid (And.intro hc4' (HW3.out.trans (hb4.mono HW3.out.size)))
            obtain ⟨A4, c4, rfl, _⟩ := hc4'.form
            clear hc4' hb4 HP
            simp only [List.length_nil, List.length_cons] at *
            obtain ⟨b1, o1, u1, e1, _, x1, Y1⟩ := cmds_at (k := 0) X4.out.1 (by simp)
            subst e1
            obtain ⟨A5, c5, rfl, _⟩ := Y1.form
            obtain ⟨b2, o2, u2, e2, _, _, y2, P2⟩ := words_at (k := 1) Y1 (by simp)
            subst e2
            obtain ⟨A6, c6, rfl, _⟩ := P2.form
            simp only [List.getElem_cons_zero, List.getElem_cons_succ, List.length_cons, List.length_nil] at x1 y2 P2
            rw [HPT.out] at P2 y2
            simp at x1
            simp only [List.length_cons, List.length_nil] at y2
            have XP := Lib.hid P2
            clear P2 Y1
            go_wp2_with fail
            refine (alive_true w4).mono ?_
            rintro r w5 ⟨rfl, hb5⟩
            obtain ⟨b70, o70, e70, p0, q0⟩ := parts_at (k := 0) (SlI.below prt_ok XP.out hb5) (by simp)
            obtain ⟨b71, o71, e71, p1, q1⟩ := parts_at (k := 1) (SlI.below prt_ok XP.out hb5) (by simp)
            obtain ⟨b72, o72, e72, p2, q2⟩ := parts_at (k := 2) (SlI.below prt_ok XP.out hb5) (by simp)
            subst e70
            cases e71
            cases e72
            simp only [List.getElem_cons_zero, List.getElem_cons_succ] at p0 q0 p1 q1 p2 q2
            have ha1 : str [97] = ⟨#[97]⟩ := rfl
            rw [ha1] at q0
            rw [HYY.out] at q1
            rw [HU.out] at q2
            clear ha1
            simp at p0 q0 p1 q1 p2 q2
            have X5 := Lib.hid (X4.out.2.trans (hb5.mono X4.out.2.size))
            clear hb5
            go_wp2_with fail
            go_ret
            exact ⟨rfl, X5.out⟩
      | true =>
        by_cases hbig : 64 < s.length
        · have hc1 : (⟨#[115, 101, 110, 100, 32, 34, 97, 36]⟩ : ByteArray) ++ str s = str ([115, 101, 110, 100, 32, 34, 97, 36] ++ s) := str_app [115, 101, 110, 100, 32, 34, 97, 36] s
          have hl1 := str_len ([115, 101, 110, 100, 32, 34, 97, 36] ++ s)
          have hl1b : ([115, 101, 110, 100, 32, 34, 97, 36] ++ s).length = s.length + 8 := by simp
          have hc2 : str ([115, 101, 110, 100, 32, 34, 97, 36] ++ s) ++ str [e] = str ([115, 101, 110, 100, 32, 34, 97, 36] ++ s ++ [e]) := str_app _ _
          have hl2 := str_len ([115, 101, 110, 100, 32, 34, 97, 36] ++ s ++ [e])
          have hl2b : ([115, 101, 110, 100, 32, 34, 97, 36] ++ s ++ [e]).length = s.length + 8 + 1 := by simp
          have hc3 : str ([115, 101, 110, 100, 32, 34, 97, 36] ++ s ++ [e]) ++ ⟨#[34]⟩ = str (nameT true s e) := (str_app ([115, 101, 110, 100, 32, 34, 97, 36] ++ s ++ [e]) [34]).trans (by unfold nameT; rw [if_pos rfl]; simp)
          have hnl : (nameT true s e).length ≤ 1048576 := by unfold nameT; simp; omega
          have HP := Lib.hid (fun W => parse_at (nameT_bytes true (name_bytes HNM.out) HEB.out) hnl (parseR_bad (by omega) (name_long true HNM.out hbig HAS.out)) W)
          have r5 : decide ((64 : Int) < (s.length : Int)) = true := decide_eq_true (by omega)
          have r5n : decide (64 < s.length) = true := decide_eq_true hbig
          clear hbig
          clear hnl
          generalize str (nameT true s e) = t3 at *
          generalize str ([115, 101, 110, 100, 32, 34, 97, 36] ++ s) = t1 at *
          generalize str ([115, 101, 110, 100, 32, 34, 97, 36] ++ s ++ [e]) = t2 at *
          rw [hl1b] at hl1
          rw [hl2b] at hl2
          clear hl1b hl2b
          generalize str [e] = u at *
          generalize str s = y at *
          go_wp2_with fail
          refine (HP.out _).mono ?_
          rintro r w4 ⟨v4, rfl, hc4', hb4⟩
          have X4 := Lib.hid (And.intro hc4' (HW3.out.trans (hb4.mono HW3.out.size)))
          obtain ⟨A4, c4, rfl, _⟩ := hc4'.form
          clear hc4' hb4 HP
          simp only [List.length_nil, List.length_cons] at *
          go_wp2_with fail
          refine (alive_true w4).mono ?_
          rintro r w5 ⟨rfl, hb5⟩
          have X5 := Lib.hid (X4.out.2.trans (hb5.mono X4.out.2.size))
          clear hb5
          go_wp2_with fail
          go_ret
          exact ⟨rfl, X5.out⟩
        · by_cases hnil : s = []
          · have hc1 : (⟨#[115, 101, 110, 100, 32, 34, 97, 36]⟩ : ByteArray) ++ str s = str ([115, 101, 110, 100, 32, 34, 97, 36] ++ s) := str_app [115, 101, 110, 100, 32, 34, 97, 36] s
            have hl1 := str_len ([115, 101, 110, 100, 32, 34, 97, 36] ++ s)
            have hl1b : ([115, 101, 110, 100, 32, 34, 97, 36] ++ s).length = s.length + 8 := by simp
            have hc2 : str ([115, 101, 110, 100, 32, 34, 97, 36] ++ s) ++ str [e] = str ([115, 101, 110, 100, 32, 34, 97, 36] ++ s ++ [e]) := str_app _ _
            have hl2 := str_len ([115, 101, 110, 100, 32, 34, 97, 36] ++ s ++ [e])
            have hl2b : ([115, 101, 110, 100, 32, 34, 97, 36] ++ s ++ [e]).length = s.length + 8 + 1 := by simp
            have hc3 : str ([115, 101, 110, 100, 32, 34, 97, 36] ++ s ++ [e]) ++ ⟨#[34]⟩ = str (nameT true s e) := (str_app ([115, 101, 110, 100, 32, 34, 97, 36] ++ s ++ [e]) [34]).trans (by unfold nameT; rw [if_pos rfl]; simp)
            have hnl : (nameT true s e).length ≤ 1048576 := by unfold nameT; simp; omega
            obtain ⟨g1, g2, hps, hparts⟩ := name_none true HAS.out
            have HP := Lib.hid (fun W => parse_at (nameT_bytes true (name_bytes HNM.out) HEB.out) hnl (parseR_ok (by omega) (by rw [hnil]; exact hps)) W)
            have hc4 : (⟨#[97, 36]⟩ : ByteArray) ++ str [e] = str [97, 36, e] := str_app [97, 36] [e]
            have hss : (str s).toList.isEmpty = true := by rw [hnil, str_nil, ByteArray.toList_eq]; rfl
            have r5 : decide ((64 : Int) < (s.length : Int)) = false := decide_eq_false (by omega)
            have r5n : decide (64 < s.length) = false := decide_eq_false (by omega)
            have HPT := Lib.hid hparts
            clear hparts hps
            clear hnil
            clear hnl
            generalize str (nameT true s e) = t3 at *
            generalize str ([115, 101, 110, 100, 32, 34, 97, 36] ++ s) = t1 at *
            generalize str ([115, 101, 110, 100, 32, 34, 97, 36] ++ s ++ [e]) = t2 at *
            rw [hl1b] at hl1
            rw [hl2b] at hl2
            clear hl1b hl2b
            generalize str s = y at *
            generalize hz : str [97, 36, e] = z at *
            have HZ := Lib.hid hz
            clear hz
            generalize str [e] = u at *
            go_wp2_with fail
            refine (HP.out _).mono ?_
            rintro r w4 ⟨v4, rfl, hc4', hb4⟩
            have X4 := Lib.hid (And.intro hc4' (HW3.out.trans (hb4.mono HW3.out.size)))
            obtain ⟨A4, c4, rfl, _⟩ := hc4'.form
            clear hc4' hb4 HP
            simp only [List.length_nil, List.length_cons] at *
            obtain ⟨b1, o1, u1, e1, _, x1, Y1⟩ := cmds_at (k := 0) X4.out.1 (by simp)
            subst e1
            obtain ⟨A5, c5, rfl, _⟩ := Y1.form
            obtain ⟨b2, o2, u2, e2, _, _, y2, P2⟩ := words_at (k := 1) Y1 (by simp)
            subst e2
            obtain ⟨A6, c6, rfl, _⟩ := P2.form
            simp only [List.getElem_cons_zero, List.getElem_cons_succ, List.length_cons, List.length_nil] at x1 y2 P2
            rw [HPT.out] at P2 y2
            simp at x1
            simp only [List.length_cons, List.length_nil] at y2
            have XP := Lib.hid P2
            clear P2 Y1
            go_wp2_with fail
            refine (alive_true w4).mono ?_
            rintro r w5 ⟨rfl, hb5⟩
            obtain ⟨b70, o70, e70, p0, q0⟩ := parts_at (k := 0) (SlI.below prt_ok XP.out hb5) (by simp)
            subst e70
            simp only [List.getElem_cons_zero] at p0 q0
            rw [HZ.out] at q0
            simp at p0 q0
            have X5 := Lib.hid (X4.out.2.trans (hb5.mono X4.out.2.size))
            clear hb5
            go_wp2_with fail
            go_ret
            exact ⟨rfl, X5.out⟩
          · have hc1 : (⟨#[115, 101, 110, 100, 32, 34, 97, 36]⟩ : ByteArray) ++ str s = str ([115, 101, 110, 100, 32, 34, 97, 36] ++ s) := str_app [115, 101, 110, 100, 32, 34, 97, 36] s
            have hl1 := str_len ([115, 101, 110, 100, 32, 34, 97, 36] ++ s)
            have hl1b : ([115, 101, 110, 100, 32, 34, 97, 36] ++ s).length = s.length + 8 := by simp
            have hc2 : str ([115, 101, 110, 100, 32, 34, 97, 36] ++ s) ++ str [e] = str ([115, 101, 110, 100, 32, 34, 97, 36] ++ s ++ [e]) := str_app _ _
            have hl2 := str_len ([115, 101, 110, 100, 32, 34, 97, 36] ++ s ++ [e])
            have hl2b : ([115, 101, 110, 100, 32, 34, 97, 36] ++ s ++ [e]).length = s.length + 8 + 1 := by simp
            have hc3 : str ([115, 101, 110, 100, 32, 34, 97, 36] ++ s ++ [e]) ++ ⟨#[34]⟩ = str (nameT true s e) := (str_app ([115, 101, 110, 100, 32, 34, 97, 36] ++ s ++ [e]) [34]).trans (by unfold nameT; rw [if_pos rfl]; simp)
            have hnl : (nameT true s e).length ≤ 1048576 := by unfold nameT; simp; omega
            obtain ⟨g1, g2, hps, hparts⟩ := name_some true (s := s) ⟨HNM.out, by have := List.length_pos_iff.2 hnil; omega, by omega⟩ HAS.out
            have HP := Lib.hid (fun W => parse_at (nameT_bytes true (name_bytes HNM.out) HEB.out) hnl (parseR_ok (by omega) hps) W)
            have hss := str_some hnil
            have r5 : decide ((64 : Int) < (s.length : Int)) = false := decide_eq_false (by omega)
            have r5n : decide (64 < s.length) = false := decide_eq_false (by omega)
            have HPT := Lib.hid hparts
            clear hparts hps
            clear hnil
            clear hnl
            generalize str (nameT true s e) = t3 at *
            generalize str ([115, 101, 110, 100, 32, 34, 97, 36] ++ s) = t1 at *
            generalize str ([115, 101, 110, 100, 32, 34, 97, 36] ++ s ++ [e]) = t2 at *
            rw [hl1b] at hl1
            rw [hl2b] at hl2
            clear hl1b hl2b
            generalize hu : str [e] = u at *
            have HU := Lib.hid hu
            generalize hy : str s = y at *
            have HYY := Lib.hid hy
            clear hu hy
            go_wp2_with fail
            refine (HP.out _).mono ?_
            rintro r w4 ⟨v4, rfl, hc4', hb4⟩
            have X4 := Lib.hid (And.intro hc4' (HW3.out.trans (hb4.mono HW3.out.size)))
            obtain ⟨A4, c4, rfl, _⟩ := hc4'.form
            clear hc4' hb4 HP
            simp only [List.length_nil, List.length_cons] at *
            obtain ⟨b1, o1, u1, e1, _, x1, Y1⟩ := cmds_at (k := 0) X4.out.1 (by simp)
            subst e1
            obtain ⟨A5, c5, rfl, _⟩ := Y1.form
            obtain ⟨b2, o2, u2, e2, _, _, y2, P2⟩ := words_at (k := 1) Y1 (by simp)
            subst e2
            obtain ⟨A6, c6, rfl, _⟩ := P2.form
            simp only [List.getElem_cons_zero, List.getElem_cons_succ, List.length_cons, List.length_nil] at x1 y2 P2
            rw [HPT.out] at P2 y2
            simp at x1
            simp only [List.length_cons, List.length_nil] at y2
            have XP := Lib.hid P2
            clear P2 Y1
            go_wp2_with fail
            refine (alive_true w4).mono ?_
            rintro r w5 ⟨rfl, hb5⟩
            obtain ⟨b70, o70, e70, p0, q0⟩ := parts_at (k := 0) (SlI.below prt_ok XP.out hb5) (by simp)
            obtain ⟨b71, o71, e71, p1, q1⟩ := parts_at (k := 1) (SlI.below prt_ok XP.out hb5) (by simp)
            obtain ⟨b72, o72, e72, p2, q2⟩ := parts_at (k := 2) (SlI.below prt_ok XP.out hb5) (by simp)
            subst e70
            cases e71
            cases e72
            simp only [List.getElem_cons_zero, List.getElem_cons_succ] at p0 q0 p1 q1 p2 q2
            have ha1 : str [97] = ⟨#[97]⟩ := rfl
            rw [ha1] at q0
            rw [HYY.out] at q1
            rw [HU.out] at q2
            clear ha1
            simp at p0 q0 p1 q1 p2 q2
            have X5 := Lib.hid (X4.out.2.trans (hb5.mono X4.out.2.size))
            clear hb5
            go_wp2_with fail
            go_ret
            exact ⟨rfl, X5.out⟩
end Go.Proofs.Ytphmhglebeapaaa
