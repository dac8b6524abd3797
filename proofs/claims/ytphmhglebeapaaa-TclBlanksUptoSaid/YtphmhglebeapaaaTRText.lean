/-
  The document's name and text: what may be a name, and how a text is printed.
  Conditions: bytes, a text of at most 1048576000.
-/
import Derived.Test.YtphmhglebeapaaaTRSame
import Derived.Test.YtphmhglebeapaaaTRPar
namespace Go.Proofs.Ytphmhglebeapaaa
open Go.RowKit

/-- What asks whether p holds, and turns nothing. -/
def AsksE (w : World) (p : Prop) (e : Ending) (w' : World) : Prop := (∃ r : Bool, e = .returned (.bool r) ∧ (r = true ↔ p)) ∧ w = w'
set_option maxRecDepth 100000 in
set_option maxHeartbeats 2000000 in
theorem Rname_is (s : List Nat) (hl : ∀ c ∈ s, c < 256) (hn : s.length ≤ 1048576000) (w : World) : Calls Try.prog 46 #[.string (str s)] w (AsksE w (nameOk s)) := by
  have hsz := str_len s
  have HL := Lib.hid hl
  clear hl
  go_enter Try.func46, Try.ntmps46
  go_wp2_with fail
  go_loop [3] (fun iv => ∃ i : Nat, i ≤ s.length ∧ iv = .int .i64 (i : Nat) ∧ Hid (∀ j c, j < i → s[j]? = some c → nameB c = true)) (fun iv => s.length - (intOf iv).toNat)
  case atStart => exact ⟨0, by omega, rfl, Lib.hid fun j c h => by omega⟩
  case round =>
    obtain ⟨i, hi, rfl, HE⟩ := hrel
    by_cases hlt : i < s.length
    · have r1 : decide ((i : Int) < (s.length : Int)) = true := decide_eq_true (by omega)
      have r1n : decide (i < s.length) = true := decide_eq_true hlt
      obtain ⟨c, hc⟩ : ∃ c, s[i]? = some c := ⟨_, List.getElem?_eq_getElem hlt⟩
      obtain ⟨hks, hx⟩ := str_at HL.out hc
      have HC := Lib.hid hc
      have HN := Lib.hid (RName_is c (HL.out c (List.mem_of_getElem? hc)) w)
      clear hc
      cases hnb : nameB c with
      | true =>
        rw [hnb] at HN
        have HE2 : Hid (∀ j c, j < i + 1 → s[j]? = some c → nameB c = true) := Lib.hid fun j d hj hd => by
          rcases Nat.lt_or_ge j i with h | h
          · exact HE.out j d h hd
          · have e : j = i := by omega
            rw [e, HC.out] at hd
            injection hd with hd
            rw [← hd]; exact hnb
        clear hnb
        go_wp2_with fail
        refine HN.out.mono ?_
        rintro e w1 ⟨rfl, rfl⟩
        go_wp2_with fail
        go_round
        case rel => exact ⟨i + 1, by omega, by go_num, HE2⟩
        case measure => simp [intOf]; omega
      | false =>
        rw [hnb] at HN
        have HS : Hid (¬ nameOk s) := Lib.hid fun h => by
          have := h.1 c (List.mem_of_getElem? HC.out)
          rw [hnb] at this; cases this
        clear hnb
        go_wp2_with fail
        refine HN.out.mono ?_
        rintro e w1 ⟨rfl, rfl⟩
        go_wp2_with fail
        go_ret
        exact ⟨⟨false, rfl, ⟨fun h => by simp at h, fun h => absurd h HS.out⟩⟩, rfl⟩
    · have r1 : decide ((i : Int) < (s.length : Int)) = false := decide_eq_false (by omega)
      have r1n : decide (i < s.length) = false := decide_eq_false hlt
      have HALL : Hid (∀ c ∈ s, nameB c = true) := Lib.hid fun c hc => by
        obtain ⟨j, hj⟩ := List.getElem?_of_mem hc
        exact HE.out j c (by have := (List.getElem?_eq_some_iff.1 hj).1; omega) hj
      clear hlt
      by_cases h1 : 1 ≤ s.length
      · have r2 : decide ((1 : Int) ≤ (s.length : Int)) = true := decide_eq_true (by omega)
        have r2n : decide (1 ≤ s.length) = true := decide_eq_true h1
        by_cases h64 : s.length ≤ 64
        · have r3 : decide ((s.length : Int) ≤ 64) = true := decide_eq_true (by omega)
          have r3n : decide (s.length ≤ 64) = true := decide_eq_true h64
          have HS : Hid (nameOk s) := Lib.hid ⟨HALL.out, h1, h64⟩
          clear h1 h64
          go_wp2_with fail
          go_ret
          exact ⟨⟨true, rfl, ⟨fun _ => HS.out, fun _ => rfl⟩⟩, rfl⟩
        · have r3 : decide ((s.length : Int) ≤ 64) = false := decide_eq_false (by omega)
          have r3n : decide (s.length ≤ 64) = false := decide_eq_false h64
          have HS : Hid (¬ nameOk s) := Lib.hid fun h => h64 h.2.2
          clear h1 h64
          go_wp2_with fail
          go_ret
          exact ⟨⟨false, rfl, ⟨fun h => by simp at h, fun h => absurd h HS.out⟩⟩, rfl⟩
      · have r2 : decide ((1 : Int) ≤ (s.length : Int)) = false := decide_eq_false (by omega)
        have r2n : decide (1 ≤ s.length) = false := decide_eq_false h1
        have HS : Hid (¬ nameOk s) := Lib.hid fun h => h1 h.2.1
        clear h1
        go_wp2_with fail
        go_ret
        exact ⟨⟨false, rfl, ⟨fun h => by simp at h, fun h => absurd h HS.out⟩⟩, rfl⟩

theorem textT_take {kind : Int} {bh : Bool} {l : List Nat} {k c : Nat} (h : l[k]? = some c) : textT kind bh (l.take (k + 1)) = textT kind bh (l.take k) ++ tb kind (bh && decide (k = 0)) c := by
  have hk := (List.getElem?_eq_some_iff.1 h).1
  cases l with
  | nil => simp at h
  | cons d l =>
    cases k with
    | zero =>
      simp at h; subst h
      cases bh <;> simp [textT]
    | succ k =>
      simp at h
      have hk2 : k < l.length := (List.getElem?_eq_some_iff.1 h).1
      simp only [List.take_succ_cons, textT]
      rw [List.take_succ_eq_append_getElem hk2, (List.getElem?_eq_some_iff.1 h).2, List.flatMap_append]
      simp
theorem textT_l4 (kind : Int) (bh : Bool) (l : List Nat) : (textT kind bh l).length ≤ 4 * l.length := by
  have h1 : ∀ m : List Nat, (m.flatMap (tb kind false)).length ≤ 4 * m.length := fun m => by
    induction m with
    | nil => simp
    | cons c m ih => rw [List.flatMap_cons, List.length_append, List.length_cons]; have := (tb_len kind false c).2; omega
  cases l with
  | nil => simp [textT]
  | cons c l => rw [textT, List.length_append, List.length_cons]; have := (tb_len kind bh c).2; have := h1 l; omega

set_option maxRecDepth 100000 in
set_option maxHeartbeats 4000000 in
theorem Rtext_is {S : Nat → Prop} {w : World} (x : Wrd) {v : Value} (hx : Prts S w v x.parts) (i : Nat) {p : Prt} (hp : x.parts[i]? = some p) (hl : ∀ c ∈ p.s, c < 256) (hn : p.s.length ≤ 1048576000) :
    Calls Try.prog 47 #[.agg #[.int .i64 x.at_, .int .i64 x.kind, v], .int .i64 (i : Nat)] w fun e w' => e = .returned (.string (str (textT x.kind (decide (0 < i)) p.s))) ∧ Below w.heap.size w w' := by
  obtain ⟨A, ca, rfl, hca⟩ := hx.form
  have hi := (List.getElem?_eq_some_iff.1 hp).1
  have ii : (i : Int) < (x.parts.length : Int) := by omega
  obtain ⟨q, o, rfl, _, pv, ps⟩ := SlI.at_ hx hp
  have HPS := Lib.hid ps
  have HL := Lib.hid hl
  have hsz := str_len p.s
  have HLN : Hid (∀ k : Nat, (textT x.kind (decide (0 < i)) (p.s.take k)).length ≤ 4 * p.s.length) := Lib.hid fun k => by have := textT_l4 x.kind (decide (0 < i)) (p.s.take k); have := List.length_take_le' k p.s; omega
  have HTK := Lib.hid (fun (k c : Nat) (h : p.s[k]? = some c) => textT_take (kind := x.kind) (bh := decide (0 < i)) h)
  obtain ⟨pv', s⟩ := p
  dsimp only at *
  have hw0 : Below w.heap.size w (w.alloc (.cells #[.int .i64 x.at_, .int .i64 x.kind, .slice (some ⟨q, o, none⟩) x.parts.length ca] 44)) := (Below.refl _ w).alloc (Nat.le_refl _) _
  have HW0 := Lib.hid (And.intro hw0 (Blk.new w 44 #[.int .i64 x.at_, .int .i64 x.kind, .slice (some ⟨q, o, none⟩) x.parts.length ca]))
  clear hx hp pv ps hl hw0
  go_enter Try.func47, Try.ntmps47
  go_wp2_with fail
  go_loopw [5, 6] (fun sv kv wr => ∃ k : Nat, k ≤ s.length ∧ kv = .int .i64 (k : Nat) ∧ sv = .string (str (textT x.kind (decide (0 < i)) (s.take k))) ∧ Hid (Below w.heap.size w wr ∧ Blk wr w.heap.size 44 #[.int .i64 x.at_, .int .i64 x.kind, .slice (some ⟨q, o, none⟩) x.parts.length ca])) (fun _ kv _ => s.length - (intOf kv).toNat)
  case atStart => exact ⟨0, by omega, rfl, rfl, HW0⟩
  case round =>
    obtain ⟨k, hk, rfl, rfl, HW⟩ := hrel
    have b1 := HW.out.2.cell 1
    have b2 := HW.out.2.cell 2
    simp at b1 b2
    have ps := (HW.out.1.cell (p := ⟨q, o + i * 2 + 1, none⟩) (World.block_lt_of_cell? _ _ HPS.out)).trans HPS.out
    by_cases hlt : k < s.length
    · have r1 : decide ((k : Int) < (s.length : Int)) = true := decide_eq_true (by omega)
      have r1n : decide (k < s.length) = true := decide_eq_true hlt
      obtain ⟨c, hc⟩ : ∃ c, s[k]? = some c := ⟨_, List.getElem?_eq_getElem hlt⟩
      obtain ⟨hks, hxc⟩ := str_at HL.out hc
      have hcb := HL.out c (List.mem_of_getElem? hc)
      have HT := Lib.hid (HTK.out k c hc)
      have hzl := HLN.out k
      have HPL := Lib.hid (RPlain_is c hcb wr)
      have HBL := Lib.hid (Rblank_is c wr)
      have HNM := Lib.hid (RName_is c hcb wr)
      have HO := Lib.hid (ROctal_is c hcb wr)
      clear hc
      obtain ⟨Z, hZ⟩ : ∃ Z, Z = textT x.kind (decide (0 < i)) (s.take k) := ⟨_, rfl⟩
      rw [← hZ] at HT hzl ⊢
      obtain ⟨Z', hZ'⟩ : ∃ Z', Z' = textT x.kind (decide (0 < i)) (s.take (k + 1)) := ⟨_, rfl⟩
      rw [← hZ'] at HT
      have HZ := Lib.hid hZ'
      clear hZ hZ'
      cases hpl : plain c with
      | false =>
        rw [hpl] at HPL
        have hcat := str_app Z (octs c)
        have HQ : Hid (Z ++ octs c = Z') := Lib.hid (by rw [HT.out]; congr 1; unfold tb; rw [if_neg (by simp [hpl])])
        have hz : (str Z).size + (str (octs c)).size ≤ 9223372036854775807 := by rw [str_len, str_len, octs_len]; omega
        rw [HQ.out] at hcat
        generalize octs c = oc at *
        clear hpl
        go_wp2_with fail
        refine HPL.out.mono ?_
        rintro e w2 ⟨rfl, rfl⟩
        go_wp2_with fail
        refine HO.out.mono ?_
        rintro e w3 ⟨rfl, hb3⟩
        have HW3 := Lib.hid (And.intro (HW.out.1.trans (hb3.mono HW.out.1.size)) (HW.out.2.below hb3 HW.out.2.lt))
        clear hb3
        go_wp2_with fail
        go_roundw
        case rel => exact ⟨k + 1, by omega, by go_num, by rw [HZ.out], HW3⟩
        case measure => simp [intOf]; omega
      | true =>
        rw [hpl] at HPL
        by_cases hk2 : x.kind = 0
        · have r3 : (x.kind == 0) = true := by simp [hk2]
          cases hbl : blankB c with
          | true =>
            rw [hbl] at HBL
            have hcat := str_app Z (octs c)
            have HQ : Hid (Z ++ octs c = Z') := Lib.hid (by rw [HT.out]; congr 1; unfold tb; rw [if_neg (by simp [hpl, hk2, hbl])])
            have hz : (str Z).size + (str (octs c)).size ≤ 9223372036854775807 := by rw [str_len, str_len, octs_len]; omega
            rw [HQ.out] at hcat
            generalize octs c = oc at *
            clear hpl hk2 hbl
            go_wp2_with fail
            refine HPL.out.mono ?_
            rintro e w2 ⟨rfl, rfl⟩
            go_wp2_with fail
            refine HBL.out.mono ?_
            rintro e w2 ⟨rfl, rfl⟩
            go_wp2_with fail
            refine HO.out.mono ?_
            rintro e w3 ⟨rfl, hb3⟩
            have HW3 := Lib.hid (And.intro (HW.out.1.trans (hb3.mono HW.out.1.size)) (HW.out.2.below hb3 HW.out.2.lt))
            clear hb3
            go_wp2_with fail
            go_roundw
            case rel => exact ⟨k + 1, by omega, by go_num, by rw [HZ.out], HW3⟩
            case measure => simp [intOf]; omega
          | false =>
            rw [hbl] at HBL
            by_cases hk0 : k = 0
            · have r4 : ((k : Int) == 0) = true := beq_iff_eq.2 (by omega)
              by_cases hi0 : 0 < i
              · have r5 : decide ((0 : Int) < (i : Int)) = true := decide_eq_true (by omega)
                have r5n : decide (0 < i) = true := decide_eq_true hi0
                cases hnm : nameB c with
                | true =>
                  rw [hnm] at HNM
                  have hcat := str_app Z (octs c)
                  have HQ : Hid (Z ++ octs c = Z') := Lib.hid (by rw [HT.out]; congr 1; unfold tb; rw [if_neg (by simp [hpl, hk2, hbl, hk0, hi0, hnm])])
                  have hz : (str Z).size + (str (octs c)).size ≤ 9223372036854775807 := by rw [str_len, str_len, octs_len]; omega
                  rw [HQ.out] at hcat
                  generalize octs c = oc at *
                  clear hk0 hi0 hnm hpl  hk2 hbl
                  go_wp2_with fail
                  refine HPL.out.mono ?_
                  rintro e w2 ⟨rfl, rfl⟩
                  go_wp2_with fail
                  refine HBL.out.mono ?_
                  rintro e w2 ⟨rfl, rfl⟩
                  go_wp2_with fail
                  refine HNM.out.mono ?_
                  rintro e w2 ⟨rfl, rfl⟩
                  go_wp2_with fail
                  refine HO.out.mono ?_
                  rintro e w3 ⟨rfl, hb3⟩
                  have HW3 := Lib.hid (And.intro (HW.out.1.trans (hb3.mono HW.out.1.size)) (HW.out.2.below hb3 HW.out.2.lt))
                  clear hb3
                  go_wp2_with fail
                  go_roundw
                  case rel => exact ⟨k + 1, by omega, by go_num, by rw [HZ.out], HW3⟩
                  case measure => simp [intOf]; omega
                | false =>
                  rw [hnm] at HNM
                  have hcat := str_app Z [c]
                  have HQ : Hid (Z ++ [c] = Z') := Lib.hid (by rw [HT.out]; congr 1; unfold tb; rw [if_pos (by simp [hpl, hk2, hbl, hk0, hi0, hnm])])
                  have hz : (str Z).size + (str [c]).size ≤ 9223372036854775807 := by rw [str_len, str_len]; simp; omega
                  rw [HQ.out] at hcat
                  have hq := run_str_new wr #[.int .u8 (c : Nat)] [c] 1 rfl rfl
                  clear hk0 hi0 hnm hpl  hk2 hbl
                  go_wp2_with fail
                  refine HPL.out.mono ?_
                  rintro e w2 ⟨rfl, rfl⟩
                  go_wp2_with fail
                  refine HBL.out.mono ?_
                  rintro e w2 ⟨rfl, rfl⟩
                  go_wp2_with fail
                  refine HNM.out.mono ?_
                  rintro e w2 ⟨rfl, rfl⟩
                  go_wp2_with fail
                  have hb3 : Below wr.heap.size wr (wr.alloc (.cells #[.int .u8 (c : Nat)] 5)) := (Below.refl _ wr).alloc (Nat.le_refl _) _
                  have HW3 := Lib.hid (And.intro (HW.out.1.trans (hb3.mono HW.out.1.size)) (HW.out.2.below hb3 HW.out.2.lt))
                  clear hb3
                  go_roundw
                  case rel => exact ⟨k + 1, by omega, by go_num, by rw [HZ.out], HW3⟩
                  case measure => simp [intOf]; omega
              · have r5 : decide ((0 : Int) < (i : Int)) = false := decide_eq_false (by omega)
                have r5n : decide (0 < i) = false := decide_eq_false hi0
                have hcat := str_app Z [c]
                have HQ : Hid (Z ++ [c] = Z') := Lib.hid (by rw [HT.out]; congr 1; unfold tb; rw [if_pos (by simp [hpl, hk2, hbl, hk0, hi0])])
                have hz : (str Z).size + (str [c]).size ≤ 9223372036854775807 := by rw [str_len, str_len]; simp; omega
                rw [HQ.out] at hcat
                have hq := run_str_new wr #[.int .u8 (c : Nat)] [c] 1 rfl rfl
                clear hk0 hi0 hpl  hk2 hbl
                go_wp2_with fail
                refine HPL.out.mono ?_
                rintro e w2 ⟨rfl, rfl⟩
                go_wp2_with fail
                refine HBL.out.mono ?_
                rintro e w2 ⟨rfl, rfl⟩
                go_wp2_with fail
                have hb3 : Below wr.heap.size wr (wr.alloc (.cells #[.int .u8 (c : Nat)] 5)) := (Below.refl _ wr).alloc (Nat.le_refl _) _
                have HW3 := Lib.hid (And.intro (HW.out.1.trans (hb3.mono HW.out.1.size)) (HW.out.2.below hb3 HW.out.2.lt))
                clear hb3
                go_roundw
                case rel => exact ⟨k + 1, by omega, by go_num, by rw [HZ.out], HW3⟩
                case measure => simp [intOf]; omega
            · have r4 : ((k : Int) == 0) = false := beq_eq_false_iff_ne.2 (by omega)
              have hcat := str_app Z [c]
              have HQ : Hid (Z ++ [c] = Z') := Lib.hid (by rw [HT.out]; congr 1; unfold tb; rw [if_pos (by simp [hpl, hk2, hbl, hk0])])
              have hz : (str Z).size + (str [c]).size ≤ 9223372036854775807 := by rw [str_len, str_len]; simp; omega
              rw [HQ.out] at hcat
              have hq := run_str_new wr #[.int .u8 (c : Nat)] [c] 1 rfl rfl
              clear hk0 hpl  hk2 hbl
              go_wp2_with fail
              refine HPL.out.mono ?_
              rintro e w2 ⟨rfl, rfl⟩
              go_wp2_with fail
              refine HBL.out.mono ?_
              rintro e w2 ⟨rfl, rfl⟩
              go_wp2_with fail
              have hb3 : Below wr.heap.size wr (wr.alloc (.cells #[.int .u8 (c : Nat)] 5)) := (Below.refl _ wr).alloc (Nat.le_refl _) _
              have HW3 := Lib.hid (And.intro (HW.out.1.trans (hb3.mono HW.out.1.size)) (HW.out.2.below hb3 HW.out.2.lt))
              clear hb3
              go_roundw
              case rel => exact ⟨k + 1, by omega, by go_num, by rw [HZ.out], HW3⟩
              case measure => simp [intOf]; omega
        · have r3 : (x.kind == 0) = false := by simp [hk2]
          by_cases hk0 : k = 0
          · have r4 : ((k : Int) == 0) = true := beq_iff_eq.2 (by omega)
            by_cases hi0 : 0 < i
            · have r5 : decide ((0 : Int) < (i : Int)) = true := decide_eq_true (by omega)
              have r5n : decide (0 < i) = true := decide_eq_true hi0
              cases hnm : nameB c with
              | true =>
                rw [hnm] at HNM
                have hcat := str_app Z (octs c)
                have HQ : Hid (Z ++ octs c = Z') := Lib.hid (by rw [HT.out]; congr 1; unfold tb; rw [if_neg (by simp [hpl, hk2, hk0, hi0, hnm])])
                have hz : (str Z).size + (str (octs c)).size ≤ 9223372036854775807 := by rw [str_len, str_len, octs_len]; omega
                rw [HQ.out] at hcat
                generalize octs c = oc at *
                clear hk0 hi0 hnm hpl hk2
                go_wp2_with fail
                refine HPL.out.mono ?_
                rintro e w2 ⟨rfl, rfl⟩
                go_wp2_with fail
                refine HNM.out.mono ?_
                rintro e w2 ⟨rfl, rfl⟩
                go_wp2_with fail
                refine HO.out.mono ?_
                rintro e w3 ⟨rfl, hb3⟩
                have HW3 := Lib.hid (And.intro (HW.out.1.trans (hb3.mono HW.out.1.size)) (HW.out.2.below hb3 HW.out.2.lt))
                clear hb3
                go_wp2_with fail
                go_roundw
                case rel => exact ⟨k + 1, by omega, by go_num, by rw [HZ.out], HW3⟩
                case measure => simp [intOf]; omega
              | false =>
                rw [hnm] at HNM
                have hcat := str_app Z [c]
                have HQ : Hid (Z ++ [c] = Z') := Lib.hid (by rw [HT.out]; congr 1; unfold tb; rw [if_pos (by simp [hpl, hk2, hk0, hi0, hnm])])
                have hz : (str Z).size + (str [c]).size ≤ 9223372036854775807 := by rw [str_len, str_len]; simp; omega
                rw [HQ.out] at hcat
                have hq := run_str_new wr #[.int .u8 (c : Nat)] [c] 1 rfl rfl
                clear hk0 hi0 hnm hpl hk2
                go_wp2_with fail
                refine HPL.out.mono ?_
                rintro e w2 ⟨rfl, rfl⟩
                go_wp2_with fail
                refine HNM.out.mono ?_
                rintro e w2 ⟨rfl, rfl⟩
                go_wp2_with fail
                have hb3 : Below wr.heap.size wr (wr.alloc (.cells #[.int .u8 (c : Nat)] 5)) := (Below.refl _ wr).alloc (Nat.le_refl _) _
                have HW3 := Lib.hid (And.intro (HW.out.1.trans (hb3.mono HW.out.1.size)) (HW.out.2.below hb3 HW.out.2.lt))
                clear hb3
                go_roundw
                case rel => exact ⟨k + 1, by omega, by go_num, by rw [HZ.out], HW3⟩
                case measure => simp [intOf]; omega
            · have r5 : decide ((0 : Int) < (i : Int)) = false := decide_eq_false (by omega)
              have r5n : decide (0 < i) = false := decide_eq_false hi0
              have hcat := str_app Z [c]
              have HQ : Hid (Z ++ [c] = Z') := Lib.hid (by rw [HT.out]; congr 1; unfold tb; rw [if_pos (by simp [hpl, hk2, hk0, hi0])])
              have hz : (str Z).size + (str [c]).size ≤ 9223372036854775807 := by rw [str_len, str_len]; simp; omega
              rw [HQ.out] at hcat
              have hq := run_str_new wr #[.int .u8 (c : Nat)] [c] 1 rfl rfl
              clear hk0 hi0 hpl hk2
              go_wp2_with fail
              refine HPL.out.mono ?_
              rintro e w2 ⟨rfl, rfl⟩
              go_wp2_with fail
              have hb3 : Below wr.heap.size wr (wr.alloc (.cells #[.int .u8 (c : Nat)] 5)) := (Below.refl _ wr).alloc (Nat.le_refl _) _
              have HW3 := Lib.hid (And.intro (HW.out.1.trans (hb3.mono HW.out.1.size)) (HW.out.2.below hb3 HW.out.2.lt))
              clear hb3
              go_roundw
              case rel => exact ⟨k + 1, by omega, by go_num, by rw [HZ.out], HW3⟩
              case measure => simp [intOf]; omega
          · have r4 : ((k : Int) == 0) = false := beq_eq_false_iff_ne.2 (by omega)
            have hcat := str_app Z [c]
            have HQ : Hid (Z ++ [c] = Z') := Lib.hid (by rw [HT.out]; congr 1; unfold tb; rw [if_pos (by simp [hpl, hk2, hk0])])
            have hz : (str Z).size + (str [c]).size ≤ 9223372036854775807 := by rw [str_len, str_len]; simp; omega
            rw [HQ.out] at hcat
            have hq := run_str_new wr #[.int .u8 (c : Nat)] [c] 1 rfl rfl
            clear hk0 hpl hk2
            go_wp2_with fail
            refine HPL.out.mono ?_
            rintro e w2 ⟨rfl, rfl⟩
            go_wp2_with fail
            have hb3 : Below wr.heap.size wr (wr.alloc (.cells #[.int .u8 (c : Nat)] 5)) := (Below.refl _ wr).alloc (Nat.le_refl _) _
            have HW3 := Lib.hid (And.intro (HW.out.1.trans (hb3.mono HW.out.1.size)) (HW.out.2.below hb3 HW.out.2.lt))
            clear hb3
            go_roundw
            case rel => exact ⟨k + 1, by omega, by go_num, by rw [HZ.out], HW3⟩
            case measure => simp [intOf]; omega
    · have r1 : decide ((k : Int) < (s.length : Int)) = false := decide_eq_false (by omega)
      have r1n : decide (k < s.length) = false := decide_eq_false hlt
      obtain rfl : k = s.length := by omega
      rw [List.take_length]
      clear hlt
      go_wp2_with fail
      go_ret
      exact ⟨rfl, HW.out.1⟩
end Go.Proofs.Ytphmhglebeapaaa
