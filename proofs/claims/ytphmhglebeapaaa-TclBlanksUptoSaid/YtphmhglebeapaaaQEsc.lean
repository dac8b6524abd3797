/-
  The document's Escape.
  Conditions: s is at most 281474976710656 bytes.
-/
import Derived.Test.YtphmhglebeapaaaQRef
import Derived.WalkKit
import Derived.Deep.DeepCutAuto
import Derived.Deep.CutBlock
namespace Go.Proofs.Ytphmhglebeapaaa
open Go.RowKit

theorem str_at {l : List Nat} (hl : ∀ c ∈ l, c < 256) {k : Nat} {d : Nat} (h : l[k]? = some d) : ∃ hk : k < (str l).size, ((str l)[k]'hk).toNat = d := by
  have hlt := (List.getElem?_eq_some_iff.1 h).1
  refine ⟨by rw [str_len]; exact hlt, ?_⟩
  have hd := hl d (List.mem_of_getElem? h)
  have e : (str l).data.toList[k]? = some (UInt8.ofNat d) := by
    unfold str
    rw [strOfNums_data, List.map_map, List.getElem?_map, h]
    simp
  have e2 : (str l).data[k]? = some (UInt8.ofNat d) := by rw [← Array.getElem?_toList]; exact e
  have hk : k < (str l).data.size := (Array.getElem?_eq_some_iff.1 e2).1
  have e3 := (Array.getElem?_eq_some_iff.1 e2).2
  show ((str l).data[k]'hk).toNat = d
  rw [e3]
  simp; omega

/-- What Escape tells. -/
def EscTo (l : List Nat) (z : Int) (w : World) (e : Ending) (w' : World) : Prop :=
  e = .returned (.tuple #[.int .u8 ((escape l z).1 : Nat), .int .i64 ((escape l z).2.1 : Nat), .int .i64 ((escape l z).2.2 : Nat)]) ∧ w = w'

theorem digs_none {n x : Nat} {r : List Nat} (h : n = 0 ∨ r = [] ∨ ∃ d t, r = d :: t ∧ octd d = false) : digs n x r = (x, 0) := by
  cases n with
  | zero => rfl
  | succ n =>
    rcases h with h | rfl | ⟨d, t, rfl, hd⟩
    · omega
    · rfl
    · simp [digs, hd]
theorem digs_one {n x d : Nat} {t : List Nat} (hd : octd d = true) : digs (n + 1) x (d :: t) = ((digs n (8 * x + (d - 48)) t).1, (digs n (8 * x + (d - 48)) t).2 + 1) := by simp [digs, hd]
/-- Behind n digits that tell x. -/
def Dug (r : List Nat) (n x : Nat) : Prop := n ≤ 3 ∧ n ≤ r.length ∧ x < 8 ^ n ∧ digs 3 0 r = ((digs (3 - n) x (r.drop n)).1, n + (digs (3 - n) x (r.drop n)).2)
theorem Dug.start (r : List Nat) : Dug r 0 0 := ⟨by omega, by omega, by simp, by simp⟩
theorem Dug.small {r : List Nat} {n x : Nat} (h : Dug r n x) : x ≤ 511 := by
  have h1 := h.2.2.1
  have h2 := h.1
  match n, h2 with
  | 0, _ => simp at h1; omega
  | 1, _ => simp at h1; omega
  | 2, _ => simp at h1; omega
  | 3, _ => simp at h1; omega
theorem Dug.next {r : List Nat} {n x d : Nat} (h : Dug r n x) (hn : n < 3) (hd : r[n]? = some d) (ho : octd d = true) : Dug r (n + 1) (8 * x + (d - 48)) := by
  obtain ⟨h1, h2, h3, h4⟩ := h
  have hlt := (List.getElem?_eq_some_iff.1 hd).1
  have e : r.drop n = d :: r.drop (n + 1) := by rw [List.drop_eq_getElem_cons hlt]; rw [(List.getElem?_eq_some_iff.1 hd).2]
  refine ⟨by omega, by omega, ?_, ?_⟩
  · simp only [octd, decide_eq_true_eq] at ho
    rw [Nat.pow_succ]; omega
  · rw [h4, e, show 3 - n = (3 - (n + 1)) + 1 by omega, digs_one ho]
    dsimp only
    rw [show n + ((digs (3 - (n + 1)) (8 * x + (d - 48)) (r.drop (n + 1))).2 + 1) = n + 1 + (digs (3 - (n + 1)) (8 * x + (d - 48)) (r.drop (n + 1))).2 by omega]
theorem Dug.last {r : List Nat} {n x : Nat} (h : Dug r n x) (hs : n = 3 ∨ n = r.length ∨ ∃ d, r[n]? = some d ∧ octd d = false) : digs 3 0 r = (x, n) := by
  obtain ⟨h1, h2, h3, h4⟩ := h
  rw [h4, digs_none]
  · rfl
  · rcases hs with h | h | ⟨d, hd, ho⟩
    · left; omega
    · right; left; rw [h]; simp
    · right; right
      have hlt := (List.getElem?_eq_some_iff.1 hd).1
      exact ⟨d, r.drop (n + 1), by rw [List.drop_eq_getElem_cons hlt, (List.getElem?_eq_some_iff.1 hd).2], ho⟩
theorem escape_at {l : List Nat} {k : Nat} (hk : k + 1 < l.length) (h : l[k]? = some 92) : escape l (k : Int) = ((escL (l.drop (k + 1))).1, k + 1 + (escL (l.drop (k + 1))).2, 0) := by
  unfold escape
  rw [Int.toNat_natCast, if_pos ⟨by omega, by omega, h⟩, if_neg (by omega)]
theorem escL_some {r : List Nat} {n x : Nat} (h : digs 3 0 r = (x, n)) (h0 : 0 < n) : escL r = (x % 256, n) := by
  unfold escL; rw [h]; dsimp only; rw [if_neg (by omega)]
theorem escL_zero {r : List Nat} {x : Nat} (h : digs 3 0 r = (x, 0)) {d : Nat} (hd : r[0]? = some d) : escL r = (letter d, 1) := by
  unfold escL; rw [h]; dsimp only; rw [if_pos rfl]
  cases r with
  | nil => simp at hd
  | cons a r => simp at hd; subst hd; rfl

set_option maxRecDepth 100000 in
set_option maxHeartbeats 4000000 in
theorem REscape_is (l : List Nat) (hl : ∀ c ∈ l, c < 256) (hn : l.length ≤ 281474976710656) (z : Int) (w : World) :
    Calls Try.prog 72 #[.string (str l), .int .i64 z] w (EscTo l z w) := by
  have hsz := str_len l
  by_cases h0 : 0 ≤ z
  · by_cases h1 : z < l.length
    · obtain ⟨k, rfl⟩ : ∃ k : Nat, z = (k : Int) := ⟨z.toNat, by omega⟩
      have hk : k < l.length := by omega
      have hkb : k ≤ 281474976710656 := by omega
      obtain ⟨d, hd⟩ : ∃ d, l[k]? = some d := ⟨_, List.getElem?_eq_getElem hk⟩
      obtain ⟨hks, hx⟩ := str_at hl hd
      by_cases h92 : d = 92
      · have hd' : l[k]? = some 92 := by rw [hd, h92]
        have q0 : ((d : Int) != 92) = false := by simp [h92]
        have H92 := Lib.hid h92
        clear h92
        by_cases hlast : k + 1 = l.length
        · have HE : Hid (escape l (k : Int) = (0, 0, 5)) := Lib.hid (by unfold escape; rw [Int.toNat_natCast, if_pos ⟨h0, h1, hd'⟩, if_pos hlast])
          have q : ((k : Int) + 1 == (l.length : Int)) = true := by simp; omega
          have HL := Lib.hid hlast
          clear hd hd' hlast
          go_enter Try.func72, Try.ntmps72
          go_wp2
          go_ret3
          unfold EscTo
          rw [HE.out]
          exact ⟨rfl, rfl⟩
        · have hk2 : k + 1 < l.length := by omega
          have HE := Lib.hid (escape_at hk2 hd')
          have q : ((k : Int) + 1 == (l.length : Int)) = false := by simp; omega
          have HR : Hid (∀ n, (l.drop (k + 1))[n]? = l[k + 1 + n]?) := Lib.hid fun n => by rw [List.getElem?_drop]
          have HRL : Hid ((l.drop (k + 1)).length + (k + 1) = l.length) := Lib.hid (by rw [List.length_drop]; omega)
          have HB := Lib.hid hl
          clear hd hd' hlast hl
          generalize l.drop (k + 1) = r at *
          have p1 : decide (l.length ≤ k) = false := decide_eq_false (by omega)
          have p2 : decide ((k : Int) < 0) = false := decide_eq_false (by omega)
          go_enter Try.func72, Try.ntmps72
          go_wp2
          go_loop [7, 8] (fun a b => ∃ n x : Nat, a = .int .i64 n ∧ b = .int .i64 x ∧ Hid (Dug r n x)) (fun a _ => 3 - (intOf a).toNat)
          case atStart => exact ⟨0, 0, rfl, rfl, Lib.hid (Dug.start r)⟩
          case round =>
            obtain ⟨n, x, rfl, rfl, HD⟩ := hrel
            have hx5 := HD.out.small
            have hn3 := HD.out.1
            have HE2 : Hid (∀ (m : Nat × Nat), escL r = m → escape l (k : Int) = (m.1, k + 1 + m.2, 0)) := Lib.hid fun m h => by rw [HE.out, h]
            by_cases hn2 : n < 3
            · by_cases hlt : k + 1 + n < l.length
              · obtain ⟨c, hc⟩ : ∃ c, l[k + 1 + n]? = some c := ⟨_, List.getElem?_eq_getElem hlt⟩
                obtain ⟨hks2, hx2⟩ := str_at HB.out hc
                have HRC : Hid (r[n]? = some c) := Lib.hid (by rw [HR.out]; exact hc)
                have hcb := HB.out c (List.mem_of_getElem? hc)
                clear hc
                by_cases ho : octd c = true
                · have hcr : 48 ≤ c ∧ c ≤ 55 := of_decide_eq_true ho
                  have q1 : decide ((48 : Int) ≤ (c : Int)) = true := decide_eq_true (by omega)
                  have q2 : decide ((c : Int) ≤ 55) = true := decide_eq_true (by omega)
                  have HD2 := Lib.hid (HD.out.next hn2 HRC.out ho)
                  clear ho
                  go_wp2
                  go_round
                  case rel => exact ⟨n + 1, 8 * x + (c - 48), by go_num, by go_num, HD2⟩
                  case measure => simp [intOf]; omega
                · have HL := Lib.hid (HD.out.last (.inr (.inr ⟨c, HRC.out, by simpa using ho⟩)))
                  have hcr : c < 48 ∨ 55 < c := by simp only [octd, decide_eq_true_eq] at ho; omega
                  clear ho
                  by_cases hn0 : n = 0
                  · subst hn0
                    have HZ := Lib.hid (HE2.out _ (escL_zero HL.out HRC.out))
                    have HV : Hid (letter c = if c = 110 then 10 else if c = 116 then 9 else if c = 114 then 13 else c) := Lib.hid rfl
                    rcases hcr with hcr | hcr
                    · have q1 : decide ((48 : Int) ≤ (c : Int)) = false := decide_eq_false (by omega)
                      have e1 : ((c : Int) == 110) = false := beq_eq_false_iff_ne.2 (by omega)
                      have e2 : ((c : Int) == 116) = false := beq_eq_false_iff_ne.2 (by omega)
                      have e3 : ((c : Int) == 114) = false := beq_eq_false_iff_ne.2 (by omega)
                      have HV2 : Hid (letter c = c) := Lib.hid (by rw [HV.out, if_neg (by omega), if_neg (by omega), if_neg (by omega)])
                      go_wp2
                      go_ret3
                      unfold EscTo
                      rw [HZ.out, HV2.out]
                      exact ⟨by go_num, rfl⟩
                    · have q1 : decide ((48 : Int) ≤ (c : Int)) = true := decide_eq_true (by omega)
                      have q2 : decide ((c : Int) ≤ 55) = false := decide_eq_false (by omega)
                      by_cases h110 : c = 110
                      · have e1 : ((c : Int) == 110) = true := beq_iff_eq.2 (by omega)
                        have HV2 : Hid (letter c = 10) := Lib.hid (by rw [HV.out, if_pos h110])
                        clear h110
                        go_wp2
                        go_ret3
                        unfold EscTo
                        rw [HZ.out, HV2.out]
                        exact ⟨by go_num, rfl⟩
                      · have e1 : ((c : Int) == 110) = false := beq_eq_false_iff_ne.2 (by omega)
                        by_cases h116 : c = 116
                        · have e2 : ((c : Int) == 116) = true := beq_iff_eq.2 (by omega)
                          have HV2 : Hid (letter c = 9) := Lib.hid (by rw [HV.out, if_neg h110, if_pos h116])
                          clear h110 h116
                          go_wp2
                          go_ret3
                          unfold EscTo
                          rw [HZ.out, HV2.out]
                          exact ⟨by go_num, rfl⟩
                        · have e2 : ((c : Int) == 116) = false := beq_eq_false_iff_ne.2 (by omega)
                          by_cases h114 : c = 114
                          · have e3 : ((c : Int) == 114) = true := beq_iff_eq.2 (by omega)
                            have HV2 : Hid (letter c = 13) := Lib.hid (by rw [HV.out, if_neg h110, if_neg h116, if_pos h114])
                            clear h110 h116 h114
                            go_wp2
                            go_ret3
                            unfold EscTo
                            rw [HZ.out, HV2.out]
                            exact ⟨by go_num, rfl⟩
                          · have e3 : ((c : Int) == 114) = false := beq_eq_false_iff_ne.2 (by omega)
                            have HV2 : Hid (letter c = c) := Lib.hid (by rw [HV.out, if_neg h110, if_neg h116, if_neg h114])
                            clear h110 h116 h114
                            go_wp2
                            go_ret3
                            unfold EscTo
                            rw [HZ.out, HV2.out]
                            exact ⟨by go_num, rfl⟩
                  · have hp : 0 < n := by omega
                    have HZ := Lib.hid (HE2.out _ (escL_some HL.out hp))
                    have hp1 : decide ((0 : Int) < (n : Int)) = true := decide_eq_true (by omega)
                    clear hn0
                    rcases hcr with hcr | hcr
                    · have q1 : decide ((48 : Int) ≤ (c : Int)) = false := decide_eq_false (by omega)
                      go_wp2
                      go_ret3
                      unfold EscTo
                      rw [HZ.out]
                      exact ⟨by go_num, rfl⟩
                    · have q1 : decide ((48 : Int) ≤ (c : Int)) = true := decide_eq_true (by omega)
                      have q2 : decide ((c : Int) ≤ 55) = false := decide_eq_false (by omega)
                      go_wp2
                      go_ret3
                      unfold EscTo
                      rw [HZ.out]
                      exact ⟨by go_num, rfl⟩
              · have HRR := HRL.out
                have hp : 0 < n := by omega
                have HL := Lib.hid (HD.out.last (.inr (.inl (by have := HD.out.2.1; omega))))
                have HZ := Lib.hid (HE2.out _ (escL_some HL.out hp))
                have hp1 : decide ((0 : Int) < (n : Int)) = true := decide_eq_true (by omega)
                have q1 : decide ((k : Int) + 1 + (n : Int) < (l.length : Int)) = false := decide_eq_false (by omega)
                have q3 : decide (k + 1 + n < l.length) = false := decide_eq_false (by omega)
                clear HRR
                go_wp2
                go_ret3
                unfold EscTo
                rw [HZ.out]
                exact ⟨by go_num, rfl⟩
            · have hp : 0 < n := by omega
              have hn3' : decide ((n : Int) < 3) = false := decide_eq_false (by omega)
              have HL := Lib.hid (HD.out.last (.inl (by omega)))
              have HZ := Lib.hid (HE2.out _ (escL_some HL.out hp))
              have hp1 : decide ((0 : Int) < (n : Int)) = true := decide_eq_true (by omega)
              go_wp2
              go_ret3
              unfold EscTo
              rw [HZ.out]
              exact ⟨by go_num, rfl⟩
      · have HE : Hid (escape l (k : Int) = (0, 0, 3)) := Lib.hid (by unfold escape; rw [if_neg]; rintro ⟨_, _, h⟩; rw [Int.toNat_natCast, hd] at h; injection h with h; exact h92 h)
        have q : ((d : Int) != 92) = true := by simp; omega
        clear hd h92
        go_enter Try.func72, Try.ntmps72
        go_wp2
        go_ret3
        unfold EscTo
        rw [HE.out]
        exact ⟨rfl, rfl⟩
    · have HE : Hid (escape l z = (0, 0, 3)) := Lib.hid (by unfold escape; rw [if_neg]; rintro ⟨_, h, _⟩; exact h1 h)
      have q : decide ((l.length : Int) ≤ z) = true := by simp; omega
      clear hl
      go_enter Try.func72, Try.ntmps72
      go_wp2
      go_ret3
      unfold EscTo
      rw [HE.out]
      exact ⟨rfl, rfl⟩
  · have HE : Hid (escape l z = (0, 0, 3)) := Lib.hid (by unfold escape; rw [if_neg]; rintro ⟨h, _, _⟩; exact h0 h)
    have q : decide (z < 0) = true := by simp; omega
    clear hl
    go_enter Try.func72, Try.ntmps72
    go_wp2
    go_ret3
    unfold EscTo
    rw [HE.out]
    exact ⟨rfl, rfl⟩
end Go.Proofs.Ytphmhglebeapaaa
