/-
  The document's Quote.
  Conditions: at most 35184372088000 bytes.
-/
import Derived.Test.YtfpemegagangeaaQEsc
import Derived.Test.YtfpemegagangeaaRowAt
namespace Go.Proofs.Ytfpemegagangeaa
open Go.RowKit

theorem qb_next {b : List Nat} {k c : Nat} (h : b[k]? = some c) : (b.take (k + 1)).flatMap qb = (b.take k).flatMap qb ++ qb c := by
  have hk := (List.getElem?_eq_some_iff.1 h).1
  rw [List.take_succ_eq_append_getElem hk, (List.getElem?_eq_some_iff.1 h).2, List.flatMap_append]
  simp
theorem qb_take_len (b : List Nat) (k : Nat) : ((b.take k).flatMap qb).length ≤ 4 * b.length := by
  have := (flat_len (b.take k)).2
  have := List.length_take_le' k b
  omega
/-- What Quote tells. -/
def QuoTo (w : World) (b : List Nat) (e : Ending) (w' : World) : Prop := e = .returned (.string (str (quoteL b))) ∧ Below w.heap.size w w'

set_option maxRecDepth 100000 in
set_option maxHeartbeats 2000000 in
theorem RQuote_is (A : Option Addr) (n c : Nat) (b : List Nat) (w : World) (h : Rd w (.slice A n c) (bv b)) (hb : ∀ x ∈ b, x < 256) (hn : b.length ≤ 35184372088000) :
    Calls Try.prog 15 #[.slice A n c] w (QuoTo w b) := by
  obtain rfl := h.bytes
  have HE := Lib.hid h
  have HB := Lib.hid hb
  have HL := Lib.hid (qb_take_len b)
  have s0 : str ([34] ++ (b.take 0).flatMap qb) = ⟨#[34]⟩ := by simp; rfl
  clear h hb
  go_enter Try.func15, Try.ntmps15
  go_wp2
  go_loopw [3, 4] (fun s i wr => ∃ k : Nat, k ≤ b.length ∧ i = .int .i64 k ∧ s = .string (str ([34] ++ (b.take k).flatMap qb)) ∧ Hid (Below w.heap.size w wr)) (fun _ i _ => b.length - (intOf i).toNat)
  case atStart => exact ⟨0, by omega, rfl, by rw [s0], Lib.hid (Below.refl _ _)⟩
  case round =>
    obtain ⟨k, hk, rfl, rfl, HW⟩ := hrel
    by_cases hlt : k < b.length
    · obtain ⟨p, o, d, rfl, hc, hd⟩ := (HE.out.kept HW.out).byteAt hlt
      have hd6 := HB.out d (List.mem_of_getElem? hd)
      have HN := qb_next hd
      have hl1 := HL.out k
      have HC := Lib.hid (RPlain_is d hd6)
      clear hd
      obtain ⟨Z, hZ⟩ : ∃ Z, Z = [34] ++ (b.take k).flatMap qb := ⟨_, rfl⟩
      obtain ⟨Z', hZ'⟩ : ∃ Z', Z' = [34] ++ (b.take (k + 1)).flatMap qb := ⟨_, rfl⟩
      have HQ : Hid (Z' = Z ++ qb d) := Lib.hid (by rw [hZ, hZ', HN, List.append_assoc])
      have HZ' := Lib.hid hZ'
      have hlz : Z.length ≤ 140737488352001 := by rw [hZ, List.length_append, List.length_singleton]; omega
      rw [← hZ]
      clear hZ hZ' HN hl1
      go_wp2_with fail
      refine (HC.out _).mono ?_
      rintro e w1 ⟨rfl, rfl⟩
      by_cases hp : plain d = true
      · have q := run_str_new wr #[.int .u8 (d : Nat)] [d] 1 rfl rfl
        have hcat := str_app Z [d]
        have hz : (str Z).size + (str [d]).size ≤ 9223372036854775807 := by rw [str_len, str_len]; simp; omega
        have HQ2 : Hid (Z' = Z ++ [d]) := Lib.hid (by rw [HQ.out, qb, if_pos hp])
        rw [← HQ2.out] at hcat
        go_wp2
        go_roundw
        case rel => exact ⟨k + 1, by omega, by go_num, by rw [← HZ'.out], Lib.hid (HW.out.alloc HW.out.size _)⟩
        case measure => simp [intOf]; omega
      · have hp2 : plain d = false := by simpa using hp
        clear hp
        have HQ2 : Hid (Z' = Z ++ octs d) := Lib.hid (by rw [HQ.out, qb, if_neg (by simp [hp2])])
        have hcat := str_app Z (octs d)
        have hz : (str Z).size + (str (octs d)).size ≤ 9223372036854775807 := by rw [str_len, str_len, octs_len]; omega
        rw [← HQ2.out] at hcat
        have HO := Lib.hid (ROctal_is d hd6)
        generalize octs d = od at *
        go_wp2_with fail
        refine (HO.out _).mono ?_
        rintro e w2 ⟨rfl, hb2⟩
        have HW2 := Lib.hid (HW.out.trans (hb2.mono HW.out.size))
        clear hb2
        go_wp2
        go_roundw
        case rel => exact ⟨k + 1, by omega, by go_num, by rw [← HZ'.out], HW2⟩
        case measure => simp [intOf]; omega
    · obtain rfl : k = b.length := by omega
      have hl1 := HL.out b.length
      rw [List.take_length] at hl1 ⊢
      obtain ⟨Z, hZ⟩ : ∃ Z, Z = [34] ++ b.flatMap qb := ⟨_, rfl⟩
      have HQ : Hid (quoteL b = Z ++ [34]) := Lib.hid (by rw [hZ]; rfl)
      have hcat : str Z ++ ⟨#[34]⟩ = str (Z ++ [34]) := str_app Z [34]
      have hz : (str Z).size + 1 ≤ 9223372036854775807 := by rw [str_len, hZ, List.length_append, List.length_singleton]; omega
      rw [← HQ.out] at hcat
      rw [← hZ]
      clear hZ hl1
      go_wp2
      go_ret
      exact ⟨rfl, HW.out⟩
end Go.Proofs.Ytfpemegagangeaa
