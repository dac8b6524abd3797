/-
  env's isName.
  Conditions: at most 9223372036854775807 bytes.
-/
import Derived.Test.YteapcahpkapbbaaEnMath
import Derived.Test.YteapcahpkapbbaaQEsc
import Derived.Test.YteapcahpkapbbaaStrLib
import Derived.Test.YteapcahpkapbbaaRet
namespace Go.Proofs.Yteapcahpkapbbaa
open Go.RowKit

set_option maxRecDepth 100000 in
set_option maxHeartbeats 4000000 in
theorem isName_is (l : List Nat) (hl : ∀ c ∈ l, c < 256) (hn : l.length ≤ 9223372036854775807) (w : World) :
    Calls Try.prog 23 #[.string (str l)] w fun e w' => e = .returned (.bool (rightN l)) ∧ Below w.heap.size w w' := by
  have hsz := str_len l
  have hbq := str_beq (l := l) (m := []) hl (by simp)
  have HL := Lib.hid hl
  clear hl
  by_cases h0 : l.length = 0
  · obtain rfl := List.length_eq_zero_iff.1 h0
    have HR : Hid (rightN [] = false) := Lib.hid (by simp [rightN])
    rw [str_nil] at *
    clear h0 hbq
    go_enter Try.func23, Try.ntmps23
    go_wp2_with fail
    go_ret
    exact ⟨ret_bool HR.out.symm, Below.refl _ _⟩
  have hne : l ≠ [] := fun e => h0 (by rw [e]; rfl)
  have he : ((str l).toList == []) = false := by
    rw [show (str []).toList = [] by rw [ByteArray.toList_eq]; rfl] at hbq
    rw [hbq]; exact decide_eq_false hne
  have he' : ((str l).toList = []) = False := eq_false fun e => by rw [e] at he; cases he
  by_cases h64 : 64 < l.length
  · have d1 : decide ((64 : Int) < (l.length : Int)) = true := decide_eq_true (by omega)
    have HR : Hid (rightN l = false) := Lib.hid (by unfold rightN; rw [decide_eq_false (by omega), Bool.false_and])
    clear h0 hne h64 hbq
    go_enter Try.func23, Try.ntmps23
    go_wp2_with fail
    go_ret
    exact ⟨ret_bool HR.out.symm, Below.refl _ _⟩
  have d1 : decide ((64 : Int) < (l.length : Int)) = false := decide_eq_false (by omega)
  have HLen : Hid (1 ≤ l.length ∧ l.length ≤ 64) := Lib.hid (by omega)
  have hl64 : l.length ≤ 64 := by omega
  clear h0 hne h64 hbq
  go_enter Try.func23, Try.ntmps23
  go_wp2_with fail
  go_loopw [] (fun wr => ∃ i : Nat, i ≤ l.length ∧ wr.heap[w.heap.size]? = some (.stringIter (str l) i) ∧ Hid (Below w.heap.size w wr ∧ ∀ c ∈ l.take i, nameB c = true)) (fun wr => l.length - wr.iterPos w.heap.size)
  case atStart => exact ⟨0, by omega, World.iter_heap w (str l) 0, Lib.hid ⟨(Below.refl _ w).alloc (Nat.le_refl _) _, by simp⟩⟩
  case round =>
    obtain ⟨i, hi, hit, HB⟩ := hrel
    have hpos : wr.iterPos w.heap.size = i := by simp [World.iterPos, hit]
    have hnil : wr.heap.size > w.heap.size := lt_of_heap hit
    by_cases hlt : i < l.length
    · obtain ⟨c, hc⟩ : ∃ c, l[i]? = some c := ⟨_, List.getElem?_eq_getElem hlt⟩
      obtain ⟨hks, hx⟩ := str_at HL.out hc
      have hcb := HL.out c (List.mem_of_getElem? hc)
      have HC := Lib.hid hc
      by_cases ha : c < 128
      · have hnx := fun ty => Lib.run_next_ascii_at (P := Try.prog) wr w.heap.size (str l) i ty hit hks (by omega)
        rw [hx] at hnx
        have hit2 := Lib.iterAt_heap wr w.heap.size (str l) i (i + 1) hit
        have HB2 := Lib.hid (Lib.below_iterAt HB.out.1 (Nat.le_refl _) (str l) (i + 1))
        have hb := HB.out.2
        generalize wr.iterAt w.heap.size (str l) (i + 1) = w2 at *
        have HN := Lib.hid (ContainsNamed_is (c : Nat) (by omega) w2)
        have hrb : runeB (c : Nat) = nameB c := by unfold runeB; rw [decide_eq_true (by omega), Bool.true_and, Int.toNat_natCast]
        rw [hrb] at HN
        have HBX := Lib.hid hb
        clear hc hb hrb
        cases hnb : nameB c with
        | true =>
          rw [hnb] at HN
          have HNB := Lib.hid hnb
          clear hnb
          go_wp2_with fail
          refine HN.out.mono ?_
          rintro e w3 ⟨rfl, hb3⟩
          have hit3 : w3.heap[w.heap.size]? = some (.stringIter (str l) (i + 1)) := (hb3.block _ (lt_of_heap hit2)).trans hit2
          have hpos3 : w3.iterPos w.heap.size = i + 1 := by simp [World.iterPos, hit3]
          have HB3 := Lib.hid (HB2.out.trans (hb3.mono HB2.out.size))
          clear hb3
          go_wp2_with fail
          go_roundw
          case rel => exact ⟨i + 1, by omega, hit3, Lib.hid ⟨HB3.out, by
            intro d hd
            rw [List.take_add_one, HC.out] at hd
            rcases List.mem_append.1 hd with hd | hd
            · exact HBX.out d hd
            · simp at hd; rw [hd]; exact HNB.out⟩⟩
          case measure => rw [hpos, hpos3]; omega
        | false =>
          rw [hnb] at HN
          have HR : Hid (rightN l = false) := Lib.hid (by unfold rightN; rw [List.all_eq_false.2 ⟨c, List.mem_of_getElem? HC.out, by rw [hnb]; simp⟩, Bool.and_false])
          clear hnb
          go_wp2_with fail
          refine HN.out.mono ?_
          rintro e w3 ⟨rfl, hb3⟩
          have HB3 := Lib.hid (HB2.out.trans (hb3.mono HB2.out.size))
          clear hb3
          go_wp2_with fail
          go_ret
          exact ⟨ret_bool HR.out.symm, HB3.out⟩
      · have hnx := fun ty => Lib.run_next_any_at (P := Try.prog) wr w.heap.size (str l) i ty hit hks
        obtain ⟨hd1, -⟩ := decode_high (str l) i hks (by omega)
        have HR : Hid (rightN l = false) := Lib.hid (by
          have hnb : nameB c = false := by unfold nameB; rw [decide_eq_false]; omega
          unfold rightN; rw [List.all_eq_false.2 ⟨c, List.mem_of_getElem? HC.out, by rw [hnb]; simp⟩, Bool.and_false])
        generalize hdec : Utf8.decode (str l) i = dec at *
        obtain ⟨r, m⟩ := dec
        dsimp only at hnx hd1
        have HB2 := Lib.hid (Lib.below_iterAt HB.out.1 (Nat.le_refl _) (str l) (i + m))
        generalize wr.iterAt w.heap.size (str l) (i + m) = w2 at *
        have HN := Lib.hid (ContainsNamed_is (r : Nat) (by omega) w2)
        have hrb : runeB (r : Nat) = false := by unfold runeB; rw [decide_eq_false (by omega), Bool.false_and]
        rw [hrb] at HN
        clear hc hrb hdec hd1
        go_wp2_with fail
        refine HN.out.mono ?_
        rintro e w3 ⟨rfl, hb3⟩
        have HB3 := Lib.hid (HB2.out.trans (hb3.mono HB2.out.size))
        clear hb3
        go_wp2_with fail
        go_ret
        exact ⟨ret_bool HR.out.symm, HB3.out⟩
    · have hnx := fun ty => Lib.run_next_end_at (P := Try.prog) wr w.heap.size (str l) i ty hit (by rw [hsz]; exact hlt)
      have hil : i = l.length := by omega
      have HR : Hid (rightN l = true) := Lib.hid (by
        have h := HB.out.2
        rw [List.take_of_length_le (by omega)] at h
        unfold rightN; rw [decide_eq_true HLen.out, List.all_eq_true.2 h]; rfl)
      clear hil
      go_wp2_with fail
      go_ret
      exact ⟨ret_bool HR.out.symm, HB.out.1⟩
end Go.Proofs.Yteapcahpkapbbaa
