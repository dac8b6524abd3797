/-
  The document's example, layer 2: alive answers true. What string(b) is.
  Conditions: none.
-/
import Derived.Test.YtmgmklhajapebaaGet
import Derived.Test.YtmgmklhajapebaaRPut
import Derived.Laws.BytesArg
namespace Go.Proofs.Ytmgmklhajapebaa
open Go.RowKit

/-- The string of these bytes. -/
def str (l : List Nat) : ByteArray := strOfNums (l.map fun c : Nat => (c : Int))

theorem run_str {w : World} {A : Option Addr} {n c : Nat} {l : List Nat} (h : Rd w (.slice A n c) (bv l)) : (convert 24 9 (.slice A n c)).run Try.prog w = .ok (.string (str l)) w := by
  have hn := h.bytes
  obtain ⟨A', c', e, _, _, hr⟩ := h
  injection e with e1 e2 e3
  subst e1 e3
  rcases Nat.eq_zero_or_pos n with h0 | h0
  · have hl : l = [] := List.eq_nil_of_length_eq_zero (by omega)
    subst hl
    subst h0
    cases A with
    | none => exact run_convert_bytes_nil w _ _ Try.underlying24 Try.underlying5 _ _ _ Try.underlying9
    | some a => 
      rw [run_convert_bytes_string w _ _ _ _ _ _ Try.underlying24 Try.underlying5 Try.underlying9, run_bytesToString w a 0 c [] (by simp [loadCells, loadCellsFrom])]
      rfl
  · obtain ⟨b, o, rfl, hx⟩ := hr (by rw [bv_len]; omega)
    refine run_convert_bytes_arg w _ _ Try.underlying24 Try.underlying5 b o n c (l.map fun c : Nat => (c : Int)) (by simp [hn]) (fun i hi => ?_) _ Try.underlying9
    have hi' : i < l.length := by omega
    rw [hx i (.int .u8 (l[i] : Nat)) (by rw [bv_at, List.getElem?_eq_getElem hi']; rfl)]
    simp [List.getD, hi']

theorem Get_zero (A : Option Addr) (n c : Nat) (bs : List Nat) (w : World) (hr : Rd w (.slice A n c) (bv bs)) (hb : ∀ b ∈ bs, b < 256) (hn : n ≤ 9223372036854775807) :
    Calls Try.prog 16 #[.slice A n c, .int .i64 0] w (Told w (getIn bs 0)) := Get_in A n c 0 bs w hr hb hn (Nat.zero_le _)

theorem Rd.two (w : World) (x y : Nat) : Rd (w.alloc (.cells #[.int .u8 (x : Int), .int .u8 (y : Int)] 5)) (.slice (some ⟨w.heap.size, 0, none⟩) 2 2) (bv [x, y]) :=
  (Row.new w 5 #[.int .u8 (x : Int), .int .u8 (y : Int)] 2 rfl (by simp only [maxLen]; omega) (by omega) (by simp [Value.oneCell'])).rd
theorem Rd.sole (w : World) (x : Nat) : Rd (w.alloc (.cells #[.int .u8 (x : Int)] 5)) (.slice (some ⟨w.heap.size, 0, none⟩) 1 1) (bv [x]) := Rd.byte w _

theorem enc300 : Var.enc 300 = [172, 2] := by rw [Var.enc_big (by omega), Var.enc_small (by omega)]
theorem get_a : getIn [128, 0] 0 = (0, 0, 4) := by decide
theorem get_b : getIn [128] 0 = (0, 0, 5) := by decide

theorem Put_300 (w : World) : Calls Try.prog 10 #[.int .u64 300] w (Made w [172, 2]) := by
  have h := Put_any 300 w (by omega)
  rw [enc300] at h
  exact h
theorem Get_128_0 (w : World) : Calls Try.prog 16 #[.slice (some ⟨w.heap.size, 0, none⟩) 2 2, .int .i64 0] (w.alloc (.cells #[.int .u8 128, .int .u8 0] 5)) (Told (w.alloc (.cells #[.int .u8 128, .int .u8 0] 5)) (0, 0, 4)) := by
  have h := Get_zero _ 2 2 [128, 0] _ (Rd.two w 128 0) (by decide) (by omega)
  rw [get_a] at h
  exact h
theorem Get_128 (w : World) : Calls Try.prog 16 #[.slice (some ⟨w.heap.size, 0, none⟩) 1 1, .int .i64 0] (w.alloc (.cells #[.int .u8 128] 5)) (Told (w.alloc (.cells #[.int .u8 128] 5)) (0, 0, 5)) := by
  have h := Get_zero _ 1 1 [128] _ (Rd.sole w 128) (by decide) (by omega)
  rw [get_b] at h
  exact h
theorem Rd.lit172 (w : World) : Rd (w.alloc (.cells #[.int .u8 172, .int .u8 2] 5)) (.slice (some ⟨w.heap.size, 0, none⟩) 2 2) (bv [172, 2]) := Rd.two w 172 2
theorem Zig_m1 (w : World) : Calls Try.prog 12 #[.int .i64 (-1)] w fun e w' => e = .returned (.int .u64 1) ∧ w = w' := Zig_any (-1) w (by omega) (by omega)
theorem Zig_1 (w : World) : Calls Try.prog 12 #[.int .i64 1] w fun e w' => e = .returned (.int .u64 2) ∧ w = w' := Zig_any 1 w (by omega) (by omega)

set_option maxHeartbeats 1000000 in
set_option maxRecDepth 100000 in
theorem alive_true (w : World) : Calls Try.prog 9 #[] w fun e w' => e = .returned (.bool true) ∧ Below w.heap.size w w' := by
  go_enter Try.func9, Try.ntmps9
  go_wp2_with fail
  refine (Put_300 w).mono ?_
  rintro e w1 ⟨A, c, g, rfl, hrow, hg, hb⟩
  simp only [List.length_cons, List.length_nil, Nat.zero_add, Nat.reduceAdd] at hrow ⊢
  have H1 := Lib.hid (And.intro hrow hb)
  clear hrow hb hg
  go_wp2_with fail
  refine (Get_128_0 w1).mono ?_
  rintro e w2 ⟨rfl, hw2⟩
  have H2 : Hid (Row w2 5 g (.slice A 2 c) (bv [172, 2]) ∧ Below w.heap.size w w2) := by
    subst hw2
    exact ⟨H1.out.1.alloc _, H1.out.2.alloc H1.out.2.size _⟩
  clear hw2 H1
  go_wp2_with fail
  refine (Get_128 w2).mono ?_
  rintro e w3 ⟨rfl, hw3⟩
  have H3 : Hid (Row w3 5 g (.slice A 2 c) (bv [172, 2]) ∧ Below w.heap.size w w3) := by
    subst hw3
    exact ⟨H2.out.1.alloc _, H2.out.2.alloc H2.out.2.size _⟩
  clear hw3 H2
  have s1 := run_str H3.out.1.rd
  have s2 := run_str (Rd.lit172 w3)
  go_wp2_with fail
  refine (Zig_m1 _).mono ?_
  rintro e w4 ⟨rfl, rfl⟩
  go_wp2_with fail
  refine (Zig_1 _).mono ?_
  rintro e w4 ⟨rfl, rfl⟩
  go_wp2
  go_ret
  exact ⟨rfl, H3.out.2.alloc H3.out.2.size _⟩
end Go.Proofs.Ytmgmklhajapebaa
