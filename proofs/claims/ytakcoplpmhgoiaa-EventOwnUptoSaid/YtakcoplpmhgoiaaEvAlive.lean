/-
  cuecardlaw04.alive answers true.
  Conditions: none.
-/
import Derived.Test.YtakcoplpmhgoiaaEvIter
import Derived.Lib.SlBytesConst
namespace Go.Proofs.Ytakcoplpmhgoiaa
open Go.RowKit

/-- []byte("..") of a constant. -/
theorem run_const (W : World) (b : Nat) (C : Array Value) (n c : Nat) (h : b = W.heap.size) :
    (convert 23 23 (.slice (some ⟨b, 0, none⟩) n c)).run Try.prog (W.alloc (.cells C 5)) = .ok (.slice (some ⟨b, 0, none⟩) n c) (W.alloc (.cells C 5 (C.size, C.size + 1))) := by
  subst h
  exact Lib.run_convert_bytes_const (P := Try.prog) W 23 5 C n c Try.underlying23 Try.underlying5

theorem al_at {w : World} {o : Obj} {b : Nat} (h : b = w.heap.size) : (w.alloc o).heap[b]? = some o := by subst h; exact heap_alloc_new w o
theorem al_old {w : World} {o x : Obj} {b : Nat} (h : w.heap[b]? = some x) : (w.alloc o).heap[b]? = some x := (Below.heap_alloc w o b (lt_of_heap h)).trans h
theorem Rd.ofBlk {W : World} {b : Nat} {C : Array Value} {t : TypeId} {z : Nat × Nat} (h : W.heap[b]? = some (.cells C t z)) (l : List Nat) (hC : C.toList = bv l) : Rd W (.slice (some ⟨b, 0, none⟩) l.length l.length) (bv l) := by
  refine ⟨_, l.length, by rw [bv_len], by rw [bv_len]; exact Nat.le_refl _, bv_one l, fun _ => ⟨b, 0, rfl, fun j u hu => ?_⟩⟩
  rw [cell_of_row W b (0 + j) C t z h, Nat.zero_add, ← Array.getElem?_toList, hC]
  exact hu
theorem Evs.ofBlk {W : World} {b : Nat} {C : Array Value} {t : TypeId} {z : Nat × Nat} (h : W.heap[b]? = some (.cells C t z)) (l : List Ev) (hC : C.toList = evcs l) (hok : ∀ a ∈ l, EvOk (fun _ => True) W a) (hm : l.length ≤ 9223372036854775807) :
    Evs W (.slice (some ⟨b, 0, none⟩) l.length l.length) l := by
  refine ⟨hm, hok, _, l.length, rfl, Nat.le_refl _, fun _ => ⟨b, 0, rfl, trivial, fun j a ha => ?_⟩⟩
  obtain ⟨x0, x1, x2⟩ := evcs_at ha
  refine ⟨?_, ?_, ?_⟩ <;> rw [cell_of_row W b _ C t z h, ← Array.getElem?_toList, hC, Nat.zero_add]
  · exact x0
  · exact x1
  · exact x2
theorem EvOk.ofBlk {W : World} {b : Nat} {C : Array Value} {t : TypeId} {z : Nat × Nat} (h : W.heap[b]? = some (.cells C t z)) (d tm : Int) (l : List Nat) (hC : C.toList = bv l) (hb : ∀ x ∈ l, x < 256) (hm : l.length ≤ 9223372036854775807) : EvOk (fun _ => True) W ⟨d, tm, some ⟨b, 0, none⟩, l.length, l⟩ :=
  ⟨Rd.ofBlk h l hC, hm, hb, fun _ _ _ => trivial⟩

/-- The document's example. -/
def egL (N : Nat) : List Ev := [⟨0, 0, some ⟨N, 0, none⟩, 2, [97, 98]⟩, ⟨1, 0, some ⟨N + 1, 0, none⟩, 1, [120]⟩, ⟨0, 0, some ⟨N + 1 + 1, 0, none⟩, 1, [99]⟩, ⟨1, 0, some ⟨N + 1 + 1 + 1, 0, none⟩, 1, [121]⟩, ⟨0, 0, some ⟨N + 1 + 1 + 1 + 1, 0, none⟩, 1, [100]⟩]
theorem eg_pes (N : Nat) : pes (egL N) = [⟨0, 0, [97, 98]⟩, ⟨1, 0, [120]⟩, ⟨0, 0, [99]⟩, ⟨1, 0, [121]⟩, ⟨0, 0, [100]⟩] := rfl
theorem eg_mem {W : World} {N : Nat} {z0 z1 z2 z3 z4 : Nat × Nat} {C : Array Value} (h0 : W.heap[N]? = some (.cells #[.int .u8 97, .int .u8 98] 5 z0)) (h1 : W.heap[N + 1]? = some (.cells #[.int .u8 120] 5 z1)) (h2 : W.heap[N + 1 + 1]? = some (.cells #[.int .u8 99] 5 z2))
    (h3 : W.heap[N + 1 + 1 + 1]? = some (.cells #[.int .u8 121] 5 z3)) (h4 : W.heap[N + 1 + 1 + 1 + 1]? = some (.cells #[.int .u8 100] 5 z4)) (h5 : W.heap[N + 1 + 1 + 1 + 1 + 1]? = some (.cells C 25)) (hC : C.toList = evcs (egL N)) :
    Evs W (.slice (some ⟨N + 1 + 1 + 1 + 1 + 1, 0, none⟩) 5 5) (egL N) := by
  refine Evs.ofBlk h5 (egL N) hC ?_ (by simp [egL])
  intro a ha
  simp only [egL, List.mem_cons, List.not_mem_nil, or_false] at ha
  rcases ha with rfl | rfl | rfl | rfl | rfl
  · exact EvOk.ofBlk h0 0 0 [97, 98] rfl (by simp) (by simp)
  · exact EvOk.ofBlk h1 1 0 [120] rfl (by simp) (by simp)
  · exact EvOk.ofBlk h2 0 0 [99] rfl (by simp) (by simp)
  · exact EvOk.ofBlk h3 1 0 [121] rfl (by simp) (by simp)
  · exact EvOk.ofBlk h4 0 0 [100] rfl (by simp) (by simp)

set_option maxRecDepth 100000 in
set_option maxHeartbeats 1000000 in
theorem alive_true (w : World) : Calls Try.prog 9 #[] w fun e w' => e = .returned (.bool true) ∧ Below w.heap.size w w' := by
  have kc := run_const
  go_enter Try.func9, Try.ntmps9
  go_upto_region 2 with (fail)
  obtain ⟨W, hW⟩ : ∃ W, ((((((w.alloc (.cells #[.int .u8 97, .int .u8 98] 5 (2, 3))).alloc (.cells #[.int .u8 120] 5 (1, 2))).alloc (.cells #[.int .u8 99] 5 (1, 2))).alloc (.cells #[.int .u8 121] 5 (1, 2))).alloc (.cells #[.int .u8 100] 5 (1, 2))).alloc
      (.cells #[.int .i64 0, .int .i64 0, .slice (some ⟨w.heap.size, 0, none⟩) 2 2, .int .i64 1, .int .i64 0, .slice (some ⟨w.heap.size + 1, 0, none⟩) 1 1, .int .i64 0, .int .i64 0, .slice (some ⟨w.heap.size + 1 + 1, 0, none⟩) 1 1, .int .i64 1, .int .i64 0, .slice (some ⟨w.heap.size + 1 + 1 + 1, 0, none⟩) 1 1, .int .i64 0, .int .i64 0, .slice (some ⟨w.heap.size + 1 + 1 + 1 + 1, 0, none⟩) 1 1] 25)) = W := ⟨_, rfl⟩
  rw [hW]
  have hE : Evs W (.slice (some ⟨w.heap.size + 1 + 1 + 1 + 1 + 1, 0, none⟩) 5 5) (egL w.heap.size) := by
    refine eg_mem (z0 := (2, 3)) (z1 := (1, 2)) (z2 := (1, 2)) (z3 := (1, 2)) (z4 := (1, 2)) ?_ ?_ ?_ ?_ ?_ (C := #[.int .i64 0, .int .i64 0, .slice (some ⟨w.heap.size, 0, none⟩) 2 2, .int .i64 1, .int .i64 0, .slice (some ⟨w.heap.size + 1, 0, none⟩) 1 1, .int .i64 0, .int .i64 0, .slice (some ⟨w.heap.size + 1 + 1, 0, none⟩) 1 1, .int .i64 1, .int .i64 0, .slice (some ⟨w.heap.size + 1 + 1 + 1, 0, none⟩) 1 1, .int .i64 0, .int .i64 0, .slice (some ⟨w.heap.size + 1 + 1 + 1 + 1, 0, none⟩) 1 1]) ?_ rfl <;> rw [← hW]
    · exact al_old (al_old (al_old (al_old (al_old (al_at rfl)))))
    · exact al_old (al_old (al_old (al_old (al_at (by simp)))))
    · exact al_old (al_old (al_old (al_at (by simp))))
    · exact al_old (al_old (al_at (by simp)))
    · exact al_old (al_at (by simp))
    · exact al_at (by simp)
  have hbel : Below w.heap.size w W := by
    rw [← hW]
    exact (((((((Below.refl _ w).alloc (Nat.le_refl _) _).alloc (by simp) _).alloc (by simp; omega) _).alloc (by simp; omega) _).alloc (by simp; omega) _).alloc (by simp; omega) _)
  have HB := Lib.hid hbel
  have HE := Lib.hid hE
  obtain ⟨B, hB⟩ : ∃ B, w.heap.size + 1 + 1 + 1 + 1 + 1 = B := ⟨_, rfl⟩
  rw [hB] at HE ⊢
  obtain ⟨N, hN⟩ : ∃ N, w.heap.size = N := ⟨_, rfl⟩
  rw [hN] at HE
  clear hE hbel hW kc hB hN
  go_wp2_with fail
  refine (Due_any 0 _ _ _ HE.out (by rw [eg_pes]; decide)).mono ?_
  rintro e w1 ⟨rfl, hb1⟩
  have HE1 := Lib.hid (HE.out.below hb1)
  have HB1 : Hid (Below w.heap.size w w1) := HB.out.trans (hb1.mono HB.out.size)
  rw [show due 0 (pes (egL N)) = 2 from by rw [eg_pes]; decide]
  clear hb1 HB HE
  go_wp2_with fail
  refine (Due_any 1 _ _ _ HE1.out (by rw [eg_pes]; decide)).mono ?_
  rintro e w2 ⟨rfl, hb1⟩
  have HE2 := Lib.hid (HE1.out.below hb1)
  have HB2 : Hid (Below w.heap.size w w2) := HB1.out.trans (hb1.mono HB1.out.size)
  rw [show due 1 (pes (egL N)) = 3 from by rw [eg_pes]; decide]
  clear hb1 HB1 HE1
  go_wp2_with fail
  refine (Due_any 2 _ _ _ HE2.out (by rw [eg_pes]; decide)).mono ?_
  rintro e w3 ⟨rfl, hb1⟩
  have HE3 := Lib.hid (HE2.out.below hb1)
  have HB3 : Hid (Below w.heap.size w w3) := HB2.out.trans (hb1.mono HB2.out.size)
  rw [show due 2 (pes (egL N)) = 4 from by rw [eg_pes]; decide]
  clear hb1 HB2 HE2
  go_wp2_with fail
  refine (Bytes_any 0 _ _ _ HE3.out (by simp [egL]) (by simp [egL])).mono ?_
  rintro e w4 ⟨A, c, g, rfl, hrow, -, hb1⟩
  rw [show byts 0 (pes (egL N)) = [97, 98, 99, 100] from by rw [eg_pes]; decide] at hrow ⊢
  have hs := run_str hrow.rd
  rw [show str [97, 98, 99, 100] = { data := #[97, 98, 99, 100] } by decide +kernel] at hs
  have HB4 : Hid (Below w.heap.size w w4) := HB3.out.trans (hb1.mono HB3.out.size)
  clear hb1 HB3 HE3 hrow
  simp only [List.length_cons, List.length_nil, Nat.zero_add, Nat.reduceAdd] at hs ⊢
  go_wp2_with fail
  go_ret
  exact ⟨rfl, HB4.out⟩
end Go.Proofs.Ytakcoplpmhgoiaa
