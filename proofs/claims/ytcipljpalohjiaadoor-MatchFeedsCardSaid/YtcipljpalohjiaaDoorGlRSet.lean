/-
  The document's all and set.
  Conditions: a text of at most 281474976710656 bytes.
-/
import Derived.Test.YtcipljpalohjiaaDoorGlTh
import Derived.Test.YtcipljpalohjiaaDoorQEsc
import Derived.StillTailTactics
import Derived.Deep.QuietTactic
import Derived.BigQuiet
namespace Go.Proofs.YtcipljpalohjiaaDoor
open Go.RowKit

/-- A thing in its block, and the block of what is told. -/
structure SetSt (w W : World) (x : Thg) : Prop where
  below : Below w.heap.size w W
  res : Blk W w.heap.size 68 (thCells noT)
  th : Blk W (w.heap.size + 1) 68 (thCells x)
section
variable {w W : World} {x : Thg}
theorem made_blk (w : World) : Blk ((w.alloc (.cells (thCells noT) 68)).alloc (.cells (thCells noT) 68)) (w.heap.size + 1) 68 (thCells noT) := by
  have b2 := Blk.new (w.alloc (.cells (thCells noT) 68)) 68 (thCells noT)
  rwa [show (w.alloc (.cells (thCells noT) 68)).heap.size = w.heap.size + 1 by simp] at b2
theorem SetSt.made (w : World) : SetSt w (((w.alloc (.cells (thCells noT) 68)).alloc (.cells (thCells noT) 68)).setRow (w.heap.size + 1) (thCells noT)) noT := by
  have b1 := Blk.new w 68 (thCells noT)
  have b2 := Blk.new (w.alloc (.cells (thCells noT) 68)) 68 (thCells noT)
  rw [show (w.alloc (.cells (thCells noT) 68)).heap.size = w.heap.size + 1 by simp] at b2
  have hb : Below w.heap.size w ((w.alloc (.cells (thCells noT) 68)).alloc (.cells (thCells noT) 68)) := ((Below.refl _ w).alloc (Nat.le_refl _) _).alloc (by simp) _
  refine ⟨⟨hb.os, hb.tape, hb.output, by have := hb.size; simp at this ⊢; omega, fun i hi => ?_⟩, ?_, ?_⟩
  · rw [setRow_other _ _ _ _ (by omega)]; exact hb.block i hi
  · exact (b1.alloc _).keep (setRow_other _ _ _ _ (by omega))
  · exact setRow_heap _ _ _ _ _ _ b2
theorem SetSt.cell (h : SetSt w W x) {c : Nat} (hc : c < 256) : W.cell? ⟨w.heap.size + 1, 1 + c, none⟩ = some (.bool (x.one c)) := by
  rw [Nat.add_comm 1 c]; exact (h.th.cell (c + 1)).trans (th_at x hc)
theorem SetSt.fz (h : SetSt w W x) (c : Nat) : W.frozen? ⟨w.heap.size + 1, 1 + c, none⟩ = false := h.th.frozen _
theorem SetSt.put (h : SetSt w W x) {c : Nat} (hc : c < 256) : SetSt w (W.setCell ⟨w.heap.size + 1, 1 + c, none⟩ (.bool true)) ⟨x.any, fun j => decide (j = c) || x.one j⟩ := by
  rw [Nat.add_comm 1 c]
  refine ⟨h.below.trans ?_, h.res.far (by simp) _, ?_⟩
  · exact ⟨rfl, rfl, rfl, by simp [World.setCell], fun i hi => Below.heap_setCell _ _ _ i (by simp; omega)⟩
  · have := h.th.set_ (c + 1) (.bool true)
    rw [th_set x hc] at this
    exact this
theorem SetSt.same (h : SetSt w W x) {y : Thg} (h1 : x.any = y.any) (h2 : ∀ c, c < 256 → x.one c = y.one c) : SetSt w W y := ⟨h.below, h.res, by rw [← th_ext h1 h2]; exact h.th⟩
/-- What stands in the thing's block is told. -/
theorem SetSt.told (h : SetSt w W x) : Blk (W.setRow w.heap.size (thCells x)) w.heap.size 68 (thCells x) ∧ Below w.heap.size w (W.setRow w.heap.size (thCells x)) :=
  ⟨setRow_heap _ _ _ _ _ _ h.res, h.below.os, h.below.tape, h.below.output, by simpa using h.below.size, fun i hi => by rw [setRow_other _ _ _ _ (by omega)]; exact h.below.block i hi⟩
end

set_option maxRecDepth 100000 in
set_option maxHeartbeats 4000000 in
theorem Rall_is (w : World) : Calls Tryd.prog 30 #[] w (fun r w' => r = .returned (.agg (thCells allT)) ∧ Below w.heap.size w w') := by
  go_enter Tryd.func30, Tryd.ntmps30
  go_wp2_with (first | (with_reducible refine step_alloc_th ?_) | (with_reducible refine step_build_no ?_) | ((with_reducible refine step_store_th (w.alloc (.cells (thCells noT) 68)).heap.size noT (thCells noT) ?_ ?_ ?_ ?_ ?_); rfl; rfl; simpa using made_blk w; exact th_size _))
  go_loopw [2] (fun v wr => ∃ k : Nat, k ≤ 256 ∧ v = .int .i64 k ∧ Hid (SetSt w wr ⟨false, fun j => decide (j < k)⟩)) (fun v _ => 256 - (intOf v).toNat)
  case atStart => exact ⟨0, by omega, rfl, Lib.hid (SetSt.same (SetSt.made w) rfl (fun c _ => by simp [noT]))⟩
  case round =>
    obtain ⟨k, hk, rfl, HS⟩ := hrel
    by_cases hlt : k < 256
    · have c0 := HS.out.cell hlt
      have f0 := HS.out.fz k
      go_wp2_with fail
      go_roundw
      case rel => exact ⟨k + 1, by omega, by go_num, Lib.hid (SetSt.same (HS.out.put hlt) rfl (fun c _ => by rw [Bool.eq_iff_iff]; simp; omega))⟩
      case measure => simp [intOf]; omega
    · obtain rfl : k = 256 := by omega
      go_wp2_with (first | ((with_reducible refine step_load_th (w.heap.size + 1) ⟨false, fun j => decide (j < 256)⟩ ?_ ?_ ?_); rfl; exact HS.out.th) | ((with_reducible refine step_store_th w.heap.size ⟨false, fun j => decide (j < 256)⟩ (thCells noT) ?_ ?_ ?_ ?_ ?_); rfl; rfl; exact HS.out.res; exact th_size _))
      refine bodyPost_ret (results_th (t := 0) (by kernel_rfl) rfl HS.out.told.1) rfl ?_
      exact ⟨congrArg (fun c => Ending.returned (Value.agg c)) (th_ext rfl (fun c hc => by simpa [allT] using hc)), HS.out.told.2⟩

theorem or_swap (x y z : Bool) : (x || (y || z)) = ((y || x) || z) := by cases x <;> cases y <;> cases z <;> rfl
theorem range_snoc (x : Bool) {a c : Nat} (h : a ≤ c) (j : Nat) : (decide (j = c) || (x || decide (a ≤ j ∧ j < c))) = (x || decide (a ≤ j ∧ j < c + 1)) := by
  cases x
  · rw [Bool.eq_iff_iff]
    simp
    omega
  · simp
theorem set_range_step {s : List Nat} {k a b : Nat} (h0 : s[k]? = some a) (h1 : s[k + 1]? = some 45) (h2 : s[k + 2]? = some b) (c : Nat) : setS (s.drop k) c = (decide (a ≤ c ∧ c ≤ b) || setS (s.drop (k + 3)) c) := by
  have l0 := (List.getElem?_eq_some_iff.1 h0).1
  have l2 := (List.getElem?_eq_some_iff.1 h2).1
  rw [List.drop_eq_getElem_cons l0, (List.getElem?_eq_some_iff.1 h0).2, setS, if_pos ⟨by rw [List.length_drop]; omega, by rw [List.getElem?_drop]; exact h1⟩, List.drop_drop]
  rw [List.getD_eq_getElem?_getD, List.getElem?_drop, show k + 1 + 1 = k + 2 by omega, h2, show k + 1 + 2 = k + 3 by omega]
  rfl
theorem set_one_step {s : List Nat} {k a : Nat} (h0 : s[k]? = some a) (h : ¬ (k + 2 < s.length ∧ s[k + 1]? = some 45)) (c : Nat) : setS (s.drop k) c = (decide (c = a) || setS (s.drop (k + 1)) c) := by
  have l0 := (List.getElem?_eq_some_iff.1 h0).1
  rw [List.drop_eq_getElem_cons l0, (List.getElem?_eq_some_iff.1 h0).2, setS, if_neg]
  rintro ⟨h1, h2⟩
  rw [List.length_drop] at h1
  rw [List.getElem?_drop] at h2
  exact h ⟨by omega, h2⟩

set_option maxRecDepth 100000 in
set_option maxHeartbeats 4000000 in
theorem Rset_is (s : List Nat) (hs : ∀ c ∈ s, c < 256) (hn : s.length ≤ 281474976710656) (w : World) :
    Calls Tryd.prog 31 #[.string (str s)] w (fun r w' => r = .returned (.agg (thCells (setT s))) ∧ Below w.heap.size w w') := by
  have hsz := str_len s
  have HL := Lib.hid hs
  clear hs
  go_enter Tryd.func31, Tryd.ntmps31
  go_wp2_with (first | (with_reducible refine step_alloc_th ?_) | (with_reducible refine step_build_no ?_) | ((with_reducible refine step_store_th (w.alloc (.cells (thCells noT) 68)).heap.size noT (thCells noT) ?_ ?_ ?_ ?_ ?_); rfl; rfl; simpa using made_blk w; exact th_size _))
  go_loopw [4] (fun v wr => ∃ (k : Nat) (f : Nat → Bool), k ≤ s.length ∧ v = .int .i64 k ∧ Hid (SetSt w wr ⟨false, f⟩) ∧ Hid (∀ c, c < 256 → setS s c = (f c || setS (s.drop k) c))) (fun v _ => s.length - (intOf v).toNat)
  case atStart => exact ⟨0, fun _ => false, by omega, rfl, Lib.hid (SetSt.made w), Lib.hid (fun c _ => by simp)⟩
  case round =>
    obtain ⟨k, f, hk, rfl, HS, HF⟩ := hrel
    by_cases hlt : k < s.length
    · obtain ⟨a, ha⟩ : ∃ a, s[k]? = some a := ⟨_, List.getElem?_eq_getElem hlt⟩
      have ha256 := HL.out a (List.mem_of_getElem? ha)
      obtain ⟨hka, hxa⟩ := str_at HL.out ha
      have HA := Lib.hid ha
      clear ha
      have e1 : ((k + 1 : Nat) : Int) = (k : Int) + 1 := by omega
      have e2 : ((k + 2 : Nat) : Int) = (k : Int) + 2 := by omega
      by_cases hr : k + 2 < s.length ∧ s[k + 1]? = some 45
      · obtain ⟨hk2, hm⟩ := hr
        obtain ⟨b, hb⟩ : ∃ b, s[k + 2]? = some b := ⟨_, List.getElem?_eq_getElem hk2⟩
        have hb256 := HL.out b (List.mem_of_getElem? hb)
        obtain ⟨hkm, hxm⟩ := str_at HL.out hm
        obtain ⟨hkb, hxb⟩ := str_at HL.out hb
        have HM := Lib.hid hm
        have HB := Lib.hid hb
        clear hm hb
        go_wp2_with fail
        go_loopw [5] (fun v wr => ∃ (c : Nat), a ≤ c ∧ (c ≤ b + 1 ∨ c = a) ∧ v = .int .i64 c ∧ Hid (SetSt w wr ⟨false, fun j => f j || decide (a ≤ j ∧ j < c)⟩)) (fun v _ => b + 1 - (intOf v).toNat)
        case atStart => exact ⟨a, by omega, .inr rfl, rfl, Lib.hid (SetSt.same HS.out rfl (fun c _ => by simp; omega))⟩
        case round =>
          obtain ⟨c, hac, hcb, rfl, HS1⟩ := hrel
          clear HS
          by_cases hcl : c ≤ b
          · have hc256 : c < 256 := by omega
            have c0 := HS1.out.cell hc256
            have f0 := HS1.out.fz c
            go_wp2_with fail
            go_roundw
            case rel => exact ⟨c + 1, by omega, .inl (by omega), by go_num, Lib.hid (SetSt.same (HS1.out.put hc256) rfl (fun j _ => range_snoc (f j) hac j))⟩
            case measure => simp [intOf]; omega
          · go_wp2_with fail
            go_roundw
            case rel =>
              refine ⟨k + 3, _, by omega, by go_num, HS1, Lib.hid (fun j hj => ?_)⟩
              rw [HF.out j hj, set_range_step HA.out HM.out HB.out j, ← Bool.or_assoc]
              congr 2
              rw [Bool.eq_iff_iff]
              simp
              omega
            case measure => simp [intOf]; omega
      · have HR := Lib.hid hr
        by_cases hk2 : k + 2 < s.length
        · obtain ⟨m, hm⟩ : ∃ m, s[k + 1]? = some m := ⟨_, List.getElem?_eq_getElem (by omega)⟩
          have hm45 : m ≠ 45 := fun e => hr ⟨hk2, by rw [hm, e]⟩
          have qm : ((m : Int) == 45) = false := by simpa using (show (m : Int) ≠ 45 by omega)
          obtain ⟨hkm, hxm⟩ := str_at HL.out hm
          clear hr hm
          have c0 := HS.out.cell ha256
          have f0 := HS.out.fz a
          go_wp2_with fail
          go_roundw
          case rel => exact ⟨k + 1, _, by omega, by go_num, Lib.hid (HS.out.put ha256), Lib.hid (fun c hc => by rw [HF.out c hc, set_one_step HA.out HR.out c, or_swap])⟩
          case measure => simp [intOf]; omega
        · clear hr
          have c0 := HS.out.cell ha256
          have f0 := HS.out.fz a
          go_wp2_with fail
          go_roundw
          case rel => exact ⟨k + 1, _, by omega, by go_num, Lib.hid (HS.out.put ha256), Lib.hid (fun c hc => by rw [HF.out c hc, set_one_step HA.out HR.out c, or_swap])⟩
          case measure => simp [intOf]; omega
    · obtain rfl : k = s.length := by omega
      go_wp2_with (first | ((with_reducible refine step_load_th (w.heap.size + 1) ⟨false, f⟩ ?_ ?_ ?_); rfl; exact HS.out.th) | ((with_reducible refine step_store_th w.heap.size ⟨false, f⟩ (thCells noT) ?_ ?_ ?_ ?_ ?_); rfl; rfl; exact HS.out.res; exact th_size _))
      refine bodyPost_ret (results_th (t := 2) (by kernel_rfl) rfl HS.out.told.1) rfl ?_
      refine ⟨congrArg (fun c => Ending.returned (Value.agg c)) (th_ext rfl (fun c hc => ?_)), HS.out.told.2⟩
      have := HF.out c hc
      rw [List.drop_of_length_le (Nat.le_refl _)] at this
      simp only [setT]
      rw [this]
      simp [setS]
end Go.Proofs.YtcipljpalohjiaaDoor
