/-
  oneOf (a set's bytes, by a table) and setLength.
  Conditions: a text of at most 140737488351232 bytes.
-/
import Derived.Test.YtcipljpalohjiaaDoorGlLk
namespace Go.Proofs.YtcipljpalohjiaaDoor
open Go.RowKit

theorem arr_info : (Tryd.prog.info? 66).map (fun i => (i.zero, i.size)) = some (some (.agg (.replicate 256 (.bool false))), 256) := by kernel_rfl
theorem bz_no : bz 256 (fun _ => false) = .replicate 256 (.bool false) := by
  apply Array.ext_getElem?
  intro i
  rw [Array.getElem?_replicate]
  split
  · rename_i h; exact bz_at _ h
  · exact Array.getElem?_eq_none (by rw [bz_size]; omega)
theorem alloc_arr (w : World) (old : Value) : (Instr.alloc 66 true old).run Tryd.prog w = .ok (.pointer (some ⟨w.heap.size, 0, none⟩)) (w.alloc (.cells (bz 256 fun _ => false) 66)) := by
  have hz : (zeroValue 66).run Tryd.prog w = .ok (.agg (bz 256 fun _ => false)) w := by rw [bz_no]; exact (zero_of_info arr_info).1 w
  unfold Instr.alloc
  rw [Sem.run_bind, hz]
  go_simp
theorem step_alloc_arr {ops : Array Oper} {rest : List Oper} {a : Act} {Q : Exit → Act → World → Prop} {w : World} {d : Tmp} {ty : TypeId} {pos : String} {after : Array Edge}
    (h : wpList Tryd.prog ops Q rest (a.put (some d) (.pointer (some ⟨w.heap.size, 0, none⟩))) (w.alloc (.cells (bz 256 fun _ => false) 66))) :
    wpList Tryd.prog ops Q ({ dst := some d, op := .alloc 66, type := ty, pos := pos, after := after, guard := none } :: rest) a w :=
  wpList_plain rfl fun _ hK => by
    unfold Oper.wp execOp
    simp only [Sem.run_bind, alloc_arr, Result.andThen_ok, Sem.run_pure]
    exact hK _ _ h

/-- The table so far. -/
structure OneSt (w W : World) (f : Nat → Bool) : Prop where
  below : Below w.heap.size w W
  row : Blk W w.heap.size 66 (bz 256 f)
section
variable {w W : World} {f : Nat → Bool}
theorem OneSt.cell (h : OneSt w W f) {i : Nat} (hi : i < 256) : W.cell? ⟨w.heap.size, i, none⟩ = some (.bool (f i)) := (h.row.cell i).trans (bz_at f hi)
theorem OneSt.fz (h : OneSt w W f) (i : Nat) : W.frozen? ⟨w.heap.size, i, none⟩ = false := h.row.frozen i
theorem OneSt.same (h : OneSt w W f) {f' : Nat → Bool} (hf : ∀ i, i < 256 → f i = f' i) : OneSt w W f' := ⟨h.below, by rw [← bz_ext hf]; exact h.row⟩
theorem OneSt.put (h : OneSt w W f) (i : Nat) : OneSt w (W.setCell ⟨w.heap.size, i, none⟩ (.bool true)) (fun j => decide (j = i) || f j) := by
  have h2 : OneSt w (W.setCell ⟨w.heap.size, i, none⟩ (.bool true)) (fun j => if j = i then true else f j) :=
    ⟨h.below.trans ⟨rfl, rfl, rfl, by simp [World.setCell], fun k hk => Below.heap_setCell _ _ _ k (by show k ≠ w.heap.size; omega)⟩, by rw [← bz_set]; exact h.row.set_ i _⟩
  refine h2.same fun j _ => ?_
  by_cases hj : j = i <;> simp [hj]
theorem OneSt.drewN (h : OneSt w W f) (n : Nat) : OneSt w (W.drewN n) f := ⟨⟨h.below.os, h.below.tape, h.below.output, h.below.size, h.below.block⟩, h.row⟩
theorem OneSt.new (w : World) : OneSt w (w.alloc (.cells (bz 256 fun _ => false) 66)) (fun _ => false) := ⟨(Below.refl _ w).alloc (Nat.le_refl _) _, Blk.new w _ _⟩
end

set_option maxRecDepth 100000 in
set_option maxHeartbeats 4000000 in
theorem oneOf_is (s : List Nat) (hs : ∀ c ∈ s, c < 256) (hn : s.length ≤ 140737488351232) (w : World) :
    Calls Tryd.prog 55 #[.string (str s)] w fun e w' => Made w w' (setT s) e := by
  have hsz := str_len s
  have HL := Lib.hid hs
  have hmf : ∀ (fn : Fn) (first cap : Array Value) (w : World), (Instr.makeFunc fn first cap).run Tryd.prog w = .ok (.func fn first cap) w := fun _ _ _ _ => rfl
  clear hs
  go_enter Tryd.func55, Tryd.ntmps55
  go_wp2_with (with_reducible refine step_alloc_arr ?_)
  go_loopw [4] (fun v wr => ∃ (k : Nat) (f : Nat → Bool), k ≤ s.length ∧ v = .int .i64 (k : Nat) ∧ Hid (OneSt w wr f) ∧ Hid (∀ c, c < 256 → setS s c = (f c || setS (s.drop k) c))) (fun v _ => s.length - (intOf v).toNat)
  case atStart => exact ⟨0, fun _ => false, by omega, rfl, Lib.hid (OneSt.new w), Lib.hid (fun c _ => by simp)⟩
  case round =>
    obtain ⟨k, f, hk, rfl, HS, HF⟩ := hrel
    by_cases hlt : k < s.length
    · obtain ⟨a, ha⟩ : ∃ a, s[k]? = some a := ⟨_, List.getElem?_eq_getElem hlt⟩
      have ha256 := HL.out a (List.mem_of_getElem? ha)
      obtain ⟨hka, hxa⟩ := str_at HL.out ha
      have HA := Lib.hid ha
      clear ha
      have r1 : decide ((k : Int) < (s.length : Int)) = true := decide_eq_true (by omega)
      by_cases hr : k + 2 < s.length ∧ s[k + 1]? = some 45
      · obtain ⟨hk2, hm⟩ := hr
        obtain ⟨b, hb⟩ : ∃ b, s[k + 2]? = some b := ⟨_, List.getElem?_eq_getElem hk2⟩
        have hb256 := HL.out b (List.mem_of_getElem? hb)
        obtain ⟨hkm, hxm⟩ := str_at HL.out hm
        obtain ⟨hkb, hxb⟩ := str_at HL.out hb
        have HM := Lib.hid hm
        have HB := Lib.hid hb
        clear hm hb
        have r2 : decide ((k : Int) + 2 < (s.length : Int)) = true := decide_eq_true (by omega)
        go_wp2_with fail
        go_quiet (fail)
        have HS0 := Lib.hid (HS.out.drewN nq)
        generalize World.drewN wr _ = w2 at *
        clear HS
        go_wp2_with fail
        go_loopw [7] (fun v wr => ∃ (c : Nat), a ≤ c ∧ (c ≤ b + 1 ∨ c = a) ∧ v = .int .i64 (c : Nat) ∧ Hid (OneSt w wr (fun j => f j || decide (a ≤ j ∧ j < c)))) (fun v _ => b + 1 - (intOf v).toNat)
        case atStart => exact ⟨a, by omega, .inr rfl, rfl, Lib.hid (HS0.out.same (fun c _ => by simp; omega))⟩
        case round =>
          obtain ⟨c, hac, hcb, rfl, HS1⟩ := hrel
          clear HS0
          by_cases hcl : c ≤ b
          · have hc256 : c < 256 := by omega
            have c0 := HS1.out.cell hc256
            have f0 := HS1.out.fz c
            go_wp2_with fail
            go_roundw
            case rel => exact ⟨c + 1, by omega, .inl (by omega), by go_num, Lib.hid ((HS1.out.put c).same (fun j _ => range_snoc (f j) hac j))⟩
            case measure => simp [intOf]; omega
          · go_wp2_with fail
            go_roundw
            case rel =>
              refine ⟨k + 3, _, by omega, by go_num, HS1, Lib.hid (fun j hj => ?_)⟩
              rw [HF.out j hj, set_range_step HA.out HM.out HB.out j, ← Bool.or_assoc]
              congr 2
              rw [Bool.eq_iff_iff]
              simp
              omega
            case measure => simp [intOf]; omega
      · have HR := Lib.hid hr
        have hq : (k + 2 < s.length ∧ ∃ m, s[k + 1]? = some m ∧ m ≠ 45) ∨ ¬ k + 2 < s.length := by
          by_cases hk2 : k + 2 < s.length
          · exact .inl ⟨hk2, _, List.getElem?_eq_getElem (by omega), fun e => hr ⟨hk2, by rw [List.getElem?_eq_getElem (by omega), e]⟩⟩
          · exact .inr hk2
        clear hr
        rcases hq with ⟨hk2, m, hm, hm45⟩ | hk2
        · have qm : ((m : Int) == 45) = false := by simpa using (show (m : Int) ≠ 45 by omega)
          obtain ⟨hkm, hxm⟩ := str_at HL.out hm
          clear hm hm45
          have r2 : decide ((k : Int) + 2 < (s.length : Int)) = true := decide_eq_true (by omega)
          go_wp2_with fail
          go_quiet (fail)
          have HS0 := Lib.hid (HS.out.drewN nq)
          generalize World.drewN wr _ = w2 at *
          clear HS
          go_wp2_with fail
          go_loopw [7] (fun v wr => ∃ (c : Nat), a ≤ c ∧ c ≤ a + 1 ∧ v = .int .i64 (c : Nat) ∧ Hid (OneSt w wr (fun j => f j || decide (a ≤ j ∧ j < c)))) (fun v _ => a + 1 - (intOf v).toNat)
          case atStart => exact ⟨a, by omega, by omega, rfl, Lib.hid (HS0.out.same (fun c _ => by simp; omega))⟩
          case round =>
            obtain ⟨c, hac, hcb, rfl, HS1⟩ := hrel
            clear HS0
            by_cases hcl : c ≤ a
            · have hc256 : c < 256 := by omega
              have c0 := HS1.out.cell hc256
              have f0 := HS1.out.fz c
              go_wp2_with fail
              go_roundw
              case rel => exact ⟨c + 1, by omega, by omega, by go_num, Lib.hid ((HS1.out.put c).same (fun j _ => range_snoc (f j) hac j))⟩
              case measure => simp [intOf]; omega
            · go_wp2_with fail
              go_roundw
              case rel =>
                refine ⟨k + 1, _, by omega, by go_num, HS1, Lib.hid (fun j hj => ?_)⟩
                rw [HF.out j hj, set_one_step HA.out HR.out j, ← Bool.or_assoc]
                congr 2
                rw [Bool.eq_iff_iff]
                simp
                omega
              case measure => simp [intOf]; omega
        · have r2 : decide ((k : Int) + 2 < (s.length : Int)) = false := decide_eq_false (by omega)
          go_wp2_with fail
          go_quiet (fail)
          have HS0 := Lib.hid (HS.out.drewN nq)
          generalize World.drewN wr _ = w2 at *
          clear HS
          go_wp2_with fail
          go_loopw [7] (fun v wr => ∃ (c : Nat), a ≤ c ∧ c ≤ a + 1 ∧ v = .int .i64 (c : Nat) ∧ Hid (OneSt w wr (fun j => f j || decide (a ≤ j ∧ j < c)))) (fun v _ => a + 1 - (intOf v).toNat)
          case atStart => exact ⟨a, by omega, by omega, rfl, Lib.hid (HS0.out.same (fun c _ => by simp; omega))⟩
          case round =>
            obtain ⟨c, hac, hcb, rfl, HS1⟩ := hrel
            clear HS0
            by_cases hcl : c ≤ a
            · have hc256 : c < 256 := by omega
              have c0 := HS1.out.cell hc256
              have f0 := HS1.out.fz c
              go_wp2_with fail
              go_roundw
              case rel => exact ⟨c + 1, by omega, by omega, by go_num, Lib.hid ((HS1.out.put c).same (fun j _ => range_snoc (f j) hac j))⟩
              case measure => simp [intOf]; omega
            · go_wp2_with fail
              go_roundw
              case rel =>
                refine ⟨k + 1, _, by omega, by go_num, HS1, Lib.hid (fun j hj => ?_)⟩
                rw [HF.out j hj, set_one_step HA.out HR.out j, ← Bool.or_assoc]
                congr 2
                rw [Bool.eq_iff_iff]
                simp
                omega
              case measure => simp [intOf]; omega
    · obtain rfl : k = s.length := by omega
      have HM : Hid (Made w wr (setT s) (.returned (.func (.func 62) #[] #[.pointer (some ⟨w.heap.size, 0, none⟩)]))) := Lib.hid
        ⟨_, rfl, ⟨rfl, .inr (.inr ⟨_, rfl, by
          have := (HS.out.same (f' := (setT s).one) fun c hc => by
            have h2 := HF.out c hc
            rw [List.drop_of_length_le (Nat.le_refl _)] at h2
            simp only [setT]
            rw [h2]
            simp [setS]).row
          exact this⟩)⟩, HS.out.below⟩
      go_wp2_with fail
      go_ret
      exact HM.out

/-- How many bytes stand ahead of the ] that ends a set. -/
def setLenP (r : List Nat) : Nat := if setLen r < r.length then setLen r else 0
theorem setLenP_pos {r : List Nat} (h : setLen r < r.length) : setLenP r = setLen r := if_pos h
theorem setLenP_zero {r : List Nat} (h : ¬ setLen r < r.length) : setLenP r = 0 := if_neg h
theorem setLenP_idx {r : List Nat} (h : r ≠ []) : idxS (r.drop 1) 93 + 1 = (setLenP r : Int) := by
  cases r with
  | nil => exact absurd rfl h
  | cons a r =>
    rw [List.drop_succ_cons, List.drop_zero]
    unfold idxS setLenP setLen
    rw [List.drop_succ_cons, List.drop_zero, List.length_cons]
    have key : ∀ r : List Nat, ((93 ∈ r) ↔ (r.takeWhile fun d => decide (d ≠ 93)).length < r.length) := by
      intro r
      induction r with
      | nil => simp
      | cons b r ih =>
        by_cases hb : b = 93
        · subst hb; simp
        · have hb' : (93 : Nat) ≠ b := fun e => hb e.symm
          rw [List.mem_cons, List.takeWhile_cons]
          simp only [hb', false_or]
          rw [ih]
          simp [hb]
    by_cases hm : 93 ∈ r
    · rw [if_pos hm, if_pos (by have := (key r).1 hm; omega)]
      omega
    · rw [if_neg hm, if_neg (fun h => hm ((key r).2 (by omega)))]
      rfl
set_option maxRecDepth 100000 in
set_option maxHeartbeats 1000000 in
theorem setLength_is (s : List Nat) (hs : ∀ c ∈ s, c < 256) (hn : s.length ≤ 140737488351232) (w : World) :
    Calls Tryd.prog 54 #[.string (str s)] w fun e w' => e = .returned (.int .i64 (setLenP s : Nat)) ∧ w = w' := by
  by_cases h0 : s = []
  · subst h0
    have e1 : str [] = ⟨#[]⟩ := rfl
    rw [e1]
    go_enter Tryd.func54, Tryd.ntmps54
    go_wp2
    go_ret
    exact ⟨rfl, rfl⟩
  · have hp := List.length_pos_iff.2 h0
    have hsz := str_len s
    have q : ((str s).toList == (⟨#[]⟩ : ByteArray).toList) = false := by
      have := str_beq (m := []) hs (by simp)
      rw [decide_eq_false h0] at this
      exact this
    have q2 : (str s).toList.isEmpty = false := by
      rw [ByteArray.toList_eq, List.isEmpty_eq_false_iff]
      unfold str
      rw [strOfNums_data]
      simpa using h0
    have hrun := fun W => run_from_str s 1 (by omega) W
    rw [show (((1 : Nat) : Int)) = 1 from rfl] at hrun
    have HI := Lib.hid (IndexByteS_is (s.drop 1) (fun c hc => hs c (List.mem_of_mem_drop hc)) 93 (by omega) w)
    have HE := Lib.hid (setLenP_idx h0)
    have hge := idx_ge (s.drop 1) 93
    have hle : setLenP s ≤ s.length := by unfold setLenP; split <;> omega
    generalize idxS (s.drop 1) 93 = z at *
    generalize str (s.drop 1) = sr at *
    have hz : z ≤ 140737488351232 := by have := HE.out; omega
    clear hs hp h0
    go_enter Tryd.func54, Tryd.ntmps54
    go_wp2_with fail
    refine HI.out.mono ?_
    rintro e w1 ⟨rfl, rfl⟩
    go_wp2_with fail
    go_ret
    exact ⟨by rw [← HE.out]; rfl, rfl⟩
end Go.Proofs.YtcipljpalohjiaaDoor
