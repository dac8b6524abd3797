/-
  copy(dst, src): src's elements into a row, at its front, wherever they lie; b[lo:hi] of bytes; slices.Clone of bytes.
  Conditions: elements of one cell each; src has no more elements than dst; slices.Clone of at most 17592186044416 bytes.
-/
import Derived.Test.YtkfpameaopjjnaaRowAt
import Derived.Test.YtkfpameaopjjnaaCut
import Derived.Laws.CopyOwn
import Derived.WalkKit
namespace Go.Proofs.Ytkfpameaopjjnaa
open Go.RowKit

theorem run_copy_at {P : Program} (w : World) (dT sT ty e : TypeId) (hu : P.underlying dT = some (.slice e)) (hsz : (P.info? e).map (·.size) = some 1)
    {g : Option Nat} {A B : Option Addr} {n c k d : Nat} {xs ys : List Value} (hrow : Row w e g (.slice A n c) xs) (hsrc : Rd w (.slice B k d) ys) (hle : ys.length ≤ xs.length) :
    ∃ w', (Builtin.copy_ #[dT, sT] ty #[.slice A n c, .slice B k d]).run P w = .ok (.int .i64 (ys.length : Nat)) w' ∧ Row w' e g (.slice A n c) (ys ++ xs.drop ys.length) ∧ w.grownBy w' g := by
  obtain ⟨A', c', hv, hlc, hm, h1, hg⟩ := hrow
  injection hv with e1 e2 e3
  subst e1 e2 e3
  obtain ⟨B', d', hv', hld, h1', hx'⟩ := hsrc
  injection hv' with e1 e2 e3
  subst e1 e2 e3
  rcases Nat.eq_zero_or_pos ys.length with h0 | hp
  · obtain rfl : ys = [] := List.eq_nil_of_length_eq_zero h0
    refine ⟨w, ?_, ⟨A, c, by simp, by simpa using hlc, hm, by simpa using h1, by simpa using hg⟩, World.grownBy.refl w _⟩
    exact run_copy_none (P := P) w dT sT ty e A B xs.length c 0 d hu hsz (Nat.zero_min _)
  · obtain ⟨b', o', rfl, hy'⟩ := hx' hp
    rcases hg with ⟨rfl, _⟩ | ⟨b, o, cs, hc, rfl, rfl, hb, hfit, hx⟩
    · omega
    · have hrun := run_copy_row (P := P) w dT sT ty e b o xs.length c ⟨b', o', none⟩ ys.length d cs e ys hu hsz hb (by show _ = min _ _; omega) (fun j v hj => by rw [add_eq]; exact hy' j v hj) (by omega) h1'
      refine ⟨_, by simpa [goInt] using hrun, ⟨_, c, by simp; omega, by simp; omega, hm, fun u hu => ?_, .inr ⟨b, o, _, hc, rfl, rfl, setRow_heap w b cs _ e _ hb, ?_, fun j u hj => ?_⟩⟩, ⟨rfl, rfl, rfl, by simp, fun i _ hi => setRow_other w b i _ (fun e2 => hi (by rw [e2]))⟩⟩
      · rcases List.mem_append.1 hu with hu | hu
        · exact h1' u hu
        · exact h1 u (List.mem_of_mem_drop hu)
      · simp; omega
      · have hto : (cs.toList.take o).length = o := by simp; omega
        simp only [List.getElem?_toArray]
        try rw [List.append_assoc]
        rw [List.getElem?_append_right (by omega), hto, show o + j - o = j by omega]
        by_cases hj2 : j < ys.length
        · rw [List.getElem?_append_left hj2] at hj ⊢
          exact hj
        · rw [List.getElem?_append_right (by omega)] at hj ⊢
          rw [List.getElem?_drop] at hj ⊢
          rw [Array.getElem?_toList, show o + ys.length + (j - ys.length) = o + j by omega]
          rw [show ys.length + (j - ys.length) = j by omega] at hj
          exact hx j u hj
/-- copy in the walk. -/
theorem wpList_copy_at {P : Program} {w : World} {ops : Array Oper} {rest : List Oper} {o : Oper} {a : Act} {Q : Exit → Act → World → Prop} (hgd : o.guard = none) (x y : Operand) (dT sT : TypeId)
    (ho : o.op = .call { callee := .builtin .copy, args := #[x, y], argTypes := #[dT, sT] }) (e : TypeId) (hu : P.underlying dT = some (.slice e)) (hsz : (P.info? e).map (·.size) = some 1)
    {g : Option Nat} {A B : Option Addr} {n c k d : Nat} {xs ys : List Value} (hx : a.eval x = .slice A n c) (hy : a.eval y = .slice B k d) (hrow : Row w e g (.slice A n c) xs) (hsrc : Rd w (.slice B k d) ys) (hle : ys.length ≤ xs.length)
    (h : ∀ w', Row w' e g (.slice A n c) (ys ++ xs.drop ys.length) → w.grownBy w' g → wpList P ops Q rest (a.put o.dst (.int .i64 (ys.length : Nat))) w') : wpList P ops Q (o :: rest) a w := by
  obtain ⟨w', hrun, h2, h3⟩ := run_copy_at (P := P) w dT sT o.type e hu hsz hrow hsrc hle
  refine wpList_plain hgd fun K hK => ?_
  unfold Oper.wp
  simp [execOp, ho, resolve, invoke, builtin, hx, hy, hrun, Result.andThen]
  exact hK _ _ (h w' h2 h3)

/-- b[lo:hi], under one name. -/
theorem run_part {w : World} {A : Option Addr} {n c lo k : Nat} {l : List Nat} (h : Rd w (.slice A n c) (bv l)) (ha : lo + k ≤ n) :
    ∃ A' c', (∀ W, (Instr.slice 30 (.slice A n c) (some (.int .i64 (lo : Int))) (some (.int .i64 ((lo + k : Nat) : Int))) none).run Try.prog W = .ok (.slice A' k c') W) ∧ Rd w (.slice A' k c') (bv ((l.drop lo).take k)) := by
  refine ⟨_, _, fun W => ?_, by have := (h.drop (a := lo) (by omega)).take (n := k) (by omega); rw [show ((bv l).drop lo).take k = bv ((l.drop lo).take k) by simp [bv]] at this; exact this⟩
  have hle := h.le
  obtain ⟨i0, hi0, hz0, hz1, hz2⟩ := info_parts byte_info
  have hs : (sizeOf (Try.prog.elem 30)).run Try.prog W = .ok 1 W := by
    rw [show Try.prog.elem 30 = 5 by kernel_rfl]
    simp [sizeOf, typeInfo, hi0, hz1]
  rw [run_slice_lh W 30 A n c (by kernel_rfl) .i64 .i64 (lo : Int) ((lo + k : Nat) : Int) (by omega) (by omega) (by omega), hs]
  simp only [Result.andThen, Int.toNat_natCast, sliced, Nat.mul_one, Nat.add_sub_cancel_left]

/-- make([]byte, n). -/
theorem run_make_bytes (n : Nat) (hn : n ≤ 140737488355328) (h0 : 0 < n) : ∃ M : Array Value, M.toList = bv (List.replicate n 0) ∧ (∀ W : World, (Instr.makeSlice 30 (.int .i64 (n : Int)) (.int .i64 (n : Int))).run Try.prog W = .ok (.slice (some ⟨W.heap.size, 0, none⟩) n n) (W.alloc (.cells M 5))) ∧
    ∀ W : World, Row (W.alloc (.cells M 5)) 5 (some W.heap.size) (.slice (some ⟨W.heap.size, 0, none⟩) n n) (bv (List.replicate n 0)) := by
  obtain ⟨i0, hi, hz0, hz1, hz2⟩ := info_parts byte_info
  have hM : (madeCells (Value.int .u8 0).cells (((n : Nat) : Int).toNat * i0.size)).toList = bv (List.replicate n 0) := by
    rw [hz1, Nat.mul_one, Int.toNat_natCast]
    show (madeCells #[Value.int .u8 0] n).toList = _
    rw [toList_madeCells_one]
    simp [bv]
  refine ⟨_, hM, fun W => ?_, fun W => ?_⟩
  · have h := run_make (P := Try.prog) W 30 5 i0 (.int .u8 0) Try.underlying30 hi hz0 .i64 .i64 (n : Int) (n : Int) (by omega) (by omega) (by rw [hz2]; omega) (by omega)
    simpa using h
  · have h := Row.new W 5 (madeCells (Value.int .u8 0).cells (((n : Nat) : Int).toNat * i0.size)) n (by rw [size_madeCells, hz1]; simp) (by simp only [maxLen]; omega) h0 (by rw [hM]; exact bv_one _)
    rw [hM] at h
    exact h

set_option maxRecDepth 100000 in
theorem SClone_is (A : Option Addr) (n c : Nat) (l : List Nat) (w : World) (h : Rd w (.slice A n c) (bv l)) (hn : l.length ≤ 17592186044416) :
    Calls Try.prog 25 #[.slice A n c] w (BytTo w l) := by
  obtain ⟨i0, hi0, hz0, hz1, hz2⟩ := info_parts byte_info
  have hl := h.bytes
  subst hl
  have hnil := fun W => Lib.run_eql_slice_nil (P := Try.prog) W 30 5 A l.length c 0 0 Try.underlying30
  cases A with
  | none =>
    have hl : l = [] := by
      obtain ⟨A', c', e, _, _, hr⟩ := h
      injection e with e1 e2 e3
      rcases Nat.eq_zero_or_pos l.length with h0 | h0
      · exact List.eq_nil_of_length_eq_zero h0
      · obtain ⟨b, o, e4, _⟩ := hr (by rw [bv_len]; exact h0)
        rw [← e1] at e4; cases e4
    subst hl
    simp only [List.length_nil] at hnil ⊢
    clear h
    go_enter Try.func25, Try.ntmps25
    go_wp2
    go_ret
    exact ⟨none, 0, none, rfl, Row.nil _ _, by simp, Below.refl _ _⟩
  | some a =>
    have H := Lib.hid h
    clear h
    go_enter Try.func25, Try.ntmps25
    go_wp2_with (at_builtin; refine wpList_append_row _ rfl (.tmp 5) (.tmp 6) _ rfl 5 i0 _ 1 Try.underlying30 hi0 hz0 hz1 hz2 rfl none _ [] rfl (Row.empty _ _ _) _ (bv l) rfl (H.out.alloc _) (by rw [bv_len]; simp only [maxLen, List.length_nil]; omega) (by rw [bv_len]; simp only [List.length_nil]; omega) ?_; intro B' d' w7 gn hrow' hgr hgn; simp only [bv_len, List.length_nil, Nat.zero_add, List.nil_append] at hrow' ⊢; have Y := Lib.hid (And.intro hrow' (And.intro hgr hgn)); clear hrow' hgr hgn)
    go_ret
    obtain ⟨y1, y2, y3⟩ := Y.out
    refine ⟨B', d', gn, rfl, y1, ?_, ((Below.refl _ w).alloc (Nat.le_refl _) _).grown y2 (by simp) (by simp)⟩
    intro b e
    rcases y3 with rfl | rfl
    · cases e
    · simp at e; omega
end Go.Proofs.Ytkfpameaopjjnaa
