/-
  The contracts of queue.Queue[byte]'s Peek and Take, and of slices.Clone at []byte: the first n of those that wait, in memory of their own.
  Conditions: none but that the queue was made by New, or is nil.
-/
import Derived.Test.YtfmmomdfmmoklaaDoorQb
import Derived.Lib.Hide
namespace Go.Proofs.YtfmmomdfmmoklaaDoor
open Go.RowKit

theorem qbyte_info : (Tryd.prog.info? 5).map (fun i => (i.zero, i.size, i.bytes)) = some (some (.int .u8 0), 1, 1) := by kernel_rfl

/-- A new slice of the call's own that holds xs. -/
def Own (e : TypeId) (w : World) (xs : List Value) (r : Ending) (w' : World) : Prop :=
  ∃ v g, r = .returned v ∧ Row w' e g v xs ∧ Below w.heap.size w w' ∧ ∀ b, g = some b → w.heap.size ≤ b

theorem Clone_at (a : Addr) (n c : Nat) (xs : List Value) (w : World) (h : Rd w (.slice (some a) n c) xs) (hm : xs.length ≤ 65536) :
    Calls Tryd.prog 58 #[.slice (some a) n c] w (Own 5 w xs) := by
  obtain ⟨i0, hi0, hz0, hz1, hz2⟩ := info_parts qbyte_info
  have H : Hid (Rd w (.slice (some a) n c) xs) := h
  clear h
  have hnil := fun W => Lib.run_eql_slice_nil (P := Tryd.prog) W 31 5 (some a) n c 0 0 Tryd.underlying31
  go_enter Tryd.func58, Tryd.ntmps58
  go_wp2_with (at_builtin; refine wpList_append_row _ rfl (.tmp 5) (.tmp 6) _ rfl 5 i0 _ 1 Tryd.underlying31 hi0 hz0 hz1 hz2 rfl none _ [] rfl (Row.empty _ _ _) _ xs rfl (H.out.alloc _) (by simp only [maxLen]; simp; omega) (by simp; omega) ?_; intro A' c' w' g' hrow hgr hg')
  go_ret
  refine ⟨_, g', rfl, by simpa using hrow, ((Below.refl _ w).alloc (Nat.le_refl _) _).grown hgr (by simp) (by intro k h; cases h), fun b e => ?_⟩
  rcases hg' with rfl | rfl
  · cases e
  · simp at e; omega

theorem Peek_nil (n : Int) (w : World) : Calls Tryd.prog 56 #[.pointer none, .int .i64 n] w fun e w' => e = .returned (.slice none 0 0) ∧ w = w' := by
  by_cases hn : 0 < n
  all_goals
    go_enter Tryd.func56, Tryd.ntmps56
    go_wp2_with (go_at_call 39; refine (Len_nil _).mono ?_; rintro e w' ⟨rfl, rfl⟩)
    go_ret
    exact ⟨rfl, rfl⟩

theorem Own.none_ {e : TypeId} {w : World} : Own e w [] (.returned (.slice none 0 0)) w := ⟨_, none, rfl, Row.nil w e, Below.refl _ _, fun _ h => by cases h⟩

theorem Peek_at {w : World} {q : Nat} {g : Option Nat} {room : Nat} {en : Bool} {xs : List Value} (h : QAt w q g room en xs) (hm : xs.length ≤ 65536) (n : Int) :
    Calls Tryd.prog 56 #[.pointer (some ⟨q, 0, none⟩), .int .i64 n] w (Own 5 w (xs.take n.toNat)) := by
  have hq := Lib.hid h
  obtain ⟨v, hb, hrow⟩ := h
  have hrd := hrow.rd
  obtain ⟨A, c, rfl, hle, hr⟩ := hrow
  have c0 : w.cell? ⟨q, 0, none⟩ = some (.slice A xs.length c) := hb.cell 0
  clear hb hr
  by_cases hn : n < 1
  · have e0 : n.toNat = 0 := by omega
    rw [e0, List.take_zero]
    clear e0
    have HRD := Lib.hid hrd
    clear hrd
    have hl : ¬ ((xs.length : Int) < n) := by omega
    go_enter Tryd.func56, Tryd.ntmps56
    go_wp2_with (go_at_call 39; refine (Len_at hq.out).mono ?_; rintro e w' ⟨rfl, rfl⟩)
    go_ret
    exact Own.none_
  · by_cases h0 : xs.length = 0
    · have hx : xs = [] := List.eq_nil_of_length_eq_zero h0
      subst hx
      rw [List.take_nil]
      clear h0
      have hl : (((0 : Nat) : Int) < n) := by omega
      go_enter Tryd.func56, Tryd.ntmps56
      go_wp2_with (go_at_call 39; refine (Len_at hq.out).mono ?_; rintro e w' ⟨rfl, rfl⟩)
      go_ret
      exact Own.none_
    · obtain ⟨A', c', hv, _, _, hpos⟩ := id hrd
      injection hv with e1 e2 e3
      subst e1 e3
      obtain ⟨b, o, rfl, _⟩ := hpos (by omega)
      clear hpos
      have hc : 0 < c := by omega
      by_cases hl : (xs.length : Int) < n
      · have e0 : xs.take n.toNat = xs := List.take_of_length_le (by omega)
        rw [e0]
        clear e0
        have HRD := Lib.hid hrd
        have hp : 0 < xs.length := by omega
        clear hrd h0
        go_enter Tryd.func56, Tryd.ntmps56
        go_wp2_with (first
          | (go_at_call 39; refine (Len_at hq.out).mono ?_; rintro e w' ⟨rfl, rfl⟩)
          | (go_at_call 58; refine (Clone_at _ _ _ xs _ HRD.out hm).mono ?_; rintro e w' ⟨v, gt, rfl, hrow', hbel, hfresh⟩))
        go_ret
        exact ⟨v, gt, rfl, hrow', hbel, hfresh⟩
      · obtain ⟨k, rfl⟩ := Int.eq_ofNat_of_zero_le (show 0 ≤ n by omega)
        rw [Int.toNat_natCast]
        have HRD := Lib.hid (hrd.take (n := k) (by omega))
        clear hrd
        have hk1 : 1 ≤ k := by omega
        have hk2 : k ≤ xs.length := by omega
        have hk3 : k ≤ c := by omega
        clear h0
        go_enter Tryd.func56, Tryd.ntmps56
        go_wp2_with (first
          | (go_at_call 39; refine (Len_at hq.out).mono ?_; rintro e w' ⟨rfl, rfl⟩)
          | (go_at_call 58; refine (Clone_at _ _ _ (xs.take k) _ HRD.out (by simp; omega)).mono ?_; rintro e w' ⟨v, gt, rfl, hrow', hbel, hfresh⟩))
        go_ret
        exact ⟨v, gt, rfl, hrow', hbel, hfresh⟩

theorem Take_nil (n : Int) (w : World) : Calls Tryd.prog 48 #[.pointer none, .int .i64 n] w fun e w' => e = .returned (.slice none 0 0) ∧ w = w' := by
  go_enter Tryd.func48, Tryd.ntmps48
  go_wp2
  go_ret
  exact ⟨rfl, rfl⟩

/-- What Take leaves: the first n in memory of their own, the others wait. -/
def Took (w : World) (q : Nat) (g : Option Nat) (room : Nat) (en : Bool) (ys zs : List Value) (e : Ending) (w' : World) : Prop :=
  ∃ v gt g', e = .returned v ∧ Row w' 5 gt v ys ∧ QAt w' q g' room en zs ∧ Only (fun b => b = q ∨ some b = g) w w' ∧ (∀ b, gt = some b → w.heap.size ≤ b) ∧ (g' = g ∨ g' = none)

theorem zero_byte : ∀ w, (zeroValue 5).run Tryd.prog w = .ok (.int .u8 0) w := Tryd.zeroValue5

theorem Take_at {w : World} {q : Nat} {g : Option Nat} {room : Nat} {en : Bool} {xs : List Value} (h : QAt w q g room en xs) (hm : xs.length ≤ 65536) (n : Int) :
    Calls Tryd.prog 48 #[.pointer (some ⟨q, 0, none⟩), .int .i64 n] w (Took w q g room en (xs.take n.toNat) (xs.drop n.toNat)) := by
  have hd : xs.drop n.toNat = xs.drop (xs.take n.toNat).length := by
    rw [List.length_take]
    by_cases hc : n.toNat ≤ xs.length
    · rw [Nat.min_eq_left hc]
    · rw [Nat.min_eq_right (by omega), List.drop_of_length_le (by omega), List.drop_of_length_le (Nat.le_refl _)]
  have hkl : (xs.take n.toNat).length ≤ xs.length := by simp; omega
  have HP := Lib.hid (Peek_at h hm n)
  rw [hd]
  clear hd
  generalize xs.take n.toNat = ys at *
  have H := Lib.hid h
  clear h
  go_enter Tryd.func48, Tryd.ntmps48
  go_wp2_with fail
  refine HP.out.mono ?_
  rintro e w1 ⟨v1, gt, rfl, hrow1, hbel, hfr⟩
  have h1 : QAt w1 q g room en xs := H.out.below hbel H.out.blk_lt (fun b e => H.out.row_lt e)
  have hne := h1.ne_
  have hlt := H.out.blk_lt
  have hglt : ∀ b, g = some b → b < w.heap.size := fun b e => H.out.row_lt e
  obtain ⟨v, hb, hrow⟩ := h1
  obtain ⟨A, c, rfl, hle, hmx, h1c, hg⟩ := id hrow
  obtain ⟨w2, hcl, hgr, hrow2⟩ := run_clear_row w1 31 5 (.int .u8 0) Tryd.underlying31 zero_byte rfl rfl hrow ys.length hkl
  have hb2 : Blk w2 q 100 #[.slice A xs.length c, .int .i64 room, .bool en] := hb.keep (hgr.block q hb.lt (Ne.symm hne))
  have hrow1' : Row w2 5 gt v1 ys := hrow1.keep fun b e => hgr.block b (hrow1.lt e) (fun e2 => by have := hfr b e; have := hglt b e2.symm; omega)
  obtain ⟨A1, c1, rfl⟩ := hrow1.form
  have c0 : w1.cell? ⟨q, 0, none⟩ = some (.slice A xs.length c) := hb.cell 0
  have d0 : w2.cell? ⟨q, 0, none⟩ = some (.slice A xs.length c) := hb2.cell 0
  have f0 := hb2.frozen 0
  have X : Hid (Blk w2 q 100 #[.slice A xs.length c, .int .i64 room, .bool en] ∧ Row w2 5 gt (.slice A1 ys.length c1) ys ∧ Row w2 5 (if c = ys.length then none else g) (.slice (if c = ys.length then A else A.map (·.add ys.length)) (xs.length - ys.length) (c - ys.length)) (xs.drop ys.length) ∧ w1.grownBy w2 g ∧ Below w.heap.size w w1 ∧ (∀ b, gt = some b → w.heap.size ≤ b) ∧ g ≠ some q ∧ (∀ b, g = some b → b < w.heap.size) ∧ q < w.heap.size) := ⟨hb2, hrow1', hrow2, hgr, hbel, hfr, hne, hglt, hlt⟩
  clear hb hb2 hrow1 hrow1' hrow2 hgr hbel hfr hne hglt hlt hrow h1c
  have fin : ∀ V, V = (.slice (if c = ys.length then A else A.map (·.add ys.length)) (xs.length - ys.length) (c - ys.length) : Value) → Took w q g room en ys (xs.drop ys.length) (.returned (.slice A1 ys.length c1)) (w2.setCell ⟨q, 0, none⟩ V) := by
    rintro V rfl
    obtain ⟨hb2, hrow1', hrow2, hgr, hbel, hfr, hne, hglt, hlt⟩ := X.out
    refine ⟨_, gt, if c = ys.length then none else g, rfl, hrow1'.far (p := ⟨q, 0, none⟩) ?_ _, ⟨_, hb2.set_ 0 _, hrow2.far (p := ⟨q, 0, none⟩) ?_ _⟩, ?_, hfr, ?_⟩
    · intro e; have := hfr q e; omega
    · split
      · simp
      · exact hne
    · exact ((Only.of_below hbel (Nat.le_refl _) (fun b => b = q ∨ some b = g)).grown hgr (fun k e => .inl (.inr e.symm))).setCell (p := ⟨q, 0, none⟩) (.inl (.inl rfl)) _
    · split
      · exact .inr rfl
      · exact .inl rfl
  have FIN := Lib.hid fin
  clear fin X HP H
  rcases hg with ⟨rfl, rfl⟩ | ⟨b, o, cs, hc, rfl, rfl, hrest⟩
  · obtain rfl : xs = [] := List.eq_nil_of_length_eq_zero (by omega)
    obtain rfl : ys = [] := List.eq_nil_of_length_eq_zero (by simpa using hkl)
    clear hkl hle hmx
    simp only [List.length_nil] at hcl c0 d0
    go_wp2
    go_ret
    exact FIN.out _ (by simp)
  · clear hrest
    by_cases hck : c = ys.length
    · subst hck
      go_wp2
      go_ret
      exact FIN.out _ (by simp; omega)
    · have hlc : ys.length ≤ c := by omega
      have hck' := Lib.hid hck
      have hck2 : ¬ (c = ys.length) := hck
      clear hck
      go_wp2
      go_ret
      exact FIN.out _ (by simp [hck2, add_eq])
end Go.Proofs.YtfmmomdfmmoklaaDoor
