/-
  cuecardlaw01.QueueOnce answers true for every number and every list of acts.
  Conditions: none.
-/
import Derived.Test.YtdlcilhgpnlhjaaIter
import Derived.Test.YtdlcilhgpnlhjaaActs
namespace Go.Proofs.Ytdlcilhgpnlhjaa
open Go.RowKit

theorem New_int {B : Nat} (n : Int) (w : World) (hB : B ≤ w.heap.size) (h1 : 1 ≤ n) (h2 : n ≤ 65536) :
    Calls Try.prog 11 #[.int .i64 n] w fun e w' => e = .returned (.tuple #[.pointer (some ⟨w.heap.size, 0, none⟩), .int .i64 0]) ∧ QOwn B w' w.heap.size n.toNat false [] ∧ Below w.heap.size w w' := by
  obtain ⟨k, rfl⟩ := Int.eq_ofNat_of_zero_le (show 0 ≤ n by omega)
  exact New_own k w hB (by omega) (by omega)

/-- The queue and the two lists, each in memory of its own. -/
structure OnceS (w0 W : World) (q room : Nat) (v7 v8 : Value) (g gi go : Option Nat) (ins outs xs : List Int) : Prop where
  que : QAt W q g room false (iv xs)
  i : Row W 3 gi v7 (iv ins)
  o : Row W 3 go v8 (iv outs)
  d1 : ∀ b, g = some b → gi ≠ some b
  d2 : ∀ b, g = some b → go ≠ some b
  d3 : ∀ b, gi = some b → go ≠ some b
  b0 : w0.heap.size ≤ q
  b1 : ∀ b, g = some b → w0.heap.size ≤ b
  b2 : ∀ b, gi = some b → w0.heap.size ≤ b
  b3 : ∀ b, go = some b → w0.heap.size ≤ b
  below : Below w0.heap.size w0 W

section
variable {w0 W W' : World} {q room : Nat} {v7 v8 v' : Value} {g g' gi go gn : Option Nat} {ins outs xs xs' : List Int}

theorem OnceS.blk {w : World} {q : Nat} {g : Option Nat} {room : Nat} {en : Bool} {xs : List Value} (h : QAt w q g room en xs) : ∃ cs, Blk w q 58 cs := by
  obtain ⟨v, hb, _⟩ := h; exact ⟨_, hb⟩

theorem OnceS.alloc (h : OnceS w0 W q room v7 v8 g gi go ins outs xs) (o : Obj) : OnceS w0 (W.alloc o) q room v7 v8 g gi go ins outs xs :=
  ⟨h.que.alloc o, h.i.alloc o, h.o.alloc o, h.d1, h.d2, h.d3, h.b0, h.b1, h.b2, h.b3, h.below.alloc h.below.size o⟩

theorem OnceS.keep (h : OnceS w0 W q room v7 v8 g gi go ins outs xs) (hb : Below W.heap.size W W') : OnceS w0 W' q room v7 v8 g gi go ins outs xs :=
  ⟨h.que.below hb h.que.blk_lt (fun _ e => h.que.row_lt e), h.i.below hb (fun _ e => h.i.lt e), h.o.below hb (fun _ e => h.o.lt e), h.d1, h.d2, h.d3, h.b0, h.b1, h.b2, h.b3, h.below.trans (hb.mono h.below.size)⟩
theorem OnceS.start (h : QOwn w0.heap.size W q room false []) (hb : Below w0.heap.size w0 W) : ∃ g, OnceS w0 W q room (.slice none 0 0) (.slice none 0 0) g none none [] [] [] := by
  obtain ⟨g, h1, h2, h3⟩ := h
  exact ⟨g, h1, Row.nil W _, Row.nil W _, by simp, by simp, by simp, h2, h3, by simp, by simp, hb⟩

/-- Behind what turns the queue alone. -/
theorem OnceS.turn (h : OnceS w0 W q room v7 v8 g gi go ins outs xs) (hq : QAt W' q g' room false (iv xs')) (ho : Only (fun b => b = q ∨ some b = g) W W') (hg : g' = g ∨ g' = none ∨ ∃ b, g' = some b ∧ W.heap.size ≤ b) :
    OnceS w0 W' q room v7 v8 g' gi go ins outs xs' := by
  obtain ⟨cs, hb⟩ := OnceS.blk h.que
  have hni : gi ≠ some q := h.i.ne_ hb (by decide)
  have hno : go ≠ some q := h.o.ne_ hb (by decide)
  refine ⟨hq, h.i.only ho ?_, h.o.only ho ?_, ?_, ?_, h.d3, h.b0, ?_, h.b2, h.b3, ho.more' h.below ?_⟩
  · rintro b e (rfl | e')
    · exact hni e
    · exact h.d1 b e'.symm e
  · rintro b e (rfl | e')
    · exact hno e
    · exact h.d2 b e'.symm e
  · rcases hg with rfl | rfl | ⟨b, rfl, hb'⟩
    · exact h.d1
    · intro b e; cases e
    · intro b' e e2; cases e; have := h.i.lt e2; omega
  · rcases hg with rfl | rfl | ⟨b, rfl, hb'⟩
    · exact h.d2
    · intro b e; cases e
    · intro b' e e2; cases e; have := h.o.lt e2; omega
  · rcases hg with rfl | rfl | ⟨b, rfl, hb'⟩
    · exact h.b1
    · intro b e; cases e
    · intro b' e; cases e; have := h.below.size; omega
  · rintro i hi (rfl | e)
    · have := h.b0; omega
    · have := h.b1 i e.symm; omega

/-- Behind an append to the first list. -/
theorem OnceS.appI {ins' : List Int} (h : OnceS w0 W q room v7 v8 g gi go ins outs xs) (hr : Row W' 3 gn v' (iv ins')) (hgr : W.grownBy W' gi) (hg : gn = gi ∨ gn = some W.heap.size) :
    OnceS w0 W' q room v' v8 g gn go ins' outs xs := by
  obtain ⟨cs, hb⟩ := OnceS.blk h.que
  have hni : gi ≠ some q := h.i.ne_ hb (by decide)
  have ho : Only (fun b => some b = gi) W W' := (Only.refl _ W).grown hgr (fun k e => .inl e.symm)
  refine ⟨h.que.only ho (fun e => hni e.symm) (fun b e e' => h.d1 b e e'.symm), hr, h.o.only ho (fun b e e' => h.d3 b e'.symm e), ?_, h.d2, ?_, h.b0, h.b1, ?_, h.b3, ho.more' h.below ?_⟩
  · rcases hg with rfl | rfl
    · exact h.d1
    · intro b e e2; cases e2; have := h.que.row_lt e; omega
  · rcases hg with rfl | rfl
    · exact h.d3
    · intro b e e2; cases e; have := h.o.lt e2; omega
  · rcases hg with rfl | rfl
    · exact h.b2
    · intro b e; cases e; exact h.below.size
  · intro i hi e; have := h.b2 i e.symm; omega

/-- Behind an append to the second list. -/
theorem OnceS.appO {outs' : List Int} (h : OnceS w0 W q room v7 v8 g gi go ins outs xs) (hr : Row W' 3 gn v' (iv outs')) (hgr : W.grownBy W' go) (hg : gn = go ∨ gn = some W.heap.size) :
    OnceS w0 W' q room v7 v' g gi gn ins outs' xs := by
  obtain ⟨cs, hb⟩ := OnceS.blk h.que
  have hni : go ≠ some q := h.o.ne_ hb (by decide)
  have ho : Only (fun b => some b = go) W W' := (Only.refl _ W).grown hgr (fun k e => .inl e.symm)
  refine ⟨h.que.only ho (fun e => hni e.symm) (fun b e e' => h.d2 b e e'.symm), h.i.only ho (fun b e e' => h.d3 b e e'.symm), hr, h.d1, ?_, ?_, h.b0, h.b1, h.b2, ?_, ho.more' h.below ?_⟩
  · rcases hg with rfl | rfl
    · exact h.d2
    · intro b e e2; cases e2; have := h.que.row_lt e; omega
  · rcases hg with rfl | rfl
    · exact h.d3
    · intro b e e2; cases e2; have := h.i.lt e; omega
  · rcases hg with rfl | rfl
    · exact h.b3
    · intro b e; cases e; exact h.below.size
  · intro i hi e; have := h.b3 i e.symm; omega
end

set_option maxHeartbeats 4000000 in
set_option maxRecDepth 100000 in
theorem once_true (room : Int) (hr0 : room ≤ 9223372036854775807) (v : Value) (l : List ActV) (w : World) (h : Acts w v l) :
    Calls Try.prog 5 #[.int .i64 room, v] w fun e w' => e = .returned (.bool true) ∧ Below w.heap.size w w' := by
  have HA := Lib.hid h
  obtain ⟨i0, hi0, hz0, hz1, hz2⟩ := info_parts int_info
  obtain ⟨hm, A, c, rfl, -⟩ := h
  by_cases hgt : isGreat l = true
  · have HG := Lib.hid hgt
    clear hgt
    go_enter Try.func5, Try.ntmps5
    go_wp2_with fail
    refine (alive_true w).mono ?_
    rintro e w1 ⟨rfl, hb1⟩
    have B1 := Lib.hid hb1
    clear hb1
    go_wp2_with fail
    refine (great_any _ l w1 (HA.out.below B1.out)).mono ?_
    rintro e w2 ⟨rfl, hb2⟩
    have B2 : Hid (Below w.heap.size w w2) := B1.out.trans (hb2.mono B1.out.size)
    clear hb2 B1
    rw [HG.out]
    go_wp2_with fail
    refine (alive_true w2).mono ?_
    rintro e w3 ⟨rfl, hb3⟩
    have B3 : Hid (Below w.heap.size w w3) := B2.out.trans (hb3.mono B2.out.size)
    clear hb3 B2
    go_wp2
    go_ret
    exact ⟨rfl, B3.out⟩
  · have hgf : isGreat l = false := by simpa using hgt
    have HG := Lib.hid hgf
    clear hgt hgf
    have hl80 : l.length ≤ 80 := by
      have := HG.out
      simp only [isGreat, Bool.or_eq_false_iff, decide_eq_false_iff_not] at this
      omega
    have hz80 : Hid (∀ a ∈ l, a.zs.length ≤ 80) := fun a ha => by
      have := HG.out
      simp only [isGreat, Bool.or_eq_false_iff, List.any_eq_false] at this
      have := this.2 a ha
      simp at this
      omega
    by_cases hrp : 0 < room
    all_goals
      go_enter Try.func5, Try.ntmps5
      go_wp2_with fail
      refine (alive_true w).mono ?_
      rintro e w1 ⟨rfl, hb1⟩
      have B1 := Lib.hid hb1
      clear hb1
      go_wp2_with fail
      refine (great_any _ l w1 (HA.out.below B1.out)).mono ?_
      rintro e w2 ⟨rfl, hb2⟩
      have B2 : Hid (Below w.heap.size w w2) := B1.out.trans (hb2.mono B1.out.size)
      clear hb2 B1
      rw [HG.out]
      go_wp2_with fail
      refine (New_int (B := w.heap.size) _ w2 B2.out.size (by omega) (by omega)).mono ?_
      rintro e w3 ⟨rfl, hq3, hb3⟩
      obtain ⟨rm, hrm1, hrm2, hq3'⟩ : ∃ rm : Nat, 1 ≤ rm ∧ rm ≤ 40 ∧ QOwn w.heap.size w3 w2.heap.size rm false [] := ⟨_, by omega, by omega, hq3⟩
      have B3 : Hid (QOwn w.heap.size w3 w2.heap.size rm false [] ∧ Below w.heap.size w w3) := ⟨hq3', B2.out.trans (hb3.mono B2.out.size)⟩
      clear hq3 hq3' hb3 B2
      generalize w2.heap.size = q at *
      go_wp2_with fail
      go_loopw [7, 8, 35] (fun v7 v8 i wr => ∃ (k : Nat) (g gi go : Option Nat) (ins outs xs : List Int), k ≤ l.length ∧ i = .int .i64 k ∧ Hid (OnceS w wr q rm v7 v8 g gi go ins outs xs ∧ ins = outs ++ xs ∧ xs.length ≤ rm ∧ ins.length ≤ 80 * k)) (fun _ _ i _ => l.length - (intOf i).toNat)
      case atStart =>
        obtain ⟨g, hS⟩ := OnceS.start B3.out.1 B3.out.2
        exact ⟨0, g, none, none, [], [], [], Nat.zero_le _, rfl, hS, rfl, by simp, by simp⟩
      case round =>
        obtain ⟨k, g, gi, go, ins, outs, xs, hk, rfl, HS⟩ := hrel
        by_cases hlt : k < l.length
        · obtain ⟨a, ha⟩ : ∃ a, l[k]? = some a := ⟨_, List.getElem?_eq_getElem hlt⟩
          have hza := hz80.out a (List.mem_of_getElem? ha)
          obtain ⟨_, A', c', e', hacts⟩ := HA.out
          injection e' with e1 _ e3
          subst e1 e3
          obtain ⟨b, o, rfl, hx⟩ := hacts (by omega)
          clear hacts
          have HAT := Lib.hid (hx k a ha)
          have hat := HAT.out.below HS.out.1.below
          have k0 := hat.kind
          have k1 := hat.num
          have k2 := hat.list
          clear hat hx ha
          obtain ⟨A7, c7, rfl⟩ := HS.out.1.i.form
          obtain ⟨A8, c8, rfl⟩ := HS.out.1.o.form
          rw [List.length_map] at HS ⊢
          rw [List.length_map] at HS ⊢
          obtain ⟨kd, nm, AA, cc, zs⟩ := a
          simp only at k0 k1 k2 hza
          have hqlt := HS.out.1.que.blk_lt
          have hglt : Hid (∀ b, g = some b → b < wr.heap.size) := fun b e => HS.out.1.que.row_lt e
          by_cases hk0 : kd = 0
          · subst hk0
            cases AA
            all_goals
              go_wp2_with fail
              refine (Put_at (HS.out.1.que.alloc _) (by omega) (by rw [List.length_map]; exact HS.out.2.2.1) ((HAT.out.below HS.out.1.below).rd.alloc _) HAT.out.max).mono ?_
              rintro e w4 ⟨g', rfl, hq4, ho4, hg4⟩
              have hkz : putN rm false (iv xs).length zs.length ≤ zs.length := Nat.min_le_left _ _
              have hkr : putN rm false (iv xs).length zs.length ≤ rm - xs.length := by
                have := Nat.min_le_right zs.length (if false = true then 0 else rm - (iv xs).length)
                simpa [putN] using this
              generalize putN rm false (iv xs).length zs.length = kp at *
              rw [← List.map_take, ← List.map_append] at hq4
              have S4 := (HS.out.1.alloc _).turn hq4 ho4 (hg4.imp id .inr)
              have hb4 := (Blk.new wr 34 _).only ho4 (by
                rintro (e | e)
                · omega
                · have := hglt.out _ e.symm; omega)
              have k2 := hb4.cell 2
              have hkc : kp ≤ cc := Nat.le_trans hkz (HAT.out.rd.le)
              have hrd4 := (HAT.out.below S4.below).rd.take hkz
              rw [← List.map_take] at hrd4
              obtain ⟨ys, hys⟩ : ∃ ys, zs.take kp = ys := ⟨_, rfl⟩
              have hyl : ys.length = kp := by rw [← hys]; simp; omega
              rw [hys] at S4 hrd4
              have X := Lib.hid (And.intro S4 (And.intro hrd4 hyl))
              simp only [List.getElem?_toArray, List.getElem?_cons_succ, List.getElem?_cons_zero] at k2
              clear S4 hrd4 hyl hys hq4 ho4 hg4 hb4
              go_wp2_with (at_builtin; refine wpList_append_row _ rfl (.tmp 56) (.tmp 60) _ rfl 3 i0 _ 8 Try.underlying30 hi0 hz0 hz1 hz2 rfl gi _ (iv ins) rfl X.out.1.i _ (iv ys) rfl X.out.2.1 (by have := X.out.2.2; have := HS.out.2.2.2; simp only [maxLen]; simp; omega) (by have := X.out.2.2; have := HS.out.2.2.2; simp; omega) ?_; intro A' c' w5 gn hrow hgr hgn; simp only [List.length_map] at hrow; have Y := Lib.hid (And.intro hrow (And.intro hgr hgn)); clear hrow hgr hgn)
              go_roundw
              case rel =>
                obtain ⟨S4, _, hyl⟩ := X.out
                obtain ⟨hrow, hgr, hgn⟩ := Y.out
                obtain ⟨_, heq, hle, hil⟩ := HS.out
                rw [← List.map_append] at hrow
                exact ⟨k + 1, g', gn, go, ins ++ ys, outs, xs ++ ys, by omega, by go_num, S4.appI hrow hgr hgn, by rw [heq, List.append_assoc], by rw [List.length_append]; omega, by rw [List.length_append]; omega⟩
              case measure => simp [intOf]; omega
          · by_cases hk1 : kd = 1
            · subst hk1
              clear hk0
              go_wp2_with fail
              refine (Take_at (HS.out.1.que.alloc _) (by rw [List.length_map]; have := HS.out.2.2.1; omega) nm).mono ?_
              rintro e w4 ⟨v4, gt, g', rfl, hrow4, hq4, ho4, hf4, hg4⟩
              obtain ⟨A4, c4, rfl⟩ := hrow4.form
              rw [← List.map_take] at hrow4 ⊢
              rw [← List.map_drop] at hq4
              rw [List.length_map] at hrow4 ⊢
              have S4 := (HS.out.1.alloc _).turn hq4 ho4 (hg4.imp id .inl)
              have hsp : xs.take nm.toNat ++ xs.drop nm.toNat = xs := List.take_append_drop _ _
              generalize xs.take nm.toNat = ys at *
              generalize xs.drop nm.toNat = rs at *
              have X := Lib.hid (And.intro S4 (And.intro hrow4.rd hsp))
              have hlys : Hid (ys.length ≤ rm) := by
                show _ ≤ _
                have h1 := HS.out.2.2.1
                rw [← hsp, List.length_append] at h1
                omega
              have hlo : Hid (outs.length ≤ 6400) := by
                show _ ≤ _
                have h1 := HS.out.2.2.2
                rw [HS.out.2.1, List.length_append] at h1
                omega
              clear S4 hrow4 hsp hq4 ho4 hf4 hg4
              go_wp2_with (at_builtin; refine wpList_append_row _ rfl (.tmp 64) (.tmp 68) _ rfl 3 i0 _ 8 Try.underlying30 hi0 hz0 hz1 hz2 rfl go _ (iv outs) rfl X.out.1.o _ (iv ys) rfl X.out.2.1 (by have := hlys.out; have := hlo.out; simp only [maxLen]; simp; omega) (by have := hlys.out; have := hlo.out; simp; omega) ?_; intro A' c' w5 gn hrow hgr hgn; simp only [List.length_map] at hrow; have Y := Lib.hid (And.intro hrow (And.intro hgr hgn)); clear hrow hgr hgn)
              go_roundw
              case rel =>
                obtain ⟨S4, _, hsp⟩ := X.out
                obtain ⟨hrow, hgr, hgn⟩ := Y.out
                obtain ⟨_, heq, hle, hil⟩ := HS.out
                rw [← List.map_append] at hrow
                exact ⟨k + 1, g', gi, gn, ins, outs ++ ys, rs, by omega, by go_num, S4.appO hrow hgr hgn, by rw [List.append_assoc, hsp]; exact heq, by rw [← hsp, List.length_append] at hle; omega, by omega⟩
              case measure => simp [intOf]; omega
            · go_wp2
              go_roundw
              case rel =>
                obtain ⟨hS, heq, hle, hil⟩ := HS.out
                exact ⟨k + 1, g, gi, go, ins, outs, xs, by omega, by go_num, hS.alloc _, heq, hle, by omega⟩
              case measure => simp [intOf]; omega
        · obtain rfl : k = l.length := by omega
          obtain ⟨A7, c7, rfl⟩ := HS.out.1.i.form
          obtain ⟨A8, c8, rfl⟩ := HS.out.1.o.form
          rw [List.length_map] at HS ⊢
          rw [List.length_map] at HS ⊢
          have hxl : Hid (xs.length ≤ 40) := by show _ ≤ _; have := HS.out.2.2.1; omega
          have hil : Hid (ins.length ≤ 6400) := by show _ ≤ _; have := HS.out.2.2.2; omega
          have hol : Hid (outs.length ≤ 6400) := by
            show _ ≤ _
            have h1 := hil.out
            rw [HS.out.2.1, List.length_append] at h1
            omega
          go_wp2_with fail
          refine (all_of (.pointer (some ⟨q, 0, none⟩)) xs (by have := hxl.out; omega) wr (All_at (HS.out.1.que.alloc _) (by have := hxl.out; omega))).mono ?_
          rintro e w4 ⟨A4, c4, rfl, hrd4, hb4⟩
          have X := Lib.hid (And.intro (HS.out.1.keep hb4) hrd4)
          clear hrd4 hb4
          go_wp2_with (at_builtin; refine wpList_append_row _ rfl (.tmp 71) (.tmp 73) _ rfl 3 i0 _ 8 Try.underlying30 hi0 hz0 hz1 hz2 rfl go _ (iv outs) rfl X.out.1.o _ (iv xs) rfl X.out.2 (by have := hxl.out; have := hol.out; simp only [maxLen]; simp; omega) (by have := hxl.out; have := hol.out; simp; omega) ?_; intro A' c' w5 gn hrow hgr hgn; simp only [List.length_map] at hrow; have Y := Lib.hid (And.intro hrow (And.intro hgr hgn)); clear hrow hgr hgn)
          have hrow5 := Y.out.1
          rw [← List.map_append] at hrow5
          have S5 := X.out.1.appO hrow5 Y.out.2.1 Y.out.2.2
          clear hrow5
          rw [← HS.out.2.1] at S5
          have SH := Lib.hid S5
          clear S5
          refine (Same_eq ins _ _ _ _ _ _ _ SH.out.i.rd SH.out.o.rd (by have := hil.out; omega)).mono ?_
          rintro e w6 ⟨rfl, nd, rfl⟩
          go_wp2
          go_ret
          have hb := SH.out.below
          exact ⟨rfl, ⟨hb.os, hb.tape, hb.output, hb.size, hb.block⟩⟩
end Go.Proofs.Ytdlcilhgpnlhjaa
