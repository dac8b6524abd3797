/-
  The contracts of cuecardref01.Queue's methods: the document's own queue, a list of numbers.
  Conditions: at most 65536 things.
-/
import Derived.Test.YtfmmomdfmmoklaaDoorPBase
import Derived.Deep.RegionHeld3
namespace Go.Proofs.YtfmmomdfmmoklaaDoor
open Go.RowKit

/-- The document's queue: its struct is block m, its row block g. -/
def MAt (w : World) (m : Nat) (g : Option Nat) (most : Nat) (en : Bool) (xs : List Value) : Prop :=
  ∃ v, Blk w m 42 #[v, .int .i64 most, .bool en] ∧ Row w 3 g v xs

section
variable {w w' : World} {m most : Nat} {g : Option Nat} {en : Bool} {xs : List Value}
theorem MAt.blk_lt (h : MAt w m g most en xs) : m < w.heap.size := by
  obtain ⟨v, hb, _⟩ := h; exact hb.lt
theorem MAt.row_lt {b : Nat} (h : MAt w m g most en xs) (e : g = some b) : b < w.heap.size := by
  obtain ⟨v, _, hr⟩ := h; exact hr.lt e
theorem MAt.ne_ (h : MAt w m g most en xs) : g ≠ some m := by
  obtain ⟨v, hb, hr⟩ := h; exact hr.ne_ hb (by decide)
theorem MAt.only {S : Nat → Prop} (h : MAt w m g most en xs) (hb : Only S w w') (hq : ¬ S m) (hg : ∀ b, g = some b → ¬ S b) : MAt w' m g most en xs := by
  obtain ⟨v, h1, h2⟩ := h
  exact ⟨v, h1.only hb hq, h2.only hb hg⟩
theorem MAt.below {B : Nat} (h : MAt w m g most en xs) (hb : Below B w w') (hq : m < B) (hg : ∀ b, g = some b → b < B) : MAt w' m g most en xs := by
  obtain ⟨v, h1, h2⟩ := h
  exact ⟨v, h1.below hb hq, h2.below hb hg⟩
theorem MAt.alloc (h : MAt w m g most en xs) (o : Obj) : MAt (w.alloc o) m g most en xs := by
  obtain ⟨v, h1, h2⟩ := h
  exact ⟨v, h1.alloc o, h2.alloc o⟩
theorem MAt.drewN (h : MAt w m g most en xs) (n : Nat) : MAt (w.drewN n) m g most en xs := h

theorem RRoom_at (h : MAt w m g most en xs) (h1 : most ≤ 65536) (h2 : xs.length ≤ most) :
    Calls Tryd.prog 49 #[.pointer (some ⟨m, 0, none⟩)] w fun e w' => e = .returned (.int .i64 (roomOf most en xs.length)) ∧ ∃ n, w' = w.drewN n := by
  obtain ⟨v, hb, A, c, rfl, _⟩ := h
  have c0 : w.cell? ⟨m, 0, none⟩ = some (.slice A xs.length c) := hb.cell 0
  have c1 : w.cell? ⟨m, 1, none⟩ = some (.int .i64 most) := hb.cell 1
  have c2 : w.cell? ⟨m, 2, none⟩ = some (.bool en) := hb.cell 2
  clear hb
  cases en with
  | true =>
    go_enter Tryd.func49, Tryd.ntmps49
    go_wp2
    go_ret
    exact ⟨rfl, 0, rfl⟩
  | false =>
    go_enter Tryd.func49, Tryd.ntmps49
    go_wp2
    go_quiet (fail)
    go_wp2
    go_ret
    exact ⟨rfl, _, rfl⟩
end

/-- What Peek gathers. -/
theorem RPeek_at {w : World} {m most : Nat} {g : Option Nat} {en : Bool} {xs : List Int} (h : MAt w m g most en (iv xs)) (hm : xs.length ≤ 65536) (n : Int) :
    Calls Tryd.prog 50 #[.pointer (some ⟨m, 0, none⟩), .int .i64 n] w (Own 3 w (iv (xs.take n.toNat))) := by
  obtain ⟨i0, hi0, hz0, hz1, hz2⟩ := info_parts int_info
  have hlt := h.blk_lt
  have hglt : Hid (∀ b, g = some b → b < w.heap.size) := fun b e => h.row_lt e
  obtain ⟨v, hb, hrow⟩ := h
  obtain ⟨A, c, rfl⟩ := hrow.form
  rw [List.length_map] at hb hrow
  have HB := Lib.hid (And.intro hb hrow)
  clear hb hrow
  go_enter Tryd.func50, Tryd.ntmps50
  go_wp2
  go_loopw [5, 6] (fun v5 i wr => ∃ (k : Nat) (go : Option Nat), k ≤ xs.length ∧ i = .int .i64 k ∧ Hid (Row wr 3 go v5 (iv (xs.take (min k n.toNat))) ∧ Below w.heap.size w wr ∧ ∀ b, go = some b → w.heap.size ≤ b)) (fun _ i _ => xs.length - (intOf i).toNat)
  case atStart => exact ⟨0, none, Nat.zero_le _, rfl, by simpa using Row.nil w _, Below.refl _ _, fun b e => by cases e⟩
  case round =>
    obtain ⟨k, go, hk, rfl, HS⟩ := hrel
    obtain ⟨zs, hzs⟩ : ∃ zs, xs.take (min k n.toNat) = zs := ⟨_, rfl⟩
    rw [hzs] at HS
    have HZ := Lib.hid hzs
    have hzl : zs.length ≤ 65536 := by rw [← hzs, List.length_take]; omega
    clear hzs
    obtain ⟨A5, c5, rfl⟩ := HS.out.1.form
    rw [List.length_map] at HS ⊢
    have c0 : wr.cell? ⟨m, 0, none⟩ = some (.slice A xs.length c) := (HB.out.1.below HS.out.2.1 hlt).cell 0
    by_cases hklt : k < xs.length
    · obtain ⟨x, hx⟩ : ∃ x, xs[k]?.getD 0 = x := ⟨_, rfl⟩
      obtain ⟨b, o, rfl, hcell⟩ := (HB.out.2.below HS.out.2.1 hglt.out).ints.2 (by omega)
      have hcx : wr.cell? ⟨b, o + k, none⟩ = some (.int .i64 x) := by rw [← hx]; exact hcell k hklt
      have HX := Lib.hid (take_next xs k hklt)
      rw [hx] at HX
      clear hx hcell
      by_cases hkn : (k : Int) < n
      · go_wp2_with (at_builtin; refine wpList_append_row _ rfl (.tmp 19) (.tmp 27) _ rfl 3 i0 _ 8 Tryd.underlying40 hi0 hz0 hz1 hz2 rfl go _ (iv zs) rfl (HS.out.1.alloc _) _ [.int .i64 x] rfl (Rd.lit wr 3 #[.int .i64 x] 1 rfl (by omega) (by omega) (by simp [Value.oneCell'])) (by simp only [maxLen]; simp; omega) (by simp; omega) ?_; intro A' c' w1 gn hrow' hgr hgn; simp only [List.length_map, List.length_cons, List.length_nil, Nat.zero_add] at hrow'; have Y := Lib.hid (And.intro hrow' (And.intro hgr hgn)); clear hrow' hgr hgn)
        go_roundw
        case rel =>
          obtain ⟨hrow', hgr, hgn⟩ := Y.out
          obtain ⟨hr, hb, hg⟩ := HS.out
          refine ⟨k + 1, gn, by omega, by go_num, ?_, (hb.alloc hb.size _).grown hgr (by have := hb.size; simp; omega) hg, ?_⟩
          · have e1 : min (k + 1) n.toNat = k + 1 := by omega
            have e2 : min k n.toNat = k := by omega
            have e3 := HZ.out
            rw [e2] at e3
            rw [e1, HX.out, e3, iv, List.map_append]
            exact hrow'
          · intro b' e
            rcases hgn with rfl | rfl
            · exact hg b' e
            · have := hb.size; simp at e; omega
        case measure => simp [intOf]; omega
      · go_wp2
        go_roundw
        case rel =>
          obtain ⟨hr, hb, hg⟩ := HS.out
          refine ⟨k + 1, go, by omega, by go_num, ?_, hb, hg⟩
          have e1 : min (k + 1) n.toNat = min k n.toNat := by omega
          rw [e1, HZ.out]
          exact hr
        case measure => simp [intOf]; omega
    · obtain rfl : k = xs.length := by omega
      go_wp2
      go_ret
      obtain ⟨hr, hb, hg⟩ := HS.out
      refine ⟨_, go, rfl, ?_, hb, hg⟩
      have e1 : xs.take n.toNat = zs := by
        rw [← HZ.out]
        by_cases hc : n.toNat ≤ xs.length
        · rw [Nat.min_eq_right hc]
        · rw [Nat.min_eq_left (by omega), List.take_of_length_le (by omega), List.take_of_length_le (by omega)]
      rw [e1]
      exact hr

/-- What the document's Take leaves. -/
def RTook (w : World) (m : Nat) (most : Nat) (en : Bool) (ys zs : List Int) (e : Ending) (w' : World) : Prop :=
  ∃ A c gt g', e = .returned (.slice A ys.length c) ∧ Row w' 3 gt (.slice A ys.length c) (iv ys) ∧ MAt w' m g' most en (iv zs) ∧ Only (fun b => b = m) w w' ∧ (∀ b, gt = some b → w.heap.size ≤ b) ∧ (∀ b, g' = some b → w.heap.size ≤ b)

theorem drop_next (xs : List Int) (j k : Nat) (hj : j ≤ k) (h : k < xs.length) : (xs.drop j).take (k + 1 - j) = (xs.drop j).take (k - j) ++ [xs[k]?.getD 0] := by
  rw [show k + 1 - j = (k - j) + 1 by omega, take_next (xs.drop j) (k - j) (by simp; omega)]
  simp [show j + (k - j) = k by omega]

theorem RTake_at {w : World} {m most : Nat} {g : Option Nat} {en : Bool} {xs : List Int} (h : MAt w m g most en (iv xs)) (hm : xs.length ≤ 65536) (n : Int) :
    Calls Tryd.prog 34 #[.pointer (some ⟨m, 0, none⟩), .int .i64 n] w (RTook w m most en (xs.take n.toNat) (xs.drop n.toNat)) := by
  obtain ⟨i0, hi0, hz0, hz1, hz2⟩ := info_parts int_info
  have HP := Lib.hid (RPeek_at h hm n)
  have hd : xs.drop n.toNat = xs.drop (xs.take n.toNat).length := by
    rw [List.length_take]
    by_cases hc : n.toNat ≤ xs.length
    · rw [Nat.min_eq_left hc]
    · rw [Nat.min_eq_right (by omega), List.drop_of_length_le (by omega), List.drop_of_length_le (Nat.le_refl _)]
  have hkl : (xs.take n.toNat).length ≤ xs.length := by simp; omega
  rw [hd]
  clear hd
  generalize xs.take n.toNat = ys at *
  have hlt := h.blk_lt
  have hglt : Hid (∀ b, g = some b → b < w.heap.size) := fun b e => h.row_lt e
  obtain ⟨v, hb, hrow⟩ := h
  obtain ⟨A, c, rfl⟩ := hrow.form
  rw [List.length_map] at hb hrow
  have HB := Lib.hid (And.intro hb hrow)
  clear hb hrow
  go_enter Tryd.func34, Tryd.ntmps34
  go_wp2_with fail
  refine HP.out.mono ?_
  rintro e w1 ⟨v1, gt, rfl, hrow1, hb1, hf1⟩
  obtain ⟨A1, c1, rfl⟩ := hrow1.form
  rw [List.length_map] at hrow1 ⊢
  have X := Lib.hid (And.intro hrow1 (And.intro hb1 hf1))
  clear hrow1 hb1 hf1 HP
  go_wp2
  go_loopw [6, 7] (fun v6 i wr => ∃ (k : Nat) (go : Option Nat), ys.length ≤ k ∧ k ≤ xs.length ∧ i = .int .i64 k ∧ Hid (Row wr 3 go v6 (iv ((xs.drop ys.length).take (k - ys.length))) ∧ Below w1.heap.size w1 wr ∧ ∀ b, go = some b → w1.heap.size ≤ b)) (fun _ i _ => xs.length - (intOf i).toNat)
  case atStart => exact ⟨ys.length, none, Nat.le_refl _, hkl, rfl, by simpa using Row.nil w1 _, Below.refl _ _, fun b e => by cases e⟩
  case round =>
    obtain ⟨k, go, hjk, hk, rfl, HS⟩ := hrel
    obtain ⟨zs, hzs⟩ : ∃ zs, (xs.drop ys.length).take (k - ys.length) = zs := ⟨_, rfl⟩
    rw [hzs] at HS
    have HZ := Lib.hid hzs
    have hzl : zs.length ≤ 65536 := by rw [← hzs, List.length_take, List.length_drop]; omega
    clear hzs
    obtain ⟨A6, c6, rfl⟩ := HS.out.1.form
    rw [List.length_map] at HS ⊢
    have hbw : Below w.heap.size w wr := X.out.2.1.trans (HS.out.2.1.mono X.out.2.1.size)
    have hbm := HB.out.1.below hbw hlt
    have c0 : wr.cell? ⟨m, 0, none⟩ = some (.slice A xs.length c) := hbm.cell 0
    have f0 := hbm.frozen 0
    have HW := Lib.hid hbw
    clear hbw hbm
    by_cases hklt : k < xs.length
    · obtain ⟨x, hx⟩ : ∃ x, xs[k]?.getD 0 = x := ⟨_, rfl⟩
      obtain ⟨b, o, rfl, hcell⟩ := (HB.out.2.below HW.out hglt.out).ints.2 (by omega)
      have hcx : wr.cell? ⟨b, o + k, none⟩ = some (.int .i64 x) := by rw [← hx]; exact hcell k hklt
      have HX := Lib.hid (drop_next xs ys.length k hjk hklt)
      rw [hx] at HX
      clear hx hcell
      go_wp2_with (at_builtin; refine wpList_append_row _ rfl (.tmp 22) (.tmp 30) _ rfl 3 i0 _ 8 Tryd.underlying40 hi0 hz0 hz1 hz2 rfl go _ (iv zs) rfl (HS.out.1.alloc _) _ [.int .i64 x] rfl (Rd.lit wr 3 #[.int .i64 x] 1 rfl (by omega) (by omega) (by simp [Value.oneCell'])) (by simp only [maxLen]; simp; omega) (by simp; omega) ?_; intro A' c' w2 gn hrow' hgr hgn; simp only [List.length_map, List.length_cons, List.length_nil, Nat.zero_add] at hrow'; have Y := Lib.hid (And.intro hrow' (And.intro hgr hgn)); clear hrow' hgr hgn)
      go_roundw
      case rel =>
        obtain ⟨hrow', hgr, hgn⟩ := Y.out
        obtain ⟨hr, hb, hg⟩ := HS.out
        refine ⟨k + 1, gn, by omega, by omega, by go_num, ?_, (hb.alloc hb.size _).grown hgr (by have := hb.size; simp; omega) hg, ?_⟩
        · rw [HX.out, HZ.out, iv, List.map_append]
          exact hrow'
        · intro b' e
          rcases hgn with rfl | rfl
          · exact hg b' e
          · have := hb.size; simp at e; omega
      case measure => simp [intOf]; omega
    · obtain rfl : k = xs.length := by omega
      have HZ2 : Hid (xs.drop ys.length = zs) := by
        have := HZ.out
        rw [List.take_of_length_le (by simp)] at this
        exact this
      go_wp2
      go_ret
      obtain ⟨hr, hb, hg⟩ := HS.out
      obtain ⟨hr1, hb1, hf1⟩ := X.out
      have hs1 := hb1.size
      have hbm := HB.out.1.below HW.out hlt
      rw [HZ2.out]
      refine ⟨A1, c1, gt, go, rfl, ?_, ⟨_, hbm.set_ 0 _, hr.far (p := ⟨m, 0, none⟩) ?_ _⟩, ?_, hf1, ?_⟩
      · exact (hr1.below hb (fun b e => hr1.lt e)).far (p := ⟨m, 0, none⟩) (fun e => by have := hf1 m e; omega) _
      · intro e; have := hg m e; omega
      · exact (Only.of_below HW.out (Nat.le_refl _) (fun b => b = m)).setCell (p := ⟨m, 0, none⟩) (.inl rfl) _
      · intro b e; have := hg b e; omega
end Go.Proofs.YtfmmomdfmmoklaaDoor
