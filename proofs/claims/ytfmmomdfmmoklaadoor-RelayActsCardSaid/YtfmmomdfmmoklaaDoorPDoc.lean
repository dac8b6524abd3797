/-
  The contracts of cuecardref06's New, Write, Read and Over: the document's line is two of the document's queues, by the side that they come to.
  Conditions: bytes are less than 256.
-/
import Derived.Test.YtfmmomdfmmoklaaDoorPRefPut
import Derived.Test.YtfmmomdfmmoklaaDoorPtyOps
namespace Go.Proofs.YtfmmomdfmmoklaaDoor
open Go.RowKit

/-- Bytes as the document's numbers. -/
def dn (l : List Nat) : List Int := l.map fun c : Nat => (c : Int)
def dv (l : List Nat) : List Value := iv (dn l)
theorem dn_len (l : List Nat) : (dn l).length = l.length := by simp [dn]
theorem dv_len (l : List Nat) : (dv l).length = l.length := by simp [dv, dn]
theorem dn_take (l : List Nat) (n : Nat) : (dn l).take n = dn (l.take n) := by simp [dn, List.map_take]
theorem dn_drop (l : List Nat) (n : Nat) : (dn l).drop n = dn (l.drop n) := by simp [dn, List.map_drop]
theorem dn_append (l m : List Nat) : dn (l ++ m) = dn l ++ dn m := by simp [dn]

/-- Both ways' queues. -/
structure DBoth (w : World) (p room : Nat) (f : Nat → Way) (q : Nat → Nat) (g : Nat → Option Nat) : Prop where
  blk : Blk w p 46 #[.pointer (some ⟨q 0, 0, none⟩), .pointer (some ⟨q 1, 0, none⟩)]
  que : ∀ s, s < 2 → MAt w (q s) (g s) room (f s).en (dv (f s).xs)
  ne_ : q 0 ≠ q 1
  apart : ∀ b, g 0 = some b → g 1 ≠ some b

/-- A line, in the blocks F: by sides the ways from them. -/
structure DAt (F : Nat → Prop) (w : World) (p room : Nat) (f : Nat → Way) : Prop where
  ex : ∃ q g, DBoth w p room f q g ∧ F p ∧ ∀ s, s < 2 → F (q s) ∧ ∀ b, g s = some b → F b
  lt : ∀ b, F b → b < w.heap.size
  room_le : room ≤ 65536
  le : ∀ s, s < 2 → (f s).xs.length ≤ room
  byte : ∀ s, s < 2 → ∀ d ∈ (f s).xs, d < 256

/-- What a call leaves of a line. -/
def DTurns (F : Nat → Prop) (w w' : World) (p room : Nat) (f : Nat → Way) : Prop :=
  ∃ F', DAt F' w' p room f ∧ Only F w w' ∧ ∀ b, F' b → F b ∨ w.heap.size ≤ b

section
variable {F G : Nat → Prop} {w w' : World} {p room : Nat} {f : Nat → Way} {q : Nat → Nat} {g : Nat → Option Nat}

theorem DAt.only (h : DAt G w p room f) (hb : Only F w w') (hd : ∀ b, G b → ¬ F b) : DAt G w' p room f := by
  obtain ⟨⟨q, g, hB, hp, hF⟩, hl, h1, h2, h3⟩ := h
  exact ⟨⟨q, g, ⟨hB.blk.only hb (hd _ hp), fun s hs => (hB.que s hs).only hb (hd _ (hF s hs).1) (fun b e => hd _ ((hF s hs).2 b e)), hB.ne_, hB.apart⟩, hp, hF⟩, fun b hb' => Nat.lt_of_lt_of_le (hl b hb') hb.size, h1, h2, h3⟩
theorem DAt.keep (h : DAt G w p room f) (hb : Below w.heap.size w w') : DAt G w' p room f :=
  h.only (Only.of_below hb (Nat.le_refl _) (fun _ => False)) (fun _ _ e => e)
theorem DAt.drewN (h : DAt G w p room f) (n : Nat) : DAt G (w.drewN n) p room f := h.keep ⟨rfl, rfl, rfl, Nat.le_refl _, fun _ _ => rfl⟩
theorem DAt.alloc (h : DAt G w p room f) (o : Obj) : DAt G (w.alloc o) p room f := h.keep ((Below.refl _ w).alloc (Nat.le_refl _) o)

/-- One way has turned. -/
theorem DBoth.turn (h : DAt F w p room f) (hB : DBoth w p room f q g) (hF : F p ∧ ∀ s, s < 2 → F (q s) ∧ ∀ b, g s = some b → F b) {s : Nat} (hs : s < 2) {y : Way} {g' : Option Nat} (hy : y.xs.length ≤ room) (hyb : ∀ d ∈ y.xs, d < 256)
    (hq : MAt w' (q s) g' room y.en (dv y.xs)) (ho : Only (fun b => b = q s ∨ some b = g s) w w') (hg : g' = g s ∨ g' = none ∨ ∃ b, g' = some b ∧ w.heap.size ≤ b) : DTurns F w w' p room (upd f s y) := by
  have hoF : Only F w w' := ho.mono (by
    rintro i _ (rfl | e)
    · exact (hF.2 s hs).1
    · exact (hF.2 s hs).2 i e.symm)
  have hne : ∀ k, k < 2 → k ≠ s → q k ≠ q s ∧ (∀ b, g k = some b → g s ≠ some b) := by
    intro k hk hks
    rcases two_ne hs hk hks with ⟨rfl, rfl⟩ | ⟨rfl, rfl⟩
    · exact ⟨Ne.symm hB.ne_, fun b e1 e2 => hB.apart b e2 e1⟩
    · exact ⟨hB.ne_, hB.apart⟩
  have hsz := ho.size
  refine ⟨fun b => F b ∨ (w.heap.size ≤ b ∧ b < w'.heap.size), ⟨⟨q, fun k => if k = s then g' else g k, ⟨?_, ?_, hB.ne_, ?_⟩, .inl hF.1, ?_⟩, ?_, h.room_le, ?_, ?_⟩, hoF, fun b hb => hb.imp id And.left⟩
  · refine hB.blk.only ho ?_
    rintro (e | e)
    · obtain ⟨v, hb, _⟩ := hB.que s hs
      exact hB.blk.ne_ hb (by decide) e
    · obtain ⟨v, _, hr⟩ := hB.que s hs
      exact hr.ne_ hB.blk (by decide) e.symm
  · intro k hk
    by_cases hks : k = s
    · subst hks; simp only [upd_at, if_pos]; exact hq
    · rw [upd_far _ _ hks]
      simp only [if_neg hks]
      obtain ⟨n1, n2⟩ := hne k hk hks
      refine (hB.que k hk).only ho ?_ ?_
      · rintro (e | e)
        · exact n1 e
        · obtain ⟨v, hb, _⟩ := hB.que k hk
          obtain ⟨v', _, hr⟩ := hB.que s hs
          exact hr.ne_ hb (by decide) e.symm
      · rintro b e (rfl | e')
        · obtain ⟨v, _, hr⟩ := hB.que k hk
          obtain ⟨v', hb, _⟩ := hB.que s hs
          exact hr.ne_ hb (by decide) e
        · exact n2 b e e'.symm
  · have key : ∀ k, k < 2 → k ≠ s → ∀ b, g' = some b → g k ≠ some b := by
      intro k hk hks b e e2
      rcases hg with rfl | rfl | ⟨b', rfl, hb'⟩
      · exact (hne k hk hks).2 b e2 e
      · cases e
      · cases e; have := (hB.que k hk).row_lt e2; omega
    intro b e e2
    rcases (show s = 0 ∨ s = 1 by omega) with rfl | rfl
    · simp at e e2; exact key 1 (by omega) (by omega) b e e2
    · simp at e e2; exact key 0 (by omega) (by omega) b e2 e
  · intro k hk
    refine ⟨.inl (hF.2 k hk).1, fun b e => ?_⟩
    by_cases hks : k = s
    · subst hks
      simp only [if_pos] at e
      rcases hg with rfl | rfl | ⟨b', rfl, hb'⟩
      · exact .inl ((hF.2 k hk).2 b e)
      · cases e
      · cases e; exact .inr ⟨hb', hq.row_lt rfl⟩
    · simp only [if_neg hks] at e
      exact .inl ((hF.2 k hk).2 b e)
  · rintro b (hb | ⟨_, hb⟩)
    · exact Nat.lt_of_lt_of_le (h.lt b hb) hsz
    · exact hb
  · intro k hk
    by_cases hks : k = s
    · subst hks; rw [upd_at]; exact hy
    · rw [upd_far _ _ hks]; exact h.le k hk
  · intro k hk
    by_cases hks : k = s
    · subst hks; rw [upd_at]; exact hyb
    · rw [upd_far _ _ hks]; exact h.byte k hk
end


theorem DTurns.behind {F : Nat → Prop} {w w1 w' : World} {m room : Nat} {f : Nat → Way} (h : DTurns F w1 w' m room f) (hb : Below w.heap.size w w1) : DTurns F w w' m room f := by
  obtain ⟨F', h, ho, hF⟩ := h
  refine ⟨F', h, (Only.of_below hb (Nat.le_refl _) F).trans ho (fun i _ e => e), fun b hb' => (hF b hb').imp id (fun e => Nat.le_trans hb.size e)⟩

theorem DNew_any (n : Nat) (w : World) (h2 : n ≤ 65536) :
    Calls Tryd.prog 12 #[.int .i64 n] w fun e w' => e = .returned (.pointer (some ⟨w.heap.size + 2, 0, none⟩)) ∧ DAt (Since w w') w' (w.heap.size + 2) n (fun _ => ⟨false, []⟩) ∧ Below w.heap.size w w' := by
  go_enter Tryd.func12, Tryd.ntmps12
  go_wp2
  go_ret
  have hb : Below w.heap.size w (((w.alloc (.cells #[.slice none 0 0, .int .i64 n, .bool false] 42)).alloc (.cells #[.slice none 0 0, .int .i64 n, .bool false] 42)).alloc (.cells #[.pointer (some ⟨w.heap.size, 0, none⟩), .pointer (some ⟨w.heap.size + 1, 0, none⟩)] 46)) :=
    (((Below.refl _ w).alloc (Nat.le_refl _) _).alloc (by simp) _).alloc (by simp; omega) _
  refine ⟨rfl, ⟨⟨fun s => w.heap.size + s, fun _ => none, ⟨?_, ?_, by simp, by simp⟩, ⟨by omega, by simp⟩, ?_⟩, fun b hb => hb.2, h2, by simp, by simp⟩, hb⟩
  · have := Blk.new ((w.alloc (.cells #[.slice none 0 0, .int .i64 n, .bool false] 42)).alloc (.cells #[.slice none 0 0, .int .i64 n, .bool false] 42)) 46 #[.pointer (some ⟨w.heap.size, 0, none⟩), .pointer (some ⟨w.heap.size + 1, 0, none⟩)]
    simpa using this
  · intro s hs
    rcases (show s = 0 ∨ s = 1 by omega) with rfl | rfl
    · exact ⟨_, ((Blk.new w _ _).alloc _).alloc _, Row.nil _ _⟩
    · have := (Blk.new (w.alloc (.cells #[.slice none 0 0, .int .i64 n, .bool false] 42)) 42 #[.slice none 0 0, .int .i64 n, .bool false]).alloc (.cells #[.pointer (some ⟨w.heap.size, 0, none⟩), .pointer (some ⟨w.heap.size + 1, 0, none⟩)] 46)
      exact ⟨.slice none 0 0, by simpa using this, Row.nil _ _⟩
  · intro s hs
    refine ⟨⟨by show w.heap.size ≤ w.heap.size + s; omega, ?_⟩, by simp⟩
    simp; omega

theorem dv_snoc (l : List Nat) (d : Nat) : dv (l ++ [d]) = dv l ++ [.int .i64 d] := by simp [dv, dn]
theorem hd_next {ys : List Nat} {k d : Nat} (h : ys[k]? = some d) : ys.take (k + 1) = ys.take k ++ [d] := by
  obtain ⟨hk, e⟩ := List.getElem?_eq_some_iff.1 h
  rw [List.take_succ_eq_append_getElem hk, e]

section
variable {F : Nat → Prop} {w : World} {m room : Nat} {t : Nat → Way}

theorem DOver_at (h : DAt F w m room t) (s : Nat) (hs : s < 2) :
    Calls Tryd.prog 23 #[.pointer (some ⟨m, 0, none⟩), .int .i64 s] w fun e w' => e = .returned (.bool ((t s).en && (t s).xs.isEmpty)) ∧ w = w' := by
  obtain ⟨q, g, hB, hF⟩ := id h.ex
  have hle := h.le s hs
  have hr := h.room_le
  obtain ⟨v, hq, hrow⟩ := hB.que s hs
  obtain ⟨A, c, rfl⟩ := hrow.form
  rw [dv_len] at hq
  have c0 : w.cell? ⟨q s, 0, none⟩ = some (.slice A (t s).xs.length c) := hq.cell 0
  have c2 : w.cell? ⟨q s, 2, none⟩ = some (.bool (t s).en) := hq.cell 2
  have cm : w.cell? ⟨m, s, none⟩ = some (.pointer (some ⟨q s, 0, none⟩)) := by
    rw [hB.blk.cell s]
    rcases (show s = 0 ∨ s = 1 by omega) with rfl | rfl <;> rfl
  have h0 : (0 : Int) ≤ (s : Int) := by omega
  have h1 : (s : Int) < 2 := by omega
  clear h hB hF hq hrow
  generalize q s = qs at *
  generalize t s = y at *
  obtain ⟨en, xs⟩ := y
  simp only at c0 c2 hle ⊢
  cases en with
  | false =>
    go_enter Tryd.func23, Tryd.ntmps23
    go_wp2
    go_ret
    exact ⟨rfl, rfl⟩
  | true =>
    have he : xs.isEmpty = ((xs.length : Int) == 0) := by
      cases xs
      · rfl
      · simp; omega
    rw [he, Bool.true_and]
    clear he
    go_enter Tryd.func23, Tryd.ntmps23
    go_wp2
    go_ret
    exact ⟨rfl, rfl⟩

set_option maxHeartbeats 1000000 in
theorem DWrite_at (h : DAt F w m room t) (s : Nat) (hs : s < 2) {A : Option Addr} {n c : Nat} {ys : List Nat} (hr : Rd w (.slice A n c) (bv ys)) (hn : n ≤ 65536) (hby : ∀ d ∈ ys, d < 256) :
    Calls Tryd.prog 13 #[.pointer (some ⟨m, 0, none⟩), .int .i64 s, .slice A n c] w fun e w' => e = .returned (.int .i64 (putN room (t (1 - s)).en (t (1 - s)).xs.length n)) ∧ DTurns F w w' m room (upd t (1 - s) ⟨(t (1 - s)).en, (t (1 - s)).xs ++ ys.take (putN room (t (1 - s)).en (t (1 - s)).xs.length n)⟩) := by
  obtain ⟨i0, hi0, hz0, hz1, hz2⟩ := info_parts int_info
  have hyn := hr.bytes
  have H := Lib.hid (And.intro h (And.intro hr hby))
  clear h hr hby
  obtain ⟨r, hr⟩ : ∃ r, 1 - s = r := ⟨_, rfl⟩
  rw [hr]
  have HR := Lib.hid hr
  clear hr
  obtain ⟨kp, hkp⟩ : ∃ kp, putN room (t r).en (t r).xs.length n = kp := ⟨_, rfl⟩
  rw [hkp]
  have HK := Lib.hid hkp
  clear hkp
  go_enter Tryd.func13, Tryd.ntmps13
  go_wp2
  go_loopw [7, 8] (fun v7 i wr => ∃ (k : Nat) (g : Option Nat), k ≤ n ∧ i = .int .i64 k ∧ Hid (Row wr 3 g v7 (dv (ys.take k)) ∧ Below w.heap.size w wr ∧ ∀ b, g = some b → w.heap.size ≤ b)) (fun _ i _ => n - (intOf i).toNat)
  case atStart => exact ⟨0, none, Nat.zero_le _, rfl, Row.nil w _, Below.refl _ _, by simp⟩
  case round =>
    obtain ⟨k, g, hk, rfl, HS⟩ := hrel
    obtain ⟨A7, c7, rfl⟩ := HS.out.1.form
    rw [dv_len] at HS ⊢
    have hzl : (ys.take k).length = k := by rw [List.length_take]; omega
    rw [hzl] at HS ⊢
    by_cases hlt : k < n
    · obtain ⟨b, o, d, rfl, hc, hd⟩ := (H.out.2.1.kept HS.out.2.1).byteAt hlt
      have HX := Lib.hid (hd_next hd)
      have hdb := H.out.2.2 d (List.mem_of_getElem? hd)
      clear hd hyn hzl
      go_wp2_with (at_builtin; refine wpList_append_row _ rfl (.tmp 15) (.tmp 21) _ rfl 3 i0 _ 8 Tryd.underlying40 hi0 hz0 hz1 hz2 rfl g _ (dv (ys.take k)) rfl (HS.out.1.alloc _) _ [.int .i64 d] rfl (Rd.lit wr 3 #[.int .i64 d] 1 rfl (by omega) (by omega) (by simp [Value.oneCell'])) (by simp only [maxLen, dv_len, List.length_take]; simp; omega) (by simp only [dv_len, List.length_take]; simp; omega) ?_; intro A' c' w1 gn hrow' hgr hgn; simp only [List.length_cons, List.length_nil, Nat.zero_add] at hrow'; have Y := Lib.hid (And.intro hrow' (And.intro hgr hgn)); clear hrow' hgr hgn)
      go_roundw
      case rel =>
        obtain ⟨hrow', hgr, hgn⟩ := Y.out
        obtain ⟨hr, hb, hg⟩ := HS.out
        refine ⟨k + 1, gn, by omega, by go_num, ?_, (hb.alloc hb.size _).grown hgr (by have := hb.size; simp; omega) hg, ?_⟩
        · rw [HX.out, dv_snoc]
          exact hrow'
        · intro b' e
          rcases hgn with rfl | rfl
          · exact hg b' e
          · have := hb.size; simp at e; omega
      case measure => simp [intOf]; omega
    · obtain rfl : k = n := by omega
      have hk : ys.take k = ys := List.take_of_length_le (by omega)
      rw [hk] at HS
      obtain ⟨q, gq, hB, hF⟩ := id H.out.1.ex
      have hk2 : r < 2 := by have := HR.out; omega
      have hrI : (1 : Int) - (s : Int) = (r : Int) := by have := HR.out; omega
      have hr0 : (0 : Int) ≤ (r : Int) := by omega
      have hr1 : (r : Int) < 2 := by omega
      have hm1 := H.out.1.keep HS.out.2.1
      have hB1 : DBoth wr m room t q gq := ⟨Blk.below hB.blk HS.out.2.1 hB.blk.lt, fun s hs => MAt.below (hB.que s hs) HS.out.2.1 (hB.que s hs).blk_lt (fun b e => (hB.que s hs).row_lt e), hB.ne_, hB.apart⟩
      have cm : wr.cell? ⟨m, r, none⟩ = some (.pointer (some ⟨q r, 0, none⟩)) := by
        rw [hB1.blk.cell r]
        rcases (show r = 0 ∨ r = 1 by omega) with rfl | rfl <;> rfl
      have hle := H.out.1.le r hk2
      have hput := RPut_at (hB1.que r hk2) H.out.1.room_le (by rw [dn_len]; exact hle) (B := A7) (c := c7) (ys := dn ys) (fun W' hW => ?hsrc) (by rw [dn_len]; omega)
      case hsrc =>
        have h1 := HS.out.1
        rw [dn_len, ← hyn]
        exact (h1.only hW (by
          intro b e
          have hbb := HS.out.2.2 b e
          rintro (e2 | e2)
          · have := (hB.que r hk2).blk_lt; omega
          · have := (hB.que r hk2).row_lt e2.symm; omega)).rd
      rw [dn_len, dn_len, ← hyn, HK.out, dn_take, ← dn_append] at hput
      have HP := Lib.hid hput
      have HM := Lib.hid (And.intro hm1 (And.intro hB1 hF))
      have hkp := putN_le room (t r).en (t r).xs.length k
      rw [HK.out] at hkp
      have hyl : (ys.take kp).length ≤ kp := List.length_take_le _ _
      have HL : Hid ((Way.mk (t r).en ((t r).xs ++ ys.take kp)).xs.length ≤ room ∧ ∀ d ∈ (Way.mk (t r).en ((t r).xs ++ ys.take kp)).xs, d < 256) := by
        refine ⟨?_, ?_⟩
        · show ((t r).xs ++ ys.take kp).length ≤ room
          rw [List.length_append]; omega
        · intro d hd
          rcases List.mem_append.1 hd with h1 | h1
          · exact H.out.1.byte r hk2 d h1
          · exact H.out.2.2 d (List.mem_of_mem_take h1)
      clear hm1 hB1 hF hB hput hyn hkp hyl hk hle
      go_wp2_with (go_at_call 33; refine HP.out.mono ?_; rintro e w1 ⟨g1, rfl, hq, ho, hg⟩; have X := Lib.hid (And.intro hq (And.intro ho hg)); clear hq ho hg)
      go_ret
      obtain ⟨hm1, hB1, hF⟩ := HM.out
      obtain ⟨hq, ho, hg⟩ := X.out
      exact ⟨rfl, (hB1.turn hm1 hF hk2 HL.out.1 HL.out.2 hq ho (hg.imp id .inr)).behind HS.out.2.1⟩

theorem DTurns.ahead {w1 w' : World} (h : DTurns F w w1 m room t) (hb : Below w1.heap.size w1 w') : DTurns F w w' m room t := by
  obtain ⟨F', h, ho, hF⟩ := h
  exact ⟨F', h.keep hb, ho.trans (Only.of_below hb (Nat.le_refl _) F) (fun i _ e => e), hF⟩
theorem Rd.dnAt {w : World} {A : Option Addr} {n c : Nat} {zs : List Nat} (h : Rd w (.slice A n c) (dv zs)) {k : Nat} (hk : k < zs.length) : ∃ b o d, A = some ⟨b, o, none⟩ ∧ w.cell? ⟨b, o + k, none⟩ = some (.int .i64 (d : Nat)) ∧ zs[k]? = some d := by
  obtain ⟨A', c', e, _, _, hr⟩ := h
  injection e with e1 e2 e3
  subst e1 e3
  obtain ⟨b, o, rfl, hx⟩ := hr (by rw [dv_len]; omega)
  obtain ⟨d, hd⟩ : ∃ d, zs[k]? = some d := ⟨_, List.getElem?_eq_getElem (by omega)⟩
  exact ⟨b, o, d, rfl, hx k _ (by simp [dv, dn, hd]), hd⟩
theorem bv_snoc (l : List Nat) (d : Nat) : bv (l ++ [d]) = bv l ++ [.int .u8 d] := by simp [bv]

set_option maxHeartbeats 1000000 in
theorem DRead_at (h : DAt F w m room t) (s : Nat) (hs : s < 2) (n : Int) :
    Calls Tryd.prog 14 #[.pointer (some ⟨m, 0, none⟩), .int .i64 s, .int .i64 n] w fun e w' => ∃ A c gt, e = .returned (.slice A ((t s).xs.take n.toNat).length c) ∧ Row w' 5 gt (.slice A ((t s).xs.take n.toNat).length c) (bv ((t s).xs.take n.toNat)) ∧ (∀ b, gt = some b → w.heap.size ≤ b) ∧ DTurns F w w' m room (upd t s ⟨(t s).en, (t s).xs.drop n.toNat⟩) := by
  obtain ⟨i0, hi0, hz0, hz1, hz2⟩ := info_parts byte_info
  have HO := Lib.hid h
  obtain ⟨q, gq, hB, hF⟩ := id h.ex
  have hle := h.le s hs
  have hrl := h.room_le
  have hput := RTake_at (hB.que s hs) (by rw [dn_len]; omega) n
  rw [dn_take, dn_drop] at hput
  have cm : w.cell? ⟨m, s, none⟩ = some (.pointer (some ⟨q s, 0, none⟩)) := by
    rw [hB.blk.cell s]
    rcases (show s = 0 ∨ s = 1 by omega) with rfl | rfl <;> rfl
  have hs0 : (0 : Int) ≤ (s : Int) := by omega
  have hs1 : (s : Int) < 2 := by omega
  have HL : Hid ((Way.mk (t s).en ((t s).xs.drop n.toNat)).xs.length ≤ room ∧ ∀ d ∈ (Way.mk (t s).en ((t s).xs.drop n.toNat)).xs, d < 256) := by
    refine ⟨?_, fun d hd => h.byte s hs d (List.mem_of_mem_drop hd)⟩
    show ((t s).xs.drop n.toNat).length ≤ room
    rw [List.length_drop]; omega
  have HY : Hid (∀ d ∈ (t s).xs.take n.toNat, d < 256) := fun d hd => h.byte s hs d (List.mem_of_mem_take hd)
  have hyl : ((t s).xs.take n.toNat).length ≤ 65536 := by rw [List.length_take]; omega
  have HT := Lib.hid (And.intro hB hF)
  clear h hB hF
  generalize (t s).xs.take n.toNat = ys at *
  generalize (t s).xs.drop n.toNat = rs at *
  have HP := Lib.hid hput
  clear hput hle hrl
  go_enter Tryd.func14, Tryd.ntmps14
  go_wp2_with fail
  refine HP.out.mono ?_
  rintro e w1 ⟨A1, c1, gt, g1, rfl, hrow1, hq1, ho1, hn1, hm1⟩
  rw [dn_len] at hrow1 ⊢
  have X := Lib.hid (And.intro hrow1 (And.intro hq1 (And.intro ho1 (And.intro hn1 hm1))))
  clear hrow1 hq1 ho1 hn1 hm1 cm HP
  go_wp2_with fail
  go_loopw [8, 9] (fun v8 i wr => ∃ (k : Nat) (g : Option Nat), k ≤ ys.length ∧ i = .int .i64 k ∧ Hid (Row wr 5 g v8 (bv (ys.take k)) ∧ Below w1.heap.size w1 wr ∧ ∀ b, g = some b → w1.heap.size ≤ b)) (fun _ i _ => ys.length - (intOf i).toNat)
  case atStart => exact ⟨0, none, Nat.zero_le _, rfl, Row.nil w1 _, Below.refl _ _, by simp⟩
  case round =>
    obtain ⟨k, g, hk, rfl, HS⟩ := hrel
    obtain ⟨A8, c8, rfl⟩ := HS.out.1.form
    rw [bv_len] at HS ⊢
    have hzl : (ys.take k).length = k := by rw [List.length_take]; omega
    rw [hzl] at HS ⊢
    by_cases hlt : k < ys.length
    · obtain ⟨b, o, d, rfl, hc, hd⟩ := (Row.below X.out.1 HS.out.2.1 (fun b e => X.out.1.lt e)).rd.dnAt hlt
      have HX := Lib.hid (hd_next hd)
      have hdb := HY.out d (List.mem_of_getElem? hd)
      have hw8 : IntKind.u8.wrap (d : Int) = (d : Int) := by rw [IntKind.wrap_u8]; omega
      clear hd hzl
      go_wp2_with (at_builtin; refine wpList_append_row _ rfl (.tmp 24) (.tmp 30) _ rfl 5 i0 _ 1 Tryd.underlying31 hi0 hz0 hz1 hz2 rfl g _ (bv (ys.take k)) rfl (HS.out.1.alloc _) _ [.int .u8 d] rfl (Rd.lit wr 5 #[.int .u8 d] 1 rfl (by omega) (by omega) (by simp [Value.oneCell'])) (by simp only [maxLen, bv_len, List.length_take]; simp; omega) (by simp only [bv_len, List.length_take]; simp; omega) ?_; intro A' c' w2 gn hrow' hgr hgn; simp only [List.length_cons, List.length_nil, Nat.zero_add] at hrow'; have Y := Lib.hid (And.intro hrow' (And.intro hgr hgn)); clear hrow' hgr hgn)
      go_roundw
      case rel =>
        obtain ⟨hrow', hgr, hgn⟩ := Y.out
        obtain ⟨hr, hb, hg⟩ := HS.out
        refine ⟨k + 1, gn, by omega, by go_num, ?_, (hb.alloc hb.size _).grown hgr (by have := hb.size; simp; omega) hg, ?_⟩
        · rw [HX.out, bv_snoc]
          exact hrow'
        · intro b' e
          rcases hgn with rfl | rfl
          · exact hg b' e
          · have := hb.size; simp at e; omega
      case measure => simp [intOf]; omega
    · obtain rfl : k = ys.length := by omega
      have hk : ys.take ys.length = ys := List.take_of_length_le (by omega)
      rw [hk] at HS
      clear hk hzl
      go_wp2
      go_ret
      obtain ⟨hrow, hb, hg⟩ := HS.out
      obtain ⟨_, hq1, ho1, _, hm1⟩ := X.out
      obtain ⟨hB, hF⟩ := HT.out
      have hsz := ho1.size
      refine ⟨A8, c8, g, rfl, hrow, fun b e => by have := hg b e; omega, DTurns.ahead (hB.turn HO.out hF hs HL.out.1 HL.out.2 hq1 (ho1.mono fun _ _ e => .inl e) ?_) hb⟩
      cases g1 with
      | none => exact .inr (.inl rfl)
      | some b => exact .inr (.inr ⟨b, rfl, hm1 b rfl⟩)
end
end Go.Proofs.YtfmmomdfmmoklaaDoor
