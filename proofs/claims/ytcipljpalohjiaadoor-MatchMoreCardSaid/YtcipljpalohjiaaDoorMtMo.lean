/-
  The law MatchMore.
  Conditions: each pattern has at most 1048576 bytes.
-/
import Derived.Test.YtcipljpalohjiaaDoorMtFi
namespace Go.Proofs.YtcipljpalohjiaaDoor
open Go.RowKit

/-- With a branch more. -/
theorem hit_more {most : Int} {b : List Nat} (l : List Brc) (x : Brc) : hitS most b (l ++ [x]) = (match hitS most b l with | some p => some p | none => (fromS most b x).map fun f => (l.length, f)) := by
  have gen : ∀ (l : List Brc) (i : Nat), hitFrom most b (l ++ [x]) i = (match hitFrom most b l i with | some p => some p | none => (fromS most b x).map fun f => (i + l.length, f)) := by
    intro l
    induction l with
    | nil =>
      intro i
      rw [List.nil_append, hitFrom, hitFrom]
      cases fromS most b x with
      | none => rw [hitFrom]; rfl
      | some f => rfl
    | cons y l ih =>
      intro i
      rw [List.cons_append, hitFrom, hitFrom]
      cases fromS most b y with
      | some f => rfl
      | none => dsimp only; rw [ih, List.length_cons, show i + 1 + l.length = i + (l.length + 1) by omega]
  have h := gen l 0
  rw [Nat.zero_add] at h
  exact h
theorem first_more (most : Int) (b : List Nat) (l : List Brc) (x : Brc) :
    (firstHit most b l = none ∧ firstHit most b (l ++ [x]) = none) ∨
    (firstHit most b l = none ∧ ∃ f e, firstHit most b (l ++ [x]) = some (l.length, f, e)) ∨
    (∃ i f e, i < l.length ∧ firstHit most b l = some (i, f, e) ∧ firstHit most b (l ++ [x]) = some (i, f, e)) ∨
    (∃ i f e f2 e2, firstHit most b l = some (i, f, e) ∧ firstHit most b (l ++ [x]) = some (l.length, f2, e2) ∧ e2 < e) := by
  have last : ∀ {k i f : Nat}, hitS most (b.take k) l = none → hitS most (b.take k) (l ++ [x]) = some (i, f) → i = l.length := fun hn hs => by
    rw [hit_more, hn] at hs
    dsimp only at hs
    cases hf : fromS most (b.take _) x with
    | none => rw [hf] at hs; cases hs
    | some g => rw [hf] at hs; simp only [Option.map_some, Option.some.injEq, Prod.mk.injEq] at hs; exact hs.1.symm
  rcases firstHit_cases most b l with ⟨i, f, e, h1, he, hh, hno⟩ | ⟨h1, hno⟩
  · have hh2 : hitS most (b.take e) (l ++ [x]) = some (i, f) := by rw [hit_more, hh]
    rcases firstHit_cases most b (l ++ [x]) with ⟨i2, f2, e2, h2, he2, hs2, hno2⟩ | ⟨h2, hno2⟩
    · rcases Nat.lt_trichotomy e2 e with h | h | h
      · obtain rfl := last (hno e2 h) hs2
        exact .inr (.inr (.inr ⟨i, f, e, f2, e2, h1, h2, h⟩))
      · subst h
        rw [hh2] at hs2
        injection hs2 with hs2
        injection hs2 with hi hf
        subst hi hf
        exact .inr (.inr (.inl ⟨i, f, e2, (hit_bound hh).1, h1, h2⟩))
      · have h3 := hno2 e h
        rw [hh2] at h3; cases h3
    · have h3 := hno2 e he
      rw [hh2] at h3; cases h3
  · rcases firstHit_cases most b (l ++ [x]) with ⟨i2, f2, e2, h2, he2, hs2, -⟩ | ⟨h2, -⟩
    · obtain rfl := last (hno e2 he2) hs2
      exact .inr (.inl ⟨h1, f2, e2, h2⟩)
    · exact .inl ⟨h1, h2⟩
theorem check_less {most : Int} {l : List Brc} {x : Brc} (h : checkS most (l ++ [x]) = 0) : checkS most l = 0 := by
  obtain ⟨h1, h2, h3, h4⟩ := check_zero h
  rw [List.length_append] at h3
  rw [checkS, if_neg (by omega), if_neg (by omega)]
  exact wrongs_none fun y hy => h4 y (by simp [hy])

theorem brc_info : (Tryd.prog.info? 45).map (fun i => (i.zero, i.size)) = some (some (.agg #[.int .i64 0, .string ⟨#[]⟩]), 2) := by kernel_rfl
set_option maxRecDepth 100000 in
theorem run_upto_B {S : Nat → Prop} {w : World} {A : Option Addr} {n c k : Nat} {l : List Brc} (h : Brs S w (.slice A n c) l) (hk : k ≤ l.length) :
    ∃ A', (∀ W, (Instr.slice 23 (.slice A n c) none (some (.int .i64 (k : Int))) none).run Tryd.prog W = .ok (.slice A' k c) W) ∧ Brs S w (.slice A' k c) (l.take k) := by
  have hn := h.n
  obtain ⟨A', c', e, hle, hr⟩ := h
  injection e with e1 e2 e3
  subst e1 e3
  have hl : (l.take k).length = k := by rw [List.length_take]; omega
  refine ⟨if c = 0 then A else A.map (·.add 0), fun W => ?_, ?_⟩
  · obtain ⟨i0, hi0, hz⟩ := Option.map_eq_some_iff.1 brc_info
    injection hz with hz0 hz1
    have hs : (sizeOf (Tryd.prog.elem 23)).run Tryd.prog W = .ok 2 W := by
      rw [show Tryd.prog.elem 23 = 45 by kernel_rfl]
      simp [sizeOf, typeInfo, hi0, hz1]
    rw [run_slice_h W 23 A n c (by kernel_rfl) .i64 (k : Int) (by omega) (by omega), hs]
    simp only [Result.andThen, Int.toNat_natCast, sliced, Nat.zero_mul, Nat.sub_zero]
  · refine ⟨_, c, by rw [hl], by omega, fun hp => ?_⟩
    obtain ⟨b, o, rfl, hb, hx⟩ := hr (by omega)
    refine ⟨b, o, ?_, hb, fun j x hj => ?_⟩
    · split
      · rfl
      · simp [add_eq]
    · rw [List.getElem?_take] at hj
      split at hj
      · exact hx j x hj
      · cases hj

set_option maxRecDepth 100000 in
set_option maxHeartbeats 3000000 in
theorem more_true (z : Int) (A : Option Addr) (n c : Nat) (b : List Nat) (v : Value) (al : List Brc) (w : World) [tz : TzW w] (hr : Rd w (.slice A n c) (bv b)) (hbb : ∀ d ∈ b, d < 256) (hnn : n ≤ 9223372036854775807) (h : Brs all w v al) (hx : ∀ x ∈ al, BrIn x) (hl : al.length ≤ 9223372036854775807) :
    Calls Tryd.prog 6 #[.int .i64 z, .slice A n c, v] w fun e w' => e = .returned (.bool true) ∧ Below w.heap.size w w' := by
  obtain rfl := hr.bytes
  obtain ⟨D, d, rfl, -⟩ := h.form
  obtain ⟨m, hm⟩ : ∃ m, m = al.length := ⟨_, rfl⟩
  rw [← hm] at h ⊢
  rw [← hm] at hl
  by_cases h0 : m = 0
  · have q0 : ((m : Int) == 0) = true := by simp; omega
    clear hr h hx hbb
    go_enter Tryd.func6, Tryd.ntmps6
    go_wp2_with fail
    refine (alive_true (Below.refl _ _)).mono ?_
    rintro e w1 ⟨rfl, hb⟩
    go_wp2_with fail
    go_ret
    exact ⟨rfl, hb⟩
  have q0 : ((m : Int) == 0) = false := by simp; omega
  obtain ⟨k, hk⟩ : ∃ k, m = k + 1 := ⟨m - 1, by omega⟩
  have qk : (m : Int) - 1 = (k : Int) := by omega
  obtain ⟨x, hxk⟩ : ∃ x, al[k]? = some x := ⟨_, List.getElem?_eq_getElem (by omega)⟩
  have eal : al = al.take k ++ [x] := by
    have h2 := List.take_add_one (l := al) (i := k)
    rw [hxk, List.take_of_length_le (by omega)] at h2
    exact h2
  obtain ⟨D2, hrl, hl2⟩ := run_upto_B h (k := k) (by omega)
  have HC := Lib.hid (first_more z b (al.take k) x)
  rw [← eal, List.length_take, Nat.min_eq_left (by omega)] at HC
  have HLESS : Hid (checkS z al = 0 → checkS z (al.take k) = 0) := Lib.hid fun h => check_less (l := al.take k) (x := x) (by rw [← eal]; exact h)
  have HG := Lib.hid (fun W (hW : Below w.heap.size w W) => great_is A c b (.slice D m d) al W hnn (SlI.below brc_ok h hW) hx (by omega))
  have HCK := Lib.hid (fun W (hW : Below w.heap.size w W) => RCheck_is z (.slice D m d) al W (SlI.below brc_ok h hW) hx)
  have HF1 : Hid (∀ W, Below w.heap.size w W → b.length ≤ 1048576 → checkS z (al.take k) = 0 → Calls Tryd.prog 18 #[.int .i64 z, .slice A b.length c, .slice D2 k d] W fun e w' => e = .returned (firstE (firstHit z b (al.take k)) 0) ∧ Below W.heap.size W w') := Lib.hid (fun W hW hbl hc => by
    have h2 := First_is z A c b (.slice D2 k d) (al.take k) W (tz.out.below hW) (hr.kept hW) hbb hbl (SlI.below brc_ok hl2 hW) (fun x hx2 => hx x (List.mem_of_mem_take hx2))
    rw [if_pos hc, hc] at h2
    exact h2)
  have HF2 : Hid (∀ W, Below w.heap.size w W → b.length ≤ 1048576 → checkS z al = 0 → Calls Tryd.prog 18 #[.int .i64 z, .slice A b.length c, .slice D m d] W fun e w' => e = .returned (firstE (firstHit z b al) 0) ∧ Below W.heap.size W w') := Lib.hid (fun W hW hbl hc => by
    have h2 := First_is z A c b (.slice D m d) al W (tz.out.below hW) (hr.kept hW) hbb hbl (SlI.below brc_ok h hW) hx
    rw [if_pos hc, hc] at h2
    exact h2)
  have hkm : k ≤ 9223372036854775806 := by omega
  clear hr h hx hbb hl2 hm h0 eal hxk hk
  go_enter Tryd.func6, Tryd.ntmps6
  go_wp2_with fail
  refine (alive_true (Below.refl _ _)).mono ?_
  rintro e w1 ⟨rfl, hb⟩
  have X1 := Lib.hid hb
  have HG1 := Lib.hid (HG.out w1 X1.out)
  clear hb HG
  go_wp2_with fail
  refine HG1.out.mono ?_
  rintro e w2 ⟨rfl, hb⟩
  have X2 := Lib.hid (X1.out.trans (hb.mono X1.out.size))
  clear hb HG1 X1
  cases hbig : bigB b al with
  | true =>
    go_wp2_with fail
    refine (alive_true (X2.out)).mono ?_
    rintro e w3 ⟨rfl, hb⟩
    have X3 := Lib.hid (X2.out.trans (hb.mono X2.out.size))
    clear hb
    go_wp2_with fail
    go_ret
    exact ⟨rfl, X3.out⟩
  | false =>
    obtain ⟨hb60, hl70⟩ := big_small hbig
    have HC2 := Lib.hid (HCK.out w2 X2.out)
    clear hbig HCK
    go_wp2_with fail
    refine HC2.out.mono ?_
    rintro e w3 ⟨rfl, hb⟩
    have X3 := Lib.hid (X2.out.trans (hb.mono X2.out.size))
    clear hb HC2 X2
    by_cases hc : checkS z al = 0
    · have HA := Lib.hid (HF1.out w3 X3.out (by omega) (HLESS.out hc))
      have HB := Lib.hid (fun W hW => HF2.out W hW (by omega) hc)
      rw [hc]
      clear HF1 HF2 hc HLESS
      rcases HC.out with ⟨e1, e2⟩ | ⟨e1, f2, t2, e2⟩ | ⟨i, f, t, hik, e1, e2⟩ | ⟨i, f, t, f2, t2, e1, e2, hlt⟩
      · rw [e1] at HA
        rw [e2] at HB
        rw [show firstE none 0 = .tuple #[.agg #[.int .i64 0, .int .i64 0, .int .i64 0], .bool false, .int .i64 0] from rfl] at HA
        rw [show firstE none 0 = .tuple #[.agg #[.int .i64 0, .int .i64 0, .int .i64 0], .bool false, .int .i64 0] from rfl] at HB
        clear HC e1 e2
        go_wp2_with fail
        refine HA.out.mono ?_
        rintro e w4 ⟨rfl, hb⟩
        have X4 := Lib.hid (X3.out.trans (hb.mono X3.out.size))
        have B4 := Lib.hid (Blk.new w4 34 #[.int .i64 0, .int .i64 0, .int .i64 0])
        have X5 := Lib.hid (X4.out.alloc X4.out.size (.cells #[.int .i64 0, .int .i64 0, .int .i64 0] 34))
        clear hb X3 HA
        go_upto_region 7 with (fail)
        generalize hP : w4.heap.size = P at *
        generalize World.alloc w4 _ = w5 at *
        clear hP X4
        have HB5 := Lib.hid (HB.out w5 X5.out)
        go_wp2_with fail
        refine HB5.out.mono ?_
        rintro e w6 ⟨rfl, hb⟩
        have X6 := Lib.hid (X5.out.trans (hb.mono X5.out.size))
        have X7 := Lib.hid (X6.out.alloc X6.out.size (.cells #[.int .i64 0, .int .i64 0, .int .i64 0] 34))
        have b7 := (B4.out.below hb B4.out.lt)
        have hlt7 := b7.lt
        have hne : P ≠ w6.heap.size := by omega
        obtain ⟨c0, c1, c2⟩ := hit_cells b7 ((Below.refl _ w6).alloc (Nat.le_refl _) (.cells #[.int .i64 0, .int .i64 0, .int .i64 0] 34))
        obtain ⟨d0, d1, d2⟩ := hit_cells (Blk.new w6 34 #[.int .i64 0, .int .i64 0, .int .i64 0]) (Below.refl _ _)
        clear hb X5 B4 HB HB5 b7
        go_wp2_with fail
        go_ret
        exact ⟨rfl, X7.out⟩
      · rw [e1] at HA
        rw [e2] at HB
        rw [show firstE none 0 = .tuple #[.agg #[.int .i64 0, .int .i64 0, .int .i64 0], .bool false, .int .i64 0] from rfl] at HA
        rw [show firstE (some (k, f2, t2)) 0 = .tuple #[.agg #[.int .i64 (k : Nat), .int .i64 (f2 : Nat), .int .i64 (t2 : Nat)], .bool true, .int .i64 0] from rfl] at HB
        clear HC e1 e2
        go_wp2_with fail
        refine HA.out.mono ?_
        rintro e w4 ⟨rfl, hb⟩
        have X4 := Lib.hid (X3.out.trans (hb.mono X3.out.size))
        have B4 := Lib.hid (Blk.new w4 34 #[.int .i64 0, .int .i64 0, .int .i64 0])
        have X5 := Lib.hid (X4.out.alloc X4.out.size (.cells #[.int .i64 0, .int .i64 0, .int .i64 0] 34))
        clear hb X3 HA
        go_upto_region 7 with (fail)
        generalize hP : w4.heap.size = P at *
        generalize World.alloc w4 _ = w5 at *
        clear hP X4
        have HB5 := Lib.hid (HB.out w5 X5.out)
        go_wp2_with fail
        refine HB5.out.mono ?_
        rintro e w6 ⟨rfl, hb⟩
        have X6 := Lib.hid (X5.out.trans (hb.mono X5.out.size))
        have X7 := Lib.hid (X6.out.alloc X6.out.size (.cells #[.int .i64 (k : Nat), .int .i64 (f2 : Nat), .int .i64 (t2 : Nat)] 34))
        have b7 := (B4.out.below hb B4.out.lt)
        have hlt7 := b7.lt
        have hne : P ≠ w6.heap.size := by omega
        obtain ⟨c0, c1, c2⟩ := hit_cells b7 ((Below.refl _ w6).alloc (Nat.le_refl _) (.cells #[.int .i64 (k : Nat), .int .i64 (f2 : Nat), .int .i64 (t2 : Nat)] 34))
        obtain ⟨d0, d1, d2⟩ := hit_cells (Blk.new w6 34 #[.int .i64 (k : Nat), .int .i64 (f2 : Nat), .int .i64 (t2 : Nat)]) (Below.refl _ _)
        clear hb X5 B4 HB HB5 b7
        have r0 : decide ((k : Int) < (k : Int)) = false := decide_eq_false (by omega)
        go_wp2_with fail
        go_ret
        exact ⟨rfl, X7.out⟩
      · rw [e1] at HA
        rw [e2] at HB
        rw [show firstE (some (i, f, t)) 0 = .tuple #[.agg #[.int .i64 (i : Nat), .int .i64 (f : Nat), .int .i64 (t : Nat)], .bool true, .int .i64 0] from rfl] at HA
        rw [show firstE (some (i, f, t)) 0 = .tuple #[.agg #[.int .i64 (i : Nat), .int .i64 (f : Nat), .int .i64 (t : Nat)], .bool true, .int .i64 0] from rfl] at HB
        clear HC e1 e2
        go_wp2_with fail
        refine HA.out.mono ?_
        rintro e w4 ⟨rfl, hb⟩
        have X4 := Lib.hid (X3.out.trans (hb.mono X3.out.size))
        have B4 := Lib.hid (Blk.new w4 34 #[.int .i64 (i : Nat), .int .i64 (f : Nat), .int .i64 (t : Nat)])
        have X5 := Lib.hid (X4.out.alloc X4.out.size (.cells #[.int .i64 (i : Nat), .int .i64 (f : Nat), .int .i64 (t : Nat)] 34))
        clear hb X3 HA
        go_upto_region 7 with (fail)
        generalize hP : w4.heap.size = P at *
        generalize World.alloc w4 _ = w5 at *
        clear hP X4
        have HB5 := Lib.hid (HB.out w5 X5.out)
        go_wp2_with fail
        refine HB5.out.mono ?_
        rintro e w6 ⟨rfl, hb⟩
        have X6 := Lib.hid (X5.out.trans (hb.mono X5.out.size))
        have X7 := Lib.hid (X6.out.alloc X6.out.size (.cells #[.int .i64 (i : Nat), .int .i64 (f : Nat), .int .i64 (t : Nat)] 34))
        have b7 := (B4.out.below hb B4.out.lt)
        have hlt7 := b7.lt
        have hne : P ≠ w6.heap.size := by omega
        obtain ⟨c0, c1, c2⟩ := hit_cells b7 ((Below.refl _ w6).alloc (Nat.le_refl _) (.cells #[.int .i64 (i : Nat), .int .i64 (f : Nat), .int .i64 (t : Nat)] 34))
        obtain ⟨d0, d1, d2⟩ := hit_cells (Blk.new w6 34 #[.int .i64 (i : Nat), .int .i64 (f : Nat), .int .i64 (t : Nat)]) (Below.refl _ _)
        clear hb X5 B4 HB HB5 b7
        have r0 : decide ((t : Int) < (t : Int)) = false := decide_eq_false (by omega)
        have r1 : decide ((i : Int) < (k : Int)) = true := decide_eq_true (by omega)
        go_wp2_with fail
        go_ret
        exact ⟨rfl, X7.out⟩
      · rw [e1] at HA
        rw [e2] at HB
        rw [show firstE (some (i, f, t)) 0 = .tuple #[.agg #[.int .i64 (i : Nat), .int .i64 (f : Nat), .int .i64 (t : Nat)], .bool true, .int .i64 0] from rfl] at HA
        rw [show firstE (some (k, f2, t2)) 0 = .tuple #[.agg #[.int .i64 (k : Nat), .int .i64 (f2 : Nat), .int .i64 (t2 : Nat)], .bool true, .int .i64 0] from rfl] at HB
        clear HC e1 e2
        go_wp2_with fail
        refine HA.out.mono ?_
        rintro e w4 ⟨rfl, hb⟩
        have X4 := Lib.hid (X3.out.trans (hb.mono X3.out.size))
        have B4 := Lib.hid (Blk.new w4 34 #[.int .i64 (i : Nat), .int .i64 (f : Nat), .int .i64 (t : Nat)])
        have X5 := Lib.hid (X4.out.alloc X4.out.size (.cells #[.int .i64 (i : Nat), .int .i64 (f : Nat), .int .i64 (t : Nat)] 34))
        clear hb X3 HA
        go_upto_region 7 with (fail)
        generalize hP : w4.heap.size = P at *
        generalize World.alloc w4 _ = w5 at *
        clear hP X4
        have HB5 := Lib.hid (HB.out w5 X5.out)
        go_wp2_with fail
        refine HB5.out.mono ?_
        rintro e w6 ⟨rfl, hb⟩
        have X6 := Lib.hid (X5.out.trans (hb.mono X5.out.size))
        have X7 := Lib.hid (X6.out.alloc X6.out.size (.cells #[.int .i64 (k : Nat), .int .i64 (f2 : Nat), .int .i64 (t2 : Nat)] 34))
        have b7 := (B4.out.below hb B4.out.lt)
        have hlt7 := b7.lt
        have hne : P ≠ w6.heap.size := by omega
        obtain ⟨c0, c1, c2⟩ := hit_cells b7 ((Below.refl _ w6).alloc (Nat.le_refl _) (.cells #[.int .i64 (k : Nat), .int .i64 (f2 : Nat), .int .i64 (t2 : Nat)] 34))
        obtain ⟨d0, d1, d2⟩ := hit_cells (Blk.new w6 34 #[.int .i64 (k : Nat), .int .i64 (f2 : Nat), .int .i64 (t2 : Nat)]) (Below.refl _ _)
        clear hb X5 B4 HB HB5 b7
        have r0 : decide ((t : Int) < (t2 : Int)) = false := decide_eq_false (by omega)
        have r1 : ((t2 : Int) == (t : Int)) = false := beq_eq_false_iff_ne.2 (by omega)
        have r2 : decide ((k : Int) < (k : Int)) = false := decide_eq_false (by omega)
        go_wp2_with fail
        go_ret
        exact ⟨rfl, X7.out⟩
    · have q1 : (((checkS z al : Nat) : Int) != 0) = true := by simp; omega
      clear HF1 HF2 HLESS HC
      go_wp2_with fail
      refine (alive_true (X3.out)).mono ?_
      rintro e w4 ⟨rfl, hb⟩
      have X4 := Lib.hid (X3.out.trans (hb.mono X3.out.size))
      clear hb
      go_wp2_with fail
      go_ret
      exact ⟨rfl, X4.out⟩
end Go.Proofs.YtcipljpalohjiaaDoor
