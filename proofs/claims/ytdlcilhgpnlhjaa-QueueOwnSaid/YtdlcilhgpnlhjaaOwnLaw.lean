/-
  cuecardlaw01.QueueOwn answers true for every list and every number.
  Conditions: none.
-/
import Derived.Test.YtdlcilhgpnlhjaaOwnS
import Derived.Deep.CutRange
namespace Go.Proofs.Ytdlcilhgpnlhjaa
open Go.RowKit Go.Shelf

attribute [local go_sem] Oper.semAt_some

set_option maxHeartbeats 4000000 in
set_option maxRecDepth 100000 in
theorem own_true (A : Option Addr) (c : Nat) (zs0 : List Int) (k : Int) (w : World) (h : Rd w (.slice A zs0.length c) (iv zs0)) (hm : zs0.length ≤ 9223372036854775807) :
    Calls Try.prog 7 #[.slice A zs0.length c, .int .i64 k] w fun e w' => e = .returned (.bool true) ∧ Below w.heap.size w w' := by
  obtain ⟨i0, hi0, hz0, hz1, hz2⟩ := info_parts int_info
  have hle := h.le
  obtain ⟨m, hmm⟩ : ∃ m : Nat, min zs0.length 50 = m := ⟨_, rfl⟩
  have hm1 : m ≤ zs0.length := by omega
  have hm2 : m ≤ 50 := by omega
  have hmc : m ≤ c := by omega
  have hrd := h.take hm1
  rw [← List.map_take] at hrd
  have hll : (zs0.take m).length = m := by simp; omega
  generalize zs0.take m = ls at *
  have HR := Lib.hid (And.intro hrd hll)
  clear hrd hll h
  have HMM := Lib.hid hmm
  clear hmm
  refine (callsIn_wide (n := 4)).1 ?_
  refine callsIn_of_wp_marks Try.func7 rfl trivial ?_ rfl
  simp only [Try.ntmps7, List.size_toArray, List.length_cons, List.length_nil, Nat.reduceAdd, Nat.reduceSub, Array.replicate_succ, Array.replicate_zero, List.push_toArray, List.append_toArray, List.nil_append, List.cons_append]
  refine wpIn_wide.2 ?_
  go_upto_region 1 with (fail)
  go_cut [19] from 13 to 19 (fun _ wc => ∃ (A1 : Option Addr) (c1 : Nat) (gl : Option Nat), Hid (Blk wc w.heap.size 30 #[.slice A1 ls.length c1] ∧ Blk wc (w.heap.size + 1) 4 #[.bool false] ∧ Row wc 3 gl (.slice A1 ls.length c1) (iv ls) ∧ (∀ b, gl = some b → w.heap.size ≤ b) ∧ Below w.heap.size w wc))
  case first =>
    have fin : ∀ (A1 : Option Addr) (c1 : Nat) (w1 : World) (gl : Option Nat), Row w1 3 gl (.slice A1 (([] : List Value).length + (iv ls).length) c1) ([] ++ iv ls) → (((w.alloc (.cells #[.slice A zs0.length c] 30)).alloc (.cells #[.bool false] 4)).alloc (.cells #[] 3)).grownBy w1 none → (gl = none ∨ gl = some (((w.alloc (.cells #[.slice A zs0.length c] 30)).alloc (.cells #[.bool false] 4)).alloc (.cells #[] 3)).heap.size) →
        Hid (Blk w1 w.heap.size 30 #[.slice A zs0.length c] ∧ Blk w1 (w.heap.size + 1) 4 #[.bool false] ∧ Row w1 3 gl (.slice A1 ls.length c1) (iv ls) ∧ (∀ b, gl = some b → w.heap.size ≤ b) ∧ Below w.heap.size w w1) := by
      intro A1 c1 w1 gl hrow hgr hgl
      rw [List.length_map, List.length_nil, Nat.zero_add, List.nil_append] at hrow
      have b2 := ((Blk.new w 30 #[.slice A zs0.length c]).alloc (.cells #[.bool false] 4)).alloc (.cells #[] 3)
      have b4 := (Blk.new (w.alloc (.cells #[.slice A zs0.length c] 30)) 4 #[.bool false]).alloc (.cells #[] 3)
      rw [World.size_alloc] at b4
      refine ⟨b2.keep (hgr.block _ b2.lt (by simp)), b4.keep (hgr.block _ b4.lt (by simp)), hrow, ?_, (((((Below.refl _ w).alloc (Nat.le_refl _) _).alloc (by simp) _).alloc (by simp; omega) _)).grown hgr (by simp; omega) (by simp)⟩
      intro b e
      rcases hgl with rfl | rfl
      · cases e
      · simp at e; omega
    have FIN := Lib.hid fin
    clear fin
    by_cases h50 : 50 < zs0.length
    · have hm3 : m = 50 := by have := HMM.out; omega
      subst hm3
      have h50' : (50 : Int) < zs0.length := by omega
      cases A
      all_goals
        go_wp2_with (at_builtin; refine wpList_append_row _ rfl (.tmp 13) (.tmp 18) _ rfl 3 i0 _ 8 Try.underlying30 hi0 hz0 hz1 hz2 rfl none _ [] rfl (Row.empty _ _ _) _ (iv ls) rfl (((HR.out.1.alloc _).alloc _).alloc _) (by have := HR.out.2; simp only [maxLen]; simp; omega) (by have := HR.out.2; simp; omega) ?_; intro A1 c1 w1 gl hrow hgr hgl; have X := FIN.out A1 c1 w1 gl hrow hgr hgl; simp only [List.length_map, List.length_nil, Nat.zero_add]; have d2 := X.out.1.cell 0; have f2 := X.out.1.frozen 0; simp only [List.getElem?_toArray, List.getElem?_cons_zero] at d2; clear hrow hgr hgl)
        go_meet
        case rel =>
          obtain ⟨x1, x2, x3, x4, x5⟩ := X.out
          exact ⟨A1, c1, gl, by simpa using x1.set_ 0 (.slice A1 ls.length c1), x2.far (p := ⟨w.heap.size, 0, none⟩) (by simp) _, x3.far (p := ⟨w.heap.size, 0, none⟩) (fun e => x3.ne_ x1 (by decide) e) _, x4, x5.setCell (p := ⟨w.heap.size, 0, none⟩) (Nat.le_refl _) _⟩
    · have hm3 : m = zs0.length := by have := HMM.out; omega
      subst hm3
      have h50' : ¬ ((50 : Int) < zs0.length) := by omega
      cases A
      all_goals
        go_wp2_with (at_builtin; refine wpList_append_row _ rfl (.tmp 13) (.tmp 18) _ rfl 3 i0 _ 8 Try.underlying30 hi0 hz0 hz1 hz2 rfl none _ [] rfl (Row.empty _ _ _) _ (iv ls) rfl (((HR.out.1.alloc _).alloc _).alloc _) (by have := HR.out.2; simp only [maxLen]; simp; omega) (by have := HR.out.2; simp; omega) ?_; intro A1 c1 w1 gl hrow hgr hgl; have X := FIN.out A1 c1 w1 gl hrow hgr hgl; simp only [List.length_map, List.length_nil, Nat.zero_add]; have d2 := X.out.1.cell 0; have f2 := X.out.1.frozen 0; simp only [List.getElem?_toArray, List.getElem?_cons_zero] at d2; clear hrow hgr hgl)
        go_meet
        case rel =>
          obtain ⟨x1, x2, x3, x4, x5⟩ := X.out
          exact ⟨A1, c1, gl, by simpa using x1.set_ 0 (.slice A1 ls.length c1), x2.far (p := ⟨w.heap.size, 0, none⟩) (by simp) _, x3.far (p := ⟨w.heap.size, 0, none⟩) (fun e => x3.ne_ x1 (by decide) e) _, x4, x5.setCell (p := ⟨w.heap.size, 0, none⟩) (Nat.le_refl _) _⟩
  case rest =>
    obtain ⟨A1, c1, gl, HL⟩ := hcut
    have hls : ls.length ≤ 50 := by have := HR.out.2; omega
    clear HR HMM
    go_wp2_with fail
    refine (New_yes 60 wc (by omega) (by omega)).mono ?_
    rintro e w3 ⟨rfl, hq3, hb3, -⟩
    obtain ⟨q, hq⟩ : ∃ q, wc.heap.size = q := ⟨_, rfl⟩
    have P3 : Hid (Blk w3 w.heap.size 30 #[.slice A1 ls.length c1] ∧ Blk w3 (w.heap.size + 1) 4 #[.bool false] ∧ Row w3 3 gl (.slice A1 ls.length c1) (iv ls) ∧ (∀ b, gl = some b → w.heap.size ≤ b) ∧ Below w.heap.size w w3 ∧ QAt w3 q none 60 false (iv []) ∧ w.heap.size ≤ q) := by
      obtain ⟨x1, x2, x3, x4, x5⟩ := HL.out
      exact ⟨x1.below hb3 x1.lt, x2.below hb3 x2.lt, x3.below hb3 (fun b e => x3.lt e), x4, x5.trans (hb3.mono x5.size), by rw [← hq]; exact hq3, by rw [← hq]; exact x5.size⟩
    rw [hq]
    clear hq hq3 hb3 HL
    go_wp2_with fail
    refine (alive_true _).mono ?_
    rintro e w4 ⟨rfl, hb4⟩
    obtain ⟨B5, hB5⟩ : ∃ B5, w3.heap.size = B5 := ⟨_, rfl⟩
    have b5 := (Blk.new w3 25 #[.pointer (some ⟨q, 0, none⟩)]).below hb4 (by simp)
    rw [hB5] at b5
    have P4 : Hid (Blk w4 w.heap.size 30 #[.slice A1 ls.length c1] ∧ Blk w4 (w.heap.size + 1) 4 #[.bool false] ∧ Row w4 3 gl (.slice A1 ls.length c1) (iv ls) ∧ (∀ b, gl = some b → w.heap.size ≤ b) ∧ Below w.heap.size w w4 ∧ QAt w4 q none 60 false (iv []) ∧ w.heap.size ≤ q ∧ Blk w4 B5 25 #[.pointer (some ⟨q, 0, none⟩)] ∧ w.heap.size ≤ B5) := by
      obtain ⟨x1, x2, x3, x4, x5, x6, x7⟩ := P3.out
      have hb : Below w3.heap.size w3 w4 := ((Below.refl _ w3).alloc (Nat.le_refl _) _).trans (hb4.mono (by simp))
      exact ⟨x1.below hb x1.lt, x2.below hb x2.lt, x3.below hb (fun b e => x3.lt e), x4, x5.trans (hb.mono x5.size), x6.below hb x6.blk_lt (by simp), x7, b5, by rw [← hB5]; exact x5.size⟩
    rw [hB5]
    clear hB5 b5 hb4 P3
    have d5 : w4.cell? ⟨B5, 0, none⟩ = some (.pointer (some ⟨q, 0, none⟩)) := P4.out.2.2.2.2.2.2.2.1.cell 0
    have d2 : ∀ o, (w4.alloc o).cell? ⟨w.heap.size, 0, none⟩ = some (.slice A1 ls.length c1) := fun o => (P4.out.1.alloc o).cell 0
    go_wp2_with (at_builtin; refine wpList_append_row _ rfl (.tmp 34) (.tmp 35) _ rfl 3 i0 _ 8 Try.underlying30 hi0 hz0 hz1 hz2 rfl none _ [] rfl (Row.empty _ _ _) _ (iv ls) rfl (P4.out.2.2.1.rd.alloc _) (by simp only [maxLen]; simp; omega) (by simp; omega) ?_; intro Aw cw w5 gw hrow hgr hgw; have X := Lib.hid (And.intro hrow (And.intro hgr hgw)); simp only [List.length_map, List.length_nil, Nat.zero_add]; clear hrow hgr hgw)
    have S6 : OS w (w5.alloc (.cells #[.slice Aw ls.length cw] 30)) w.heap.size (w.heap.size + 1) B5 w5.heap.size q (.slice A1 ls.length c1) (.slice Aw ls.length cw) gl gw none ls ls [] := by
      obtain ⟨x1, x2, x3, x4, x5, x6, x7, x8, x9⟩ := P4.out
      obtain ⟨hrow, hgr, hgw⟩ := X.out
      rw [List.length_map, List.length_nil, Nat.zero_add, List.nil_append] at hrow
      have hb : Below w4.heap.size w4 w5 := ((Below.refl _ w4).alloc (Nat.le_refl _) _).grown hgr (by simp) (by simp)
      have hgw' : ∀ b, gw = some b → w4.heap.size ≤ b := by
        intro b e
        rcases hgw with rfl | rfl
        · cases e
        · simp at e; omega
      have hs := x5.size
      have hs5 := hb.size
      have hlt := x1.lt
      exact ⟨(x1.below hb x1.lt).alloc _, (x2.below hb x2.lt).alloc _, (x8.below hb x8.lt).alloc _, Blk.new w5 _ _, (x3.below hb (fun b e => x3.lt e)).alloc _, hrow.alloc _, (x6.below hb x6.blk_lt (by simp)).alloc _,
        fun b e => ⟨fun e2 => by have := x3.lt e; have := hgw' b e2; omega, by simp⟩, by simp, by omega, Nat.le_refl _, by omega, x9, by omega, x7, x4, fun b e => by have := hgw' b e; omega, by simp, (x5.trans (hb.mono x5.size)).alloc (by omega) _⟩
    obtain ⟨W6, hW6⟩ : ∃ W6, w5.alloc (.cells #[.slice Aw ls.length cw] 30) = W6 := ⟨_, rfl⟩
    obtain ⟨B7, hB7⟩ : ∃ B7, w5.heap.size = B7 := ⟨_, rfl⟩
    rw [hW6, hB7] at S6
    rw [hW6, hB7]
    clear hW6 hB7 X P4 d2 d5
    have hput : Calls Try.prog 12 #[.pointer (some ⟨q, 0, none⟩), .slice A1 ls.length c1] W6.drew fun e w' => e = .returned (.int .i64 ls.length) ∧ ∃ g', Hid (OS w w' w.heap.size (w.heap.size + 1) B5 B7 q (.slice A1 ls.length c1) (.slice Aw ls.length cw) gl gw g' ls ls ls) := by
      have h0 : putN 60 false (iv []).length ls.length = ls.length := by simp [putN]; omega
      have h1 := Put_at S6.drew.qa (by omega) (by simp) S6.drew.rl.rd (by omega)
      rw [h0, List.take_of_length_le (by simp), show iv [] ++ iv ls = iv ls from rfl] at h1
      refine h1.mono ?_
      rintro e w' ⟨g', rfl, hq, ho, hg⟩
      exact ⟨rfl, g', S6.drew.turnQ hq ho (hg.imp id .inr)⟩
    have HPut := Lib.hid hput
    have d5 : W6.cell? ⟨B5, 0, none⟩ = some (.pointer (some ⟨q, 0, none⟩)) := S6.b5.cell 0
    have d2 : W6.cell? ⟨w.heap.size, 0, none⟩ = some (.slice A1 ls.length c1) := S6.b2.cell 0
    clear hput S6
    go_region_held3 (fun w' => w'.cell? ⟨B5, 0, none⟩ = some (.pointer (some ⟨q, 0, none⟩)) ∧ w'.cell? ⟨w.heap.size, 0, none⟩ = some (.slice A1 ls.length c1)) (go_keep) (first
      | (go_at_call 12; refine HPut.out.mono ?_; rintro e w7 ⟨rfl, g1, S7⟩; have d5' : w7.cell? ⟨B5, 0, none⟩ = some (.pointer (some ⟨q, 0, none⟩)) := S7.out.b5.cell 0; have d2' : w7.cell? ⟨w.heap.size, 0, none⟩ = some (.slice A1 ls.length c1) := S7.out.b2.cell 0))
    clear HPut d5 d2
    go_wp2
    go_loopw [45] (fun i wr => ∃ j : Nat, j ≤ ls.length ∧ i = .int .i64 j ∧ Hid (OS w wr w.heap.size (w.heap.size + 1) B5 B7 q (.slice A1 ls.length c1) (.slice Aw ls.length cw) gl gw g1 (stepped (fun x => wrap64 (x + 1)) j ls) ls ls)) (fun i _ => ls.length - (intOf i).toNat)
    case atStart => exact ⟨0, Nat.zero_le _, rfl, by rw [stepped_zero]; exact S7.out⟩
    case round =>
      obtain ⟨j, hj, rfl, HS⟩ := hrel
      by_cases hjl : j < ls.length
      · obtain ⟨x, hx⟩ : ∃ x, ls[j]?.getD 0 = x := ⟨_, rfl⟩
        have hsl := stepped_length (fun x => wrap64 (x + 1)) j ls hj
        obtain ⟨b, o, rfl, hc⟩ := HS.out.rl.ints.2 (by omega)
        have hcx := hc j (by omega)
        rw [stepped_at _ _ _ hjl, hx] at hcx
        obtain ⟨hset, hgr, hfz⟩ := HS.out.rl.set_ (k := j) (by rw [List.length_map]; omega) (u := .int .i64 (wrap64 (x + 1))) rfl
        have hset2 : (iv (stepped (fun x => wrap64 (x + 1)) j ls)).set j (.int .i64 (wrap64 (x + 1))) = iv (stepped (fun x => wrap64 (x + 1)) (j + 1) ls) := by
          rw [← stepped_set _ _ _ hjl, hx]; simp [iv, List.map_set]
        rw [hset2] at hset
        have X := Lib.hid (And.intro hset hgr)
        have e2 : wr.cell? ⟨w.heap.size, 0, none⟩ = some (.slice (some ⟨b, o, none⟩) ls.length c1) := HS.out.b2.cell 0
        clear hset hgr hset2 hc hx hsl
        go_wp2
        go_roundw
        case rel => exact ⟨j + 1, by omega, by go_num, HS.out.setL X.out.1 X.out.2⟩
        case measure => simp [intOf]; omega
      · obtain rfl : j = ls.length := by omega
        rw [stepped_all] at HS
        obtain ⟨ms, hms⟩ : ∃ ms, ls.map (fun x => wrap64 (x + 1)) = ms := ⟨_, rfl⟩
        have hml : ms.length = ls.length := by rw [← hms, List.length_map]
        rw [hms] at HS
        have HML := Lib.hid hml
        clear hms hml
        obtain ⟨w9, hw9⟩ : ∃ w9, wr = w9 := ⟨_, rfl⟩
        rw [hw9] at HS ⊢
        clear hw9 wr
        have e5 : w9.cell? ⟨B5, 0, none⟩ = some (.pointer (some ⟨q, 0, none⟩)) := HS.out.b5.cell 0
        go_wp2_with fail
        refine (Peek_at HS.out.qa (by rw [List.length_map]; omega) k).mono ?_
        rintro e w8 ⟨vp, gp, rfl, hrow8, hb8, hf8⟩
        rw [← List.map_take] at hrow8
        have hps : (ls.take k.toNat).length ≤ 50 := by simp; omega
        generalize ls.take k.toNat = ps at *
        obtain ⟨Ap, cp, rfl⟩ := hrow8.form
        rw [List.length_map] at hrow8 ⊢
        have P8 := Lib.hid (And.intro hrow8 (And.intro hb8 hf8))
        clear hrow8 hb8 hf8
        go_wp2
        go_loopw [60] (fun i wi => ∃ j : Nat, j ≤ ps.length ∧ i = .int .i64 j ∧ Hid (Row wi 3 gp (.slice Ap ps.length cp) (iv (stepped (fun x => wrap64 (x - 1)) j ps)) ∧ Below w9.heap.size w9 wi)) (fun i _ => ps.length - (intOf i).toNat)
        case atStart => exact ⟨0, Nat.zero_le _, rfl, by rw [stepped_zero]; exact P8.out.1, P8.out.2.1⟩
        case round =>
          obtain ⟨j, hj, rfl, HI⟩ := hrel
          by_cases hjl : j < ps.length
          · obtain ⟨x, hx⟩ : ∃ x, ps[j]?.getD 0 = x := ⟨_, rfl⟩
            have hsl := stepped_length (fun x => wrap64 (x - 1)) j ps hj
            obtain ⟨b, o, rfl, hc⟩ := HI.out.1.ints.2 (by omega)
            have hcx := hc j (by omega)
            rw [stepped_at _ _ _ hjl, hx] at hcx
            obtain ⟨hset, hgr, hfz⟩ := HI.out.1.set_ (k := j) (by rw [List.length_map]; omega) (u := .int .i64 (wrap64 (x - 1))) rfl
            have hset2 : (iv (stepped (fun x => wrap64 (x - 1)) j ps)).set j (.int .i64 (wrap64 (x - 1))) = iv (stepped (fun x => wrap64 (x - 1)) (j + 1) ps) := by
              rw [← stepped_set _ _ _ hjl, hx]; simp [iv, List.map_set]
            rw [hset2] at hset
            have X := Lib.hid (And.intro hset hgr)
            clear hset hgr hset2 hc hx hsl
            go_wp2
            go_roundw
            case rel => exact ⟨j + 1, by omega, by go_num, X.out.1, HI.out.2.grown X.out.2 HI.out.2.size P8.out.2.2⟩
            case measure => simp [intOf]; omega
          · obtain rfl : j = ps.length := by omega
            have S9 := HS.out.keep HI.out.2
            have e5' : ∀ o, (wr.alloc o).cell? ⟨B5, 0, none⟩ = some (.pointer (some ⟨q, 0, none⟩)) := fun o => (S9.b5.alloc o).cell 0
            have HS9 := Lib.hid S9
            clear S9
            go_wp2_with fail
            refine (All_at (HS9.out.qa.alloc _) (by omega)).mono ?_
            rintro e w10 ⟨Bs, vs, gs, rfl, hBs, hrs, hb10, hBs2, hgs2⟩
            obtain ⟨B11, hB11⟩ : ∃ B11, wr.heap.size = B11 := ⟨_, rfl⟩
            have hb9 : Below wr.heap.size wr w10 := ((Below.refl _ wr).alloc (Nat.le_refl _) _).trans (hb10.mono (by simp))
            have hgs3 : ∀ b, gs = some b → B11 < b := fun b e => by have := hgs2 b e; simp at this; omega
            have hI0 : OwnI w w.heap.size (w.heap.size + 1) B5 B7 B11 q (.slice A1 ls.length c1) (.slice Aw ls.length cw) gl gw gs ms ls [] w10 := by
              have b11 := (Blk.new wr 3 #[.int .i64 0]).below hb10 (by simp)
              rw [hB11] at b11
              refine ⟨g1, by rw [if_pos rfl]; exact HS9.out.keep hb9, b11, List.nil_prefix, ⟨?_, ?_, ?_⟩, by rw [← hB11]; exact HS9.out.below.size, fun b e => ⟨hrs.lt e, ?_, ?_, ?_⟩⟩
              · intro e; have := HS9.out.rl.lt e; omega
              · intro e; have := HS9.out.rs.lt e; omega
              · intro e; have := HS9.out.qa.row_lt e; omega
              · intro e2; have := HS9.out.qa.row_lt e2; have := hgs3 b e; omega
              · have := HS9.out.qa.blk_lt; have := hgs3 b e; omega
              · have := hgs3 b e; omega
            have P10 := Lib.hid (And.intro hI0 (And.intro hBs (And.intro hrs (And.intro hgs3 (HS9.out.below.trans (hb9.mono HS9.out.below.size))))))
            rw [hB11]
            clear hI0 hBs hrs hgs3 hb9 hb10 hBs2 hgs2 hB11 HS9 HS HI P8 e5' e5
            go_wp2_with fail
            refine (wpIn_wide (n := 4)).1 ?_
            refine wpIn_rangeFunc_ownG rfl (by omega) (gf := 38) (lb := #[.pointer (some ⟨Bs, 0, none⟩)]) rfl trivial (enters_of Try.func38 (by kernel_rfl) rfl)
              (all_stops 3 (by omega) Bs gs vs ls (by omega) w10 P10.out.2.1 P10.out.2.2.1) Kpt.t (Kpt.b (fun b e => P10.out.2.2.1.lt e)) (Below.refl _ _) (fun _ => rfl)
              (OwnI w w.heap.size (w.heap.size + 1) B5 B7 B11 q (.slice A1 ls.length c1) (.slice Aw ls.length cw) gl gw gs ms ls) (fun c pre _ => c = .ret ∧ ¬ (pre <+: ls)) (OwnI.own w _ _ _ _ _ _ _ _ _ _ _ _ _ _ P10.out.2.2.2.2.size) (fun _ _ _ _ _ hs _ _ => hs)
              P10.out.1 ?a1 ?assign ?body ?done ?stop
            case assign =>
              intro l x W K hK
              gi_wp2
              exact hK
            case body =>
              rintro l pre x W ⟨g, hS, b11, hpre, hne, hlb, hgs⟩ hlt
              obtain ⟨bw, ow, rfl, hcw⟩ := hS.rs.ints.2 (by omega)
              have hcx := hcw pre.length hlt
              obtain ⟨y, hy⟩ : ∃ y, ls[pre.length]?.getD 0 = y := ⟨_, rfl⟩
              rw [hy] at hcx
              have c11 : W.cell? ⟨B11, 0, none⟩ = some (.int .i64 pre.length) := b11.cell 0
              have f11 := b11.frozen 0
              have c7 : W.cell? ⟨B7, 0, none⟩ = some (.slice (some ⟨bw, ow, none⟩) ls.length cw) := hS.b7.cell 0
              have c4 : W.cell? ⟨w.heap.size + 1, 0, none⟩ = some (.bool false) := hS.b4.cell 0
              have f4 := hS.b4.frozen 0
              have c5 : W.cell? ⟨B5, 0, none⟩ = some (.pointer (some ⟨q, 0, none⟩)) := hS.b5.cell 0
              have hlt' : (pre.length : Int) < ls.length := by omega
              have Y := Lib.hid (And.intro hS (And.intro b11 (And.intro hpre (And.intro hne (And.intro hlb (And.intro hgs hy))))))
              clear hS b11 hpre hne hlb hgs hcw hy
              by_cases hxy : x = y
              · subst hxy
                by_cases hp0 : pre = []
                · subst hp0
                  have hl1 : ¬ (ls.length = 0) := by simp at hlt; omega
                  have hl2 : ¬ ((ls.length : Int) ≤ 0) := by omega
                  have hl3 : (0 : Int) < ls.length := by omega
                  have c11' : W.cell? ⟨B11, 0, none⟩ = some (.int .i64 0) := c11
                  have hcx' : W.cell? ⟨bw, ow, none⟩ = some (.int .i64 x) := hcx
                  clear c11 hcx hlt'
                  gi_wp2_with fail
                  refine ⟨trivial, ?_⟩
                  obtain ⟨hS, b11, hpre, hne, hlb, hgs, hy⟩ := Y.out
                  simp only [if_true] at hS
                  have PT := Take_at hS.qa (by rw [List.length_map]; omega) ls.length
                  rw [Int.toNat_natCast, List.take_of_length_le (by simp), List.drop_of_length_le (by simp)] at PT
                  refine (CallsIn.inRound l (callsIn_wide.2 PT)).mono ?_
                  clear PT
                  rintro e w11 ⟨vt, gt, g2, rfl, hrow, hq, ho, hf, hg⟩
                  obtain ⟨S11, c11b, n11, gs11, ko11, kp11⟩ := own_turn (xs' := []) hS b11 hne.2.2 hgs hq ho (hg.imp id .inl)
                  have d5 : w11.cell? ⟨B5, 0, none⟩ = some (.pointer (some ⟨q, 0, none⟩)) := S11.b5.cell 0
                  have d2 : w11.cell? ⟨w.heap.size, 0, none⟩ = some (.slice A1 ls.length c1) := S11.b2.cell 0
                  have Z := Lib.hid (And.intro S11 (And.intro c11b (And.intro n11 (And.intro gs11 (And.intro ko11 (And.intro kp11 (And.intro hne (And.intro hlb (And.intro hpre hy)))))))))
                  obtain ⟨At, ct, rfl⟩ := hrow.form
                  clear hS b11 hpre hne hlb hgs hy hrow hq ho hf hg S11 c11b n11 gs11 ko11 kp11 Y
                  gi_wp2_with fail
                  refine ⟨trivial, ?_⟩
                  have PP := Put_at Z.out.1.qa (by omega) (by simp) Z.out.1.rl.rd (by omega)
                  rw [show putN 60 false (iv []).length ls.length = ls.length by simp [putN]; omega, List.take_of_length_le (by rw [List.length_map, HML.out]; exact Nat.le_refl _), show iv [] ++ iv ms = iv ms from rfl] at PP
                  refine (CallsIn.inRound l (callsIn_wide.2 PP)).mono ?_
                  clear PP
                  rintro e w12 ⟨g3, rfl, hq, ho, hg⟩
                  obtain ⟨S11, c11b, n11, gs11, ko11, kp11, hne, hlb, hpre, hy⟩ := Z.out
                  obtain ⟨S12, c12b, n12, gs12, ko12, kp12⟩ := own_turn (xs' := ms) S11 c11b n11 gs11 hq ho (hg.imp id .inr)
                  have d11 : w12.cell? ⟨B11, 0, none⟩ = some (.int .i64 0) := c12b.cell 0
                  have g11 := c12b.frozen 0
                  have V := Lib.hid (And.intro S12 (And.intro c12b (And.intro n12 (And.intro gs12 (And.intro (ko11.trans ko12) (And.intro (kp11.t kp12) (And.intro hne (And.intro hlb (And.intro hpre hy)))))))))
                  clear S11 c11b n11 gs11 ko11 kp11 hne hlb hpre hy S12 c12b n12 gs12 ko12 kp12 hq ho hg Z
                  gi_wp2
                  obtain ⟨S12, c12b, n12, gs12, ko, kp, hne, hlb, hpre, hy⟩ := V.out
                  obtain ⟨h1, h2, h3⟩ := own_tick S12 c12b rfl ⟨hne.1, hne.2.1, n12⟩ hlb gs12 (pre_next hpre hlt hy) (by simp)
                  exact ⟨(ko.trans h1).from _, kp.t h2, h3⟩
                · have hpz : ((pre.length : Int) == 0) = false := by
                    cases pre
                    · exact absurd rfl hp0
                    · simp; omega
                  gi_wp2
                  obtain ⟨hS, b11, hpre, hne, hlb, hgs, hy⟩ := Y.out
                  obtain ⟨h1, h2, h3⟩ := own_tick hS b11 rfl hne hlb hgs (pre_next hpre hlt hy) (by simp [hp0])
                  rw [List.length_append, List.length_cons, List.length_nil] at h1 h2 h3
                  exact ⟨h1.from _, h2, h3⟩
              · have hbx : (x != y) = true := by simpa using hxy
                clear hxy
                gi_wp2
                exact ⟨(KeepsOthers.setCell _ _ _).from _, rfl, pre_not Y.out.2.2.2.2.2.2 hbx⟩
            case done =>
              rintro D ys W hD hys hI hK
              rw [hys] at hI
              clear hys
              obtain ⟨g, hS, b11, -, hne, hlb, hgs⟩ := hI
              have hxs : (if ls = [] then ls else ms) = ms := by
                split
                · rename_i e
                  have h1 := HML.out
                  rw [e] at h1 ⊢
                  exact (List.eq_nil_of_length_eq_zero (by simpa using h1)).symm
                · rfl
              rw [hxs] at hS
              clear hxs
              have c11 : W.cell? ⟨B11, 0, none⟩ = some (.int .i64 ls.length) := b11.cell 0
              have c7 : W.cell? ⟨B7, 0, none⟩ = some (.slice Aw ls.length cw) := hS.b7.cell 0
              have c5 : W.cell? ⟨B5, 0, none⟩ = some (.pointer (some ⟨q, 0, none⟩)) := hS.b5.cell 0
              have c2 : W.cell? ⟨w.heap.size, 0, none⟩ = some (.slice A1 ls.length c1) := hS.b2.cell 0
              have hml50 : ms.length ≤ 50 := by rw [HML.out]; exact hls
              have hall : Calls Try.prog 24 #[.pointer (some ⟨q, 0, none⟩)] W.drew (AllGot W.drew ms) := all_of (.pointer (some ⟨q, 0, none⟩)) ms (by omega) W.drew (All_at (QAt.alloc (w := W.drew) hS.qa _) (by omega))
              have hDlt := lt_of_heap hK
              have hwD : w.heap.size ≤ D := by have := P10.out.2.2.2.2.size; omega
              have hall2 : Calls Try.prog 24 #[.pointer (some ⟨q, 0, none⟩)] W.drew fun e w' => ∃ At ct, e = .returned (.slice At ls.length ct) ∧ Hid (Rd w' (.slice At ls.length ct) (iv ms) ∧ Rd w' (.slice A1 ls.length c1) (iv ms) ∧ Below w.heap.size w w' ∧ Blk w' (w.heap.size + 1) 4 #[.bool false] ∧ w'.heap[D]? = some (.deferred (some []))) ∧ w'.cell? ⟨B11, 0, none⟩ = some (.int .i64 ls.length) ∧ w'.cell? ⟨B7, 0, none⟩ = some (.slice Aw ls.length cw) ∧ w'.cell? ⟨B5, 0, none⟩ = some (.pointer (some ⟨q, 0, none⟩)) ∧ w'.cell? ⟨w.heap.size, 0, none⟩ = some (.slice A1 ls.length c1) := by
                refine hall.mono ?_
                rintro e w' ⟨At, ct, rfl, hrd, hb⟩
                rw [HML.out] at hrd ⊢
                have hb' : Below W.heap.size W w' := ⟨hb.os, hb.tape, hb.output, hb.size, hb.block⟩
                have S' := hS.keep hb'
                exact ⟨At, ct, rfl, ⟨hrd, S'.rl.rd, S'.below, S'.b4, (hb'.block D hDlt).trans hK⟩, (b11.below hb' b11.lt).cell 0, S'.b7.cell 0, S'.b5.cell 0, S'.b2.cell 0⟩
              have HAll := Lib.hid hall2
              have n11 : ¬ (B11 = w.heap.size + 1) := b11.ne_ hS.b4 (by decide)
              have n7 : ¬ (B7 = w.heap.size + 1) := hS.b7.ne_ hS.b4 (by decide)
              have n5 : ¬ (B5 = w.heap.size + 1) := hS.b5.ne_ hS.b4 (by decide)
              have n11' : ¬ (w.heap.size + 1 = B11) := fun e => n11 e.symm
              have n7' : ¬ (w.heap.size + 1 = B7) := fun e => n7 e.symm
              have n5' : ¬ (w.heap.size + 1 = B5) := fun e => n5 e.symm
              clear hall hall2 hS b11 hne hlb hgs P10 hK hD hDlt
              go_wp2_with fail
              go_region_held3 (fun w' => w'.cell? ⟨B11, 0, none⟩ = some (.int .i64 ls.length) ∧ w'.cell? ⟨B7, 0, none⟩ = some (.slice Aw ls.length cw) ∧ w'.cell? ⟨B5, 0, none⟩ = some (.pointer (some ⟨q, 0, none⟩)) ∧ w'.cell? ⟨w.heap.size, 0, none⟩ = some (.slice A1 ls.length c1)) (go_keep) (first
                | (go_at_call 24; refine HAll.out.mono ?_; rintro e w13 ⟨At, ct, rfl, H13, k11, k7, k5, k2⟩)
                | (go_at_call 14; refine (Same_eq ms _ _ _ _ _ _ _ (by exact H13.out.1) (by exact H13.out.2.1) (by omega)).mono ?_; rintro e w14 ⟨rfl, nf, rfl⟩; have c4 : w13.cell? ⟨w.heap.size + 1, 0, none⟩ = some (.bool false) := H13.out.2.2.2.1.cell 0; have f4 : w13.frozen? ⟨w.heap.size + 1, 0, none⟩ = false := H13.out.2.2.2.1.frozen 0))
              all_goals
                go_wp2
                obtain ⟨hr1, hr2, hbw, hb4, hK13⟩ := H13.out
                have hK14 := (KeepsOthers.setCell (w13.drewN nf) ⟨w.heap.size + 1, 0, none⟩ (.bool true)).same D _ hK13 rfl
                refine ⟨by simp, .inl ⟨_, _, rfl, run_takeDeferred hK14, ?_⟩⟩
                have hb4' : Blk ((w13.drewN nf).setCell ⟨w.heap.size + 1, 0, none⟩ (.bool true)) (w.heap.size + 1) 4 #[.bool true] := Blk.set_ (w := w13.drewN nf) hb4 0 (.bool true)
                have hc5 := cell_kept (hb4'.cell 0) (grownBy_putObj' _ D (.deferred none)) (fun r e => by cases e; exact ⟨_, hK14, rfl⟩)
                have hbw' : Below w.heap.size w (w13.drewN nf) := ⟨hbw.os, hbw.tape, hbw.output, hbw.size, hbw.block⟩
                refine ⟨.bool true, ?_, rfl, (hbw'.setCell (p := ⟨w.heap.size + 1, 0, none⟩) (by simp) _).trans (belowK_b (w := w) (Nat.le_refl _) _ D _ _ hwD hK14 rfl rfl)⟩
                simp [results, Try.f7, go_sem, hc5]
            case stop =>
              rintro D c pre W hD hsp ⟨rfl, hn⟩ hK
              exact absurd hsp hn
end Go.Proofs.Ytdlcilhgpnlhjaa
