/-
  The contract of the document's Merge.
  Conditions: events and bytes together at most 1048576.
-/
import Derived.Test.YtakcoplpmhgoiaaEvMerge
import Derived.Deep.RegionHeld3
namespace Go.Proofs.Ytakcoplpmhgoiaa
open Go.RowKit

/-- append([]byte{}, x.Data...), and the list with that event behind it, as equations. -/
theorem ref_new {n0 : Nat} {W : World} {g : Option Nat} {l : List Ev} {v : Value} (d t : Int) (A : Option Addr) (c : Nat) (bs : List Nat) (h : MR n0 W g v l) (hrd : Rd W (.slice A bs.length c) (bv bs)) (hby : ∀ x ∈ bs, x < 256) (hne : bs ≠ []) (hx : bs.length ≤ 1048576) (hl : l.length ≤ 1048576) (hn : n0 ≤ W.heap.size) :
    ∃ A5 c5 w5 A7 c7 w7 g7, (Builtin.append_ #[23, 23] 23 #[.slice (some ⟨W.heap.size, 0, none⟩) 0 0, .slice A bs.length c]).run Try.prog (W.drew.alloc (.cells #[] 5)) = .ok (.slice A5 bs.length c5) w5 ∧
      (Builtin.append_ #[22, 22] 22 #[v, .slice (some ⟨w5.heap.size, 0, none⟩) 1 1]).run Try.prog (w5.alloc (.cells #[.int .i64 d, .int .i64 t, .slice A5 bs.length c5] 25)) = .ok (.slice A7 (l.length + 1) c7) w7 ∧
      Below n0 W w5 ∧ Below n0 W w7 ∧ MR n0 w7 g7 (.slice A7 (l.length + 1) c7) (l ++ [⟨d, t, A5, c5, bs⟩]) := by
  obtain ⟨i0, hi0, hz0, hz1, hz2⟩ := info_parts byte_info
  obtain ⟨v', w5, g5, hrun, hr, hgr, hg'⟩ := run_append_row (P := Try.prog) (W.drew.alloc (.cells #[] 5)) 23 23 23 5 i0 _ 1 Try.underlying23 hi0 hz0 hz1 hz2 rfl (Row.empty _ _ (some ⟨W.heap.size, 0, none⟩)) _ bs.length (bv bs) (by have := (Rd.alloc (w := W.drew) hrd (.cells #[] 5)).src (P := Try.prog) Try.underlying23; rwa [bv_len] at this) (by simp only [maxLen, List.length_nil]; omega) (by simp only [List.length_nil]; omega)
  obtain ⟨A5, c5, rfl⟩ := hr.form
  rw [List.nil_append] at hr hrun
  rw [bv_len] at hr hrun
  have hb5 : Below W.heap.size W w5 := ((Below.refl W.heap.size W).drew.alloc (Nat.le_refl _) _).grown hgr (by simp) (by simp)
  have hblk : g5 = (⟨d, t, A5, c5, bs⟩ : Ev).blk := hr.blk_ (by rw [bv_len]; exact List.length_pos_iff.2 hne)
  have hf5 : ∀ b, g5 = some b → W.heap.size ≤ b := by
    intro b e
    rcases hg' with e' | e'
    · rw [e'] at e; cases e
    · rw [e] at e'; simp at e'; omega
  have hown : Own1 n0 w5 ⟨d, t, A5, c5, bs⟩ := ⟨by rw [← hblk]; exact hr, fun b e => Nat.le_trans hn (hf5 b (by rw [hblk]; exact e)), hne, hby, by show bs.length ≤ _; omega⟩
  have hnew : ∀ y ∈ l, y.blk ≠ (⟨d, t, A5, c5, bs⟩ : Ev).blk := fun y hy e => by
    obtain ⟨b, hb⟩ := (h.own y hy).isSome
    have h1 := (h.own y hy).row.lt hb
    have h2 := hf5 b (by rw [hblk, ← e, hb])
    omega
  have hm5 := h.below hb5
  obtain ⟨A7, c7, w7, g7, hrun7, hr7, hgr7, hg7⟩ := append_ev (w := w5) 22 ⟨d, t, A5, c5, bs⟩ (hm5.row.alloc _) (by omega)
  have hn5 : n0 ≤ w5.heap.size := Nat.le_trans hn hb5.size
  refine ⟨A5, c5, w5, A7, c7, w7, g7, hrun, hrun7, hb5.mono hn, ((hb5.mono hn).alloc hn5 _).grown hgr7 (by simp; omega) (fun b e => h.fresh b e), MR.app (a := ⟨d, t, A5, c5, bs⟩) ⟨hown, hnew, hm5⟩ hr7 hgr7 (by rw [World.size_alloc]; exact hg7) hn5⟩

set_option maxRecDepth 100000 in
set_option maxHeartbeats 4000000 in
theorem RMerge_any (v : Value) (L : List Ev) (w : World) (h : Evs w v L) (hw : L.length + whole (pes L) ≤ 1048576) :
    Calls Try.prog 19 #[v] w (MrgTo w (mrg (pes L))) := by
  obtain ⟨A, c, rfl, hle⟩ := h.form
  have HE := Lib.hid h
  clear h hle
  go_enter Try.func19, Try.ntmps19
  go_wp2_with fail
  go_loopw [3, 4] (fun s i wr => ∃ (k : Nat) (B : Option Addr) (d : Nat) (g : Option Nat) (l : List Ev), k ≤ L.length ∧ i = .int .i64 k ∧ s = .slice B l.length d ∧ l.length ≤ 1048576 ∧ Hid (MR w.heap.size wr g (.slice B l.length d) l ∧ pes l = mrg ((pes L).take k) ∧ Below w.heap.size w wr)) (fun _ i _ => L.length - (intOf i).toNat)
  case atStart => exact ⟨0, none, 0, none, [], by omega, rfl, rfl, by simp, MR.nil _ _, rfl, Below.refl _ _⟩
  case round =>
    obtain ⟨k, B, dm, g, l, hk, rfl, rfl, hl6, HM⟩ := hrel
    by_cases hlt : k < L.length
    · obtain ⟨b, o, d, t, Aa, ca, bs, rfl, ha, c0, c1, c2, hbm, hok⟩ := HE.out.seeAt HM.out.2.2 hlt
      have hbw : b < w.heap.size := by
        obtain ⟨b', o', a', e, _, _, _, hb'⟩ := (Evs.old HE.out).at hlt
        injection e with e
        injection e with e1 e2
        rw [e1]; exact hb'
      have HN := Lib.hid (mrg_next (pes_at ha))
      have hlen1 : Hid (∀ m : List Ev, pes m = mrg ((pes L).take (k + 1)) → m.length ≤ 1048576) := fun m hm => by
        have h1 := mrg_len ((pes L).take (k + 1))
        have h2 := List.length_take_le (k + 1) (pes L)
        have h3 := congrArg List.length hm
        rw [pes_len] at h3
        omega
      have hlb : ∀ x ∈ l, x.data.length + bs.length ≤ 1048576 := by
        intro x hx
        have h1 : x.pe ∈ mrg ((pes L).take k) := by rw [← HM.out.2.1]; exact List.mem_map_of_mem hx
        have h2 := mrg_whole ((pes L).take k)
        obtain ⟨i, hi⟩ := List.mem_iff_getElem?.1 h1
        have h3 := whole_at hi
        have h4 := whole_at (pes_at ha)
        have h5 : (Ev.pe ⟨d, t, Aa, ca, bs⟩).data.length = bs.length := rfl
        have h6 : x.pe.data.length = x.data.length := rfl
        omega
      have hbs6 : bs.length ≤ 1048576 := by
        have h4 := whole_at (pes_at ha)
        have h5 : (Ev.pe ⟨d, t, Aa, ca, bs⟩).data.length = bs.length := rfl
        omega
      have HLB := Lib.hid hlb
      have HO := Lib.hid hok
      have k1 : (k : Int) < L.length := by omega
      have k0 : (0 : Int) ≤ k := by omega
      clear ha hok hlb
      by_cases hbs : bs = []
      · subst hbs
        simp only [List.length_nil] at c2
        rw [put_none rfl] at HN
        go_wp2_with fail
        go_roundw
        case rel => exact ⟨k + 1, B, dm, g, l, by omega, by go_num, rfl, hl6, HM.out.1, by rw [HM.out.2.1, HN.out], HM.out.2.2⟩
        case measure => simp [intOf]; omega
      · have hpos : 0 < bs.length := List.length_pos_iff.2 hbs
        have hz : ((bs.length : Int) == 0) = false := by simp; omega
        have HNE := Lib.hid hbs
        clear hbs
        rcases snoc_cases l with rfl | ⟨p, q, rfl⟩
        · rw [← HM.out.2.1] at HN
          have HP : Hid (mrg ((pes L).take (k + 1)) = [⟨d, t, bs⟩]) := by show _ = _; rw [HN.out]; exact put_first (by exact HNE.out)
          simp only [List.length_nil] at *
          go_wp2_with fail
          go_quiet (fail)
          generalize hV : World.drewN wr _ = V
          have HMV : Hid (MR w.heap.size V g (.slice B 0 dm) ([] : List Ev) ∧ Below w.heap.size w V) := by subst hV; exact ⟨HM.out.1.keep fun _ _ _ _ => rfl, belowN HM.out.2.2 _⟩
          have hrd : Rd V (.slice Aa bs.length ca) (bv bs) := by subst hV; exact (HO.out.keep (W' := wr.drewN _) fun _ _ _ => rfl).rd
          have y0 : V.cell? ⟨b, o + k * 3, none⟩ = some (.int .i64 d) := by subst hV; exact c0
          have y1 : V.cell? ⟨b, o + k * 3 + 1, none⟩ = some (.int .i64 t) := by subst hV; exact c1
          have y2 : V.cell? ⟨b, o + k * 3 + 2, none⟩ = some (.slice Aa bs.length ca) := by subst hV; exact c2
          obtain ⟨A5, c5, w5, A7, c7, w7, g7, hrun5, hrun7, hb5, hb7, hm7⟩ := ref_new d t Aa ca bs HMV.out.1 hrd HO.out.byte HNE.out hbs6 (by simp) HMV.out.2.size
          have a0 : w5.cell? ⟨b, o + k * 3, none⟩ = some (.int .i64 d) := (hb5.cell (p := ⟨b, o + k * 3, none⟩) hbw).trans y0
          have a1 : w5.cell? ⟨b, o + k * 3 + 1, none⟩ = some (.int .i64 t) := (hb5.cell (p := ⟨b, o + k * 3 + 1, none⟩) hbw).trans y1
          have a2 : w5.cell? ⟨b, o + k * 3 + 2, none⟩ = some (.slice Aa bs.length ca) := (hb5.cell (p := ⟨b, o + k * 3 + 2, none⟩) hbw).trans y2
          have e0 : w7.cell? ⟨b, o + k * 3, none⟩ = some (.int .i64 d) := (hb7.cell (p := ⟨b, o + k * 3, none⟩) hbw).trans y0
          have e1 : w7.cell? ⟨b, o + k * 3 + 1, none⟩ = some (.int .i64 t) := (hb7.cell (p := ⟨b, o + k * 3 + 1, none⟩) hbw).trans y1
          have e2 : w7.cell? ⟨b, o + k * 3 + 2, none⟩ = some (.slice Aa bs.length ca) := (hb7.cell (p := ⟨b, o + k * 3 + 2, none⟩) hbw).trans y2
          have lV : b < V.heap.size := World.block_lt_of_cell? V _ y0
          have l5 : b < w5.heap.size := World.block_lt_of_cell? w5 _ a0
          have Y := Lib.hid (And.intro hm7 (HMV.out.2.trans hb7))
          clear hV c0 c1 c2 hrd hb5 hb7 hm7
          simp only [List.length_nil, Nat.zero_add] at hrun7
          go_wp2_with fail
          go_region_held3 (fun w' => w'.cell? ⟨b, o + k * 3, none⟩ = some (.int .i64 d) ∧ w'.cell? ⟨b, o + k * 3 + 1, none⟩ = some (.int .i64 t) ∧ w'.cell? ⟨b, o + k * 3 + 2, none⟩ = some (.slice Aa bs.length ca)) (go_keep) (first
            | (refine step_append_run rfl (.tmp 63) (.tmp 68) _ rfl _ _ _ _ rfl rfl hrun5 ?_)
            | (refine step_append_run rfl (.tmp 52) (.tmp 71) _ rfl _ _ _ _ rfl rfl hrun7 ?_))
          all_goals
            go_wp2
            have HP2 : Hid (pes (([] : List Ev) ++ [(⟨d, t, A5, c5, bs⟩ : Ev)]) = mrg ((pes L).take (k + 1))) := by show _ = _; rw [HP.out, pes_snoc]; rfl
            have hlen2 := hlen1.out _ HP2.out
            go_roundw
            case rel => exact ⟨k + 1, A7, c7, g7, ([] : List Ev) ++ [⟨d, t, A5, c5, bs⟩], by omega, by go_num, by simp, hlen2, by have h1 := Y.out.1; simpa using h1, HP2.out, Y.out.2⟩
            case measure => simp [intOf]; omega
        · have hq := HM.out.1.own q (by simp)
          have hq6 := HLB.out q (by simp)
          simp only [List.length_append, List.length_cons, List.length_nil, Nat.zero_add] at *
          obtain ⟨bm, om, cm, e, -, -, hx⟩ := (show RowS wr 25 3 g (.slice B (p.length + 1) dm) (p.length + 1) (evcs (p ++ [q])) by have := HM.out.1.row; simpa using this).cells (by omega)
          injection e with e1 e2 e3
          subst e1 e3
          obtain ⟨q0, q1, q2⟩ := evcs_at (l := p ++ [q]) (j := p.length) (a := q) (by simp)
          have z0 : wr.cell? ⟨bm, om + p.length * 3, none⟩ = some (.int .i64 q.dir) := hx _ _ q0
          have z2 : wr.cell? ⟨bm, om + p.length * 3 + 2, none⟩ = some (.slice q.A q.data.length q.c) := by rw [Nat.add_assoc]; exact hx _ _ q2
          have i0 : (0 : Int) ≤ (p.length : Int) := by omega
          have i1 : (p.length : Int) < ((p.length + 1 : Nat) : Int) := by omega
          have i2 : (p.length : Int) < (p.length : Int) + 1 := by omega
          have hHN := HN.out
          rw [← HM.out.2.1, pes_snoc] at hHN
          clear hx q0 q1 q2 HN
          by_cases hd : q.dir = d
          · have hde : (q.dir == d) = true := by simpa using hd
            have HP : Hid (mrg ((pes L).take (k + 1)) = pes p ++ [⟨q.dir, q.time, q.data ++ bs⟩]) := by show _ = _; rw [hHN]; exact put_same (by exact HNE.out) hd
            have HDD := Lib.hid hd
            rw [hd] at z0
            clear hHN hd hde
            go_wp2_with fail
            go_quiet (fail)
            generalize hV : World.drewN wr _ = V
            have HMV : Hid (MR w.heap.size V g (.slice (some ⟨bm, om, none⟩) (p.length + 1) dm) (p ++ [q]) ∧ Below w.heap.size w V) := by subst hV; exact ⟨HM.out.1.keep fun _ _ _ _ => rfl, belowN HM.out.2.2 _⟩
            have hrd : Rd V (.slice Aa bs.length ca) (bv bs) := by subst hV; exact (HO.out.keep (W' := wr.drewN _) fun _ _ _ => rfl).rd
            have y2 : V.cell? ⟨b, o + k * 3 + 2, none⟩ = some (.slice Aa bs.length ca) := by subst hV; exact c2
            have z2' : V.cell? ⟨bm, om + p.length * 3 + 2, none⟩ = some (.slice q.A q.data.length q.c) := by subst hV; exact z2
            obtain ⟨A', c', w7, hrun, hc7, hf7, Z⟩ := more_run HMV.out.1 hrd HMV.out.2.size HO.out.byte hq6 HMV.out.2 rfl
            have HP2 : Hid (pes (p ++ [(⟨q.dir, q.time, A', c', q.data ++ bs⟩ : Ev)]) = mrg ((pes L).take (k + 1))) := by show _ = _; rw [HP.out, pes_snoc]; rfl
            clear hV c0 c1 c2 z0 z2 hrd
            go_wp2_with fail
            go_region_law (refine step_append_run rfl (.tmp 43) (.tmp 48) _ rfl _ _ _ _ rfl rfl hrun ?_)
            all_goals
              go_wp2
              go_roundw
              case rel => exact ⟨k + 1, some ⟨bm, om, none⟩, dm, g, p ++ [⟨q.dir, q.time, A', c', q.data ++ bs⟩], by omega, by go_num, by simp, by simpa using hl6, by have h1 := Z.out.1; simpa using h1, HP2.out, Z.out.2⟩
              case measure => simp [intOf]; omega
          · have hde : (q.dir == d) = false := by simpa using hd
            have HP : Hid (mrg ((pes L).take (k + 1)) = pes p ++ [q.pe] ++ [⟨d, t, bs⟩]) := by show _ = _; rw [hHN]; exact put_new (by exact HNE.out) hd
            clear hHN
            go_wp2_with fail
            go_quiet (fail)
            generalize hV : World.drewN wr _ = V
            have HMV : Hid (MR w.heap.size V g (.slice (some ⟨bm, om, none⟩) (p.length + 1) dm) (p ++ [q]) ∧ Below w.heap.size w V) := by subst hV; exact ⟨HM.out.1.keep fun _ _ _ _ => rfl, belowN HM.out.2.2 _⟩
            have hrd : Rd V (.slice Aa bs.length ca) (bv bs) := by subst hV; exact (HO.out.keep (W' := wr.drewN _) fun _ _ _ => rfl).rd
            have y0 : V.cell? ⟨b, o + k * 3, none⟩ = some (.int .i64 d) := by subst hV; exact c0
            have y1 : V.cell? ⟨b, o + k * 3 + 1, none⟩ = some (.int .i64 t) := by subst hV; exact c1
            have y2 : V.cell? ⟨b, o + k * 3 + 2, none⟩ = some (.slice Aa bs.length ca) := by subst hV; exact c2
            obtain ⟨A5, c5, w5, A7, c7, w7, g7, hrun5, hrun7, hb5, hb7, hm7⟩ := ref_new d t Aa ca bs HMV.out.1 hrd HO.out.byte HNE.out hbs6 (by simpa using hl6) HMV.out.2.size
            have a0 : w5.cell? ⟨b, o + k * 3, none⟩ = some (.int .i64 d) := (hb5.cell (p := ⟨b, o + k * 3, none⟩) hbw).trans y0
            have a1 : w5.cell? ⟨b, o + k * 3 + 1, none⟩ = some (.int .i64 t) := (hb5.cell (p := ⟨b, o + k * 3 + 1, none⟩) hbw).trans y1
            have a2 : w5.cell? ⟨b, o + k * 3 + 2, none⟩ = some (.slice Aa bs.length ca) := (hb5.cell (p := ⟨b, o + k * 3 + 2, none⟩) hbw).trans y2
            have e0 : w7.cell? ⟨b, o + k * 3, none⟩ = some (.int .i64 d) := (hb7.cell (p := ⟨b, o + k * 3, none⟩) hbw).trans y0
            have e1 : w7.cell? ⟨b, o + k * 3 + 1, none⟩ = some (.int .i64 t) := (hb7.cell (p := ⟨b, o + k * 3 + 1, none⟩) hbw).trans y1
            have e2 : w7.cell? ⟨b, o + k * 3 + 2, none⟩ = some (.slice Aa bs.length ca) := (hb7.cell (p := ⟨b, o + k * 3 + 2, none⟩) hbw).trans y2
            have lV : b < V.heap.size := World.block_lt_of_cell? V _ y0
            have l5 : b < w5.heap.size := World.block_lt_of_cell? w5 _ a0
            have Y := Lib.hid (And.intro hm7 (HMV.out.2.trans hb7))
            clear hV c0 c1 c2 hrd hb5 hb7 hm7
            simp only [List.length_append, List.length_cons, List.length_nil, Nat.zero_add] at hrun7
            go_wp2_with fail
            go_region_held3 (fun w' => w'.cell? ⟨b, o + k * 3, none⟩ = some (.int .i64 d) ∧ w'.cell? ⟨b, o + k * 3 + 1, none⟩ = some (.int .i64 t) ∧ w'.cell? ⟨b, o + k * 3 + 2, none⟩ = some (.slice Aa bs.length ca)) (go_keep) (first
              | (refine step_append_run rfl (.tmp 63) (.tmp 68) _ rfl _ _ _ _ rfl rfl hrun5 ?_)
              | (refine step_append_run rfl (.tmp 52) (.tmp 71) _ rfl _ _ _ _ rfl rfl hrun7 ?_))
            all_goals
              go_wp2
              have HP2 : Hid (pes ((p ++ [q]) ++ [(⟨d, t, A5, c5, bs⟩ : Ev)]) = mrg ((pes L).take (k + 1))) := by show _ = _; rw [HP.out, pes_snoc]; rw [pes_snoc]; rfl
              have hlen2 := hlen1.out _ HP2.out
              go_roundw
              case rel => exact ⟨k + 1, A7, c7, g7, (p ++ [q]) ++ [⟨d, t, A5, c5, bs⟩], by omega, by go_num, by simp, hlen2, by have h1 := Y.out.1; simpa using h1, HP2.out, Y.out.2⟩
              case measure => simp [intOf]; omega
    · obtain rfl : k = L.length := by omega
      rw [pes_all] at HM
      go_wp2_with fail
      go_ret
      exact ⟨B, dm, g, l, rfl, HM.out.1, HM.out.2.1, HM.out.2.2⟩
end Go.Proofs.Ytakcoplpmhgoiaa
