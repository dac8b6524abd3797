/-
  The contract of event.Merge.
  Conditions: events and bytes together at most 4194304.
-/
import Derived.Test.YtchfiiiippnigaaAppRun
import Derived.Test.YtchfiiiippnigaaEvRowM4
import Derived.Test.YtchfiiiippnigaaEvCopy4
import Derived.Test.YtchfiiiippnigaaEvSame
namespace Go.Proofs.Ytchfiiiippnigaa
open Go.RowKit

/-- What Merge leaves. -/
def MrgTo (w : World) (ps : List PE) (e : Ending) (w' : World) : Prop :=
  ∃ A c g l, e = .returned (.slice A l.length c) ∧ MR w.heap.size w' g (.slice A l.length c) l ∧ pes l = ps ∧ Below w.heap.size w w'

/-- append of bytes to the last event's, as an equation; and the list behind the store. -/
theorem more_run {n0 : Nat} {W : World} {g : Option Nat} {p : List Ev} {b : Ev} {bm o cm : Nat} {A : Option Addr} {c : Nat} {ds : List Nat} (h : MR n0 W g (.slice (some ⟨bm, o, none⟩) (p.length + 1) cm) (p ++ [b])) (hrd : Rd W (.slice A ds.length c) (bv ds))
    (hn : n0 ≤ W.heap.size) (hds : ∀ d ∈ ds, d < 256) (hmax : b.data.length + ds.length ≤ 4194304) {w0 : World} (hb : Below w0.heap.size w0 W) (h0 : w0.heap.size = n0) :
    ∃ A' c' w1, (Builtin.append_ #[31, 31] 31 #[.slice b.A b.data.length b.c, .slice A ds.length c]).run Try.prog W.drew = .ok (.slice A' (b.data.length + ds.length) c') w1 ∧ w1.cell? ⟨bm, o + p.length * 3 + 2, none⟩ = some (.slice b.A b.data.length b.c) ∧ w1.frozen? ⟨bm, o + p.length * 3 + 2, none⟩ = false ∧
      Hid (MR n0 (w1.setCell ⟨bm, o + p.length * 3 + 2, none⟩ (.slice A' (b.data.length + ds.length) c')) g (.slice (some ⟨bm, o, none⟩) (p.length + 1) cm) (p ++ [⟨b.dir, b.time, A', c', b.data ++ ds⟩]) ∧ Below w0.heap.size w0 (w1.setCell ⟨bm, o + p.length * 3 + 2, none⟩ (.slice A' (b.data.length + ds.length) c'))) := by
  obtain ⟨i0, hi0, hz0, hz1, hz2⟩ := info_parts byte_info
  have hob := h.own b (by simp)
  obtain ⟨v', w1, gb', hrun, hr, hgr, hg'⟩ := run_append_row (P := Try.prog) W.drew 31 31 31 5 i0 _ 1 Try.underlying31 hi0 hz0 hz1 hz2 rfl (Row.keep (w' := W.drew) hob.row fun _ _ => rfl) _ ds.length (bv ds) (by have := (Rd.drew hrd).src (P := Try.prog) Try.underlying31; rwa [bv_len] at this) (by rw [bv_len]; simp only [maxLen]; omega) (by rw [bv_len]; omega)
  obtain ⟨A', c', rfl⟩ := hr.form
  rw [List.length_append, bv_len, bv_len] at hr hrun
  have hgr' : W.grownBy w1 b.blk := ⟨hgr.os, hgr.tape, hgr.output, hgr.size, hgr.block⟩
  obtain ⟨h1, h2, h3, h4⟩ := h.more hr hgr' hg' hn hds (by omega)
  rw [← Nat.add_assoc] at h1
  have hbel : Below w0.heap.size w0 w1 := hb.grown hgr' hb.size (fun k e => by rw [h0]; exact hob.fresh k e)
  exact ⟨A', c', w1, hrun, h2, h3, h1, hbel.setCell (p := ⟨bm, o + p.length * 3 + 2, none⟩) (by rw [h0]; exact h.fresh bm h4) _⟩

/-- copied, and the list with that event behind it. -/
theorem copied_new {n0 : Nat} {W : World} {g : Option Nat} {l : List Ev} {v : Value} (x : Ev) (h : MR n0 W g v l) (hok : EvOk (fun _ => True) W x) (hne : x.data ≠ []) (hx : x.data.length ≤ 4194304) (hn : n0 ≤ W.heap.size) :
    Calls Try.prog 28 #[.agg #[.int .i64 x.dir, .int .i64 x.time, .slice x.A x.data.length x.c]] W fun e w5 => ∃ A5 c5, e = .returned (.agg #[.int .i64 x.dir, .int .i64 x.time, .slice A5 x.data.length c5]) ∧ Below W.heap.size W w5 ∧
      Hid (Own1 n0 w5 ⟨x.dir, x.time, A5, c5, x.data⟩ ∧ (∀ y ∈ l, y.blk ≠ (⟨x.dir, x.time, A5, c5, x.data⟩ : Ev).blk) ∧ MR n0 w5 g v l) := by
  refine (copied_any x.dir x.time x.A x.c x.data W hok.rd hx).mono ?_
  rintro e w5 ⟨A5, c5, g5, rfl, hr5, hf5, hb5⟩
  have hblk : g5 = (⟨x.dir, x.time, A5, c5, x.data⟩ : Ev).blk := hr5.blk_ (by rw [bv_len]; exact List.length_pos_iff.2 hne)
  refine ⟨A5, c5, rfl, hb5, ⟨by rw [← hblk]; exact hr5, fun b e => ?_, hne, hok.byte, by show x.data.length ≤ _; omega⟩, fun y hy e => ?_, h.below hb5⟩
  · rw [← hblk] at e
    exact Nat.le_trans hn (hf5 b e)
  · obtain ⟨b, hb⟩ := (h.own y hy).isSome
    have h1 := (h.own y hy).row.lt hb
    have h2 := hf5 b (by rw [hblk, ← e, hb])
    omega

theorem MR.app {n0 : Nat} {w5 w7 : World} {g g' : Option Nat} {v V : Value} {l : List Ev} {a : Ev} {tmp : Obj} (h : Own1 n0 w5 a ∧ (∀ y ∈ l, y.blk ≠ a.blk) ∧ MR n0 w5 g v l) (hr : RowS w7 44 3 g' V (l.length + 1) (evcs l ++ evc a)) (hg : (w5.alloc tmp).grownBy w7 g) (hg' : g' = g ∨ g' = some (w5.alloc tmp).heap.size) (hn : n0 ≤ w5.heap.size) : MR n0 w7 g' V (l ++ [a]) :=
  (h.2.2.alloc tmp).snoc (h.1.below ((Below.refl _ w5).alloc (Nat.le_refl _) _)) h.2.1 hr hg hg' (by simp; omega)

set_option maxRecDepth 100000 in
set_option maxHeartbeats 2000000 in
theorem Merge_any (v : Value) (L : List Ev) (w : World) (h : Evs w v L) (hw : L.length + whole (pes L) ≤ 4194304) :
    Calls Try.prog 23 #[v] w (MrgTo w (mrg (pes L))) := by
  obtain ⟨A, c, rfl, hle⟩ := h.form
  have HE := Lib.hid h
  clear h hle
  go_enter Try.func23, Try.ntmps23
  go_wp2_with fail
  go_loopw [3, 9] (fun s i wr => ∃ (k : Nat) (B : Option Addr) (d : Nat) (g : Option Nat) (l : List Ev), k ≤ L.length ∧ i = .int .i64 k ∧ s = .slice B l.length d ∧ l.length ≤ 4194304 ∧ Hid (MR w.heap.size wr g (.slice B l.length d) l ∧ pes l = mrg ((pes L).take k) ∧ Below w.heap.size w wr)) (fun _ i _ => L.length - (intOf i).toNat)
  case atStart => exact ⟨0, none, 0, none, [], by omega, rfl, rfl, by simp, MR.nil _ _, rfl, Below.refl _ _⟩
  case round =>
    obtain ⟨k, B, dm, g, l, hk, rfl, rfl, hl6, HW⟩ := hrel
    by_cases hlt : k < L.length
    · obtain ⟨b, o, d, t, Aa, ca, bs, rfl, ha, c0, c1, c2, hbm, hok⟩ := HE.out.seeAt HW.out.2.2 hlt
      have HN := Lib.hid (mrg_next (pes_at ha))
      have hlen1 : Hid (∀ m : List Ev, pes m = mrg ((pes L).take (k + 1)) → m.length ≤ 4194304) := fun m hm => by
        have h1 := mrg_len ((pes L).take (k + 1))
        have h2 := List.length_take_le (k + 1) (pes L)
        have h3 := congrArg List.length hm
        rw [pes_len] at h3
        omega
      have hlb : ∀ x ∈ l, x.data.length + bs.length ≤ 4194304 := by
        intro x hx
        have h1 : x.pe ∈ mrg ((pes L).take k) := by rw [← HW.out.2.1]; exact List.mem_map_of_mem hx
        have h2 := mrg_whole ((pes L).take k)
        obtain ⟨i, hi⟩ := List.mem_iff_getElem?.1 h1
        have h3 := whole_at hi
        have h4 := whole_at (pes_at ha)
        have h5 : (Ev.pe ⟨d, t, Aa, ca, bs⟩).data.length = bs.length := rfl
        have h6 : x.pe.data.length = x.data.length := rfl
        omega
      have hbs6 : bs.length ≤ 4194304 := by
        have h4 := whole_at (pes_at ha)
        have h5 : (Ev.pe ⟨d, t, Aa, ca, bs⟩).data.length = bs.length := rfl
        omega
      have HLB := Lib.hid hlb
      have HK := Lib.hid hok
      clear ha hok hlb
      go_upto_region 5 with (fail)
      obtain ⟨W, hW⟩ : ∃ W, wr.alloc (.cells #[.int .i64 d, .int .i64 t, .slice Aa bs.length ca] 44) = W := ⟨_, rfl⟩
      obtain ⟨Be, hBe⟩ : ∃ Be, wr.heap.size = Be := ⟨_, rfl⟩
      have hbx : Blk W Be 44 #[.int .i64 d, .int .i64 t, .slice Aa bs.length ca] := by rw [← hW, ← hBe]; exact Blk.new wr _ _
      have hwW : Below wr.heap.size wr W := by rw [← hW]; exact (Below.refl _ wr).alloc (Nat.le_refl _) _
      have hokW : EvOk (fun _ => True) W ⟨d, t, Aa, ca, bs⟩ := HK.out.below hwW
      have HM : Hid (MR w.heap.size W g (.slice B l.length dm) l ∧ pes l = mrg ((pes L).take k) ∧ Below w.heap.size w W) := ⟨HW.out.1.below hwW, HW.out.2.1, HW.out.2.2.trans (hwW.mono HW.out.2.2.size)⟩
      rw [hW, hBe]
      have x0 : W.cell? ⟨Be, 0, none⟩ = some (.int .i64 d) := hbx.cell 0
      have x1 : W.cell? ⟨Be, 1, none⟩ = some (.int .i64 t) := hbx.cell 1
      have x2 : W.cell? ⟨Be, 2, none⟩ = some (.slice Aa bs.length ca) := hbx.cell 2
      have HO := Lib.hid hokW
      clear hW hBe hbx hwW hokW HW HK c0 c1 c2
      by_cases hbs : bs = []
      · subst hbs
        simp only [List.length_nil] at x2 ⊢
        rw [put_none rfl] at HN
        go_wp2_with fail
        go_roundw
        case rel => exact ⟨k + 1, B, dm, g, l, by omega, by go_num, rfl, hl6, HM.out.1, by rw [HM.out.2.1, HN.out], HM.out.2.2⟩
        case measure => simp [intOf]; omega
      · have hpos : 0 < bs.length := List.length_pos_iff.2 hbs
        have hz : ((bs.length : Int) == 0) = false := by simp; omega
        have HNE := Lib.hid hbs
        clear hbs
        rcases snoc_cases l with rfl | ⟨p, q, rfl⟩
        · rw [← HM.out.2.1] at HN
          have HP : Hid (mrg ((pes L).take (k + 1)) = [⟨d, t, bs⟩]) := by show _ = _; rw [HN.out]; exact put_first (by exact HNE.out)
          simp only [List.length_nil] at *
          go_wp2_with fail
          go_quiet (fail)
          generalize hV : World.drewN W _ = V
          have HMV : Hid (MR w.heap.size V g (.slice B 0 dm) ([] : List Ev) ∧ Below w.heap.size w V) := by subst hV; exact ⟨HM.out.1.keep fun _ _ _ _ => rfl, belowN HM.out.2.2 _⟩
          have HOV : Hid (EvOk (fun _ => True) V ⟨d, t, Aa, ca, bs⟩) := by subst hV; exact HO.out.keep fun _ _ _ => rfl
          have y0 : V.cell? ⟨Be, 0, none⟩ = some (.int .i64 d) := by subst hV; exact x0
          have y1 : V.cell? ⟨Be, 1, none⟩ = some (.int .i64 t) := by subst hV; exact x1
          have y2 : V.cell? ⟨Be, 2, none⟩ = some (.slice Aa bs.length ca) := by subst hV; exact x2
          clear hV x0 x1 x2
          go_wp2_with fail
          refine (copied_new ⟨d, t, Aa, ca, bs⟩ HMV.out.1 HOV.out HNE.out hbs6 HMV.out.2.size).mono ?_
          rintro e w5 ⟨A5, c5, rfl, hb5, Z⟩
          have HB5 : Hid (Below w.heap.size w w5) := HMV.out.2.trans (hb5.mono HMV.out.2.size)
          clear hb5
          go_wp2_with (at_builtin; refine wpList_append_ev _ rfl (.tmp 44) (.tmp 47) rfl g _ 0 (evcs ([] : List Ev)) rfl (by have h1 := (Z.out.2.2.row.alloc (.cells #[.int .i64 d, .int .i64 t, .slice A5 bs.length c5] 44)); exact h1) _ (evc ⟨d, t, A5, c5, bs⟩) rfl (ev_src ⟨d, t, A5, c5, bs⟩) (by omega) ?_; intro A' c' w7 g' hrow' hgr hg'; have Y := Lib.hid (And.intro hrow' (And.intro hgr hg')); clear hrow' hgr hg')
          have HP2 : Hid (pes (([] : List Ev) ++ [(⟨d, t, A5, c5, bs⟩ : Ev)]) = mrg ((pes L).take (k + 1))) := by show _ = _; rw [HP.out, pes_snoc]; rfl
          have hlen2 := hlen1.out _ HP2.out
          go_roundw
          case rel => exact ⟨k + 1, A', c', g', ([] : List Ev) ++ [⟨d, t, A5, c5, bs⟩], by omega, by go_num, by simp, hlen2, by have h1 := MR.app (a := ⟨d, t, A5, c5, bs⟩) Z.out (by simpa using Y.out.1) Y.out.2.1 Y.out.2.2 HB5.out.size; simpa using h1, HP2.out, (HB5.out.alloc HB5.out.size _).grown Y.out.2.1 (by have := HB5.out.size; simp; omega) (fun b e => HMV.out.1.fresh b e)⟩
          case measure => simp [intOf]; omega
        · have hq := HM.out.1.own q (by simp)
          have hq6 := HLB.out q (by simp)
          simp only [List.length_append, List.length_cons, List.length_nil, Nat.zero_add] at *
          obtain ⟨bm, om, cm, e, -, -, hx⟩ := (show RowS W 44 3 g (.slice B (p.length + 1) dm) (p.length + 1) (evcs (p ++ [q])) by have := HM.out.1.row; simpa using this).cells (by omega)
          injection e with e1 e2 e3
          subst e1 e3
          obtain ⟨q0, q1, q2⟩ := evcs_at (l := p ++ [q]) (j := p.length) (a := q) (by simp)
          have z0 : W.cell? ⟨bm, om + p.length * 3, none⟩ = some (.int .i64 q.dir) := hx _ _ q0
          have z2 : W.cell? ⟨bm, om + p.length * 3 + 2, none⟩ = some (.slice q.A q.data.length q.c) := by rw [Nat.add_assoc]; exact hx _ _ q2
          have i0 : (0 : Int) ≤ (p.length : Int) := by omega
          have i1 : (p.length : Int) < ((p.length + 1 : Nat) : Int) := by omega
          have i2 : (p.length : Int) < (p.length : Int) + 1 := by omega
          have hHN := HN.out
          rw [← HM.out.2.1, pes_snoc] at hHN
          clear hx q0 q1 q2 HN
          by_cases hd : q.dir = d
          · have hde : (q.dir == d) = true := by simpa using hd
            have HP : Hid (mrg ((pes L).take (k + 1)) = pes p ++ [⟨q.dir, q.time, q.data ++ bs⟩]) := by show _ = _; rw [hHN]; exact put_same (by exact HNE.out) hd
            clear hHN
            go_wp2_with fail
            go_quiet (fail)
            generalize hV : World.drewN W _ = V
            have HMV : Hid (MR w.heap.size V g (.slice (some ⟨bm, om, none⟩) (p.length + 1) dm) (p ++ [q]) ∧ Below w.heap.size w V) := by subst hV; exact ⟨HM.out.1.keep fun _ _ _ _ => rfl, belowN HM.out.2.2 _⟩
            have hrd : Rd V (.slice Aa bs.length ca) (bv bs) := by subst hV; exact (HO.out.keep (W' := W.drewN _) fun _ _ _ => rfl).rd
            have y2 : V.cell? ⟨Be, 2, none⟩ = some (.slice Aa bs.length ca) := by subst hV; exact x2
            have z2' : V.cell? ⟨bm, om + p.length * 3 + 2, none⟩ = some (.slice q.A q.data.length q.c) := by subst hV; exact z2
            obtain ⟨A', c', w7, hrun, hc7, hf7, Z⟩ := more_run HMV.out.1 hrd HMV.out.2.size HO.out.byte hq6 HMV.out.2 rfl
            have HP2 : Hid (pes (p ++ [(⟨q.dir, q.time, A', c', q.data ++ bs⟩ : Ev)]) = mrg ((pes L).take (k + 1))) := by show _ = _; rw [HP.out, pes_snoc]; rfl
            clear hV x0 x1 x2 z0 z2 hrd
            go_wp2_with fail
            go_region_law (refine step_append_run rfl (.tmp 38) (.tmp 40) _ rfl _ _ _ _ rfl rfl hrun ?_)
            all_goals
              go_wp2
              go_roundw
              case rel => exact ⟨k + 1, some ⟨bm, om, none⟩, dm, g, p ++ [⟨q.dir, q.time, A', c', q.data ++ bs⟩], by omega, by go_num, by simp, by simpa using hl6, by have h1 := Z.out.1; simpa using h1, HP2.out, Z.out.2⟩
              case measure => simp [intOf]; omega
          · have hde : (q.dir == d) = false := by simpa using hd
            have HP : Hid (mrg ((pes L).take (k + 1)) = pes p ++ [q.pe] ++ [⟨d, t, bs⟩]) := by show _ = _; rw [hHN]; exact put_new (by exact HNE.out) hd
            clear hHN
            go_wp2_with fail
            go_quiet (fail)
            generalize hV : World.drewN W _ = V
            have HMV : Hid (MR w.heap.size V g (.slice (some ⟨bm, om, none⟩) (p.length + 1) dm) (p ++ [q]) ∧ Below w.heap.size w V) := by subst hV; exact ⟨HM.out.1.keep fun _ _ _ _ => rfl, belowN HM.out.2.2 _⟩
            have HOV : Hid (EvOk (fun _ => True) V ⟨d, t, Aa, ca, bs⟩) := by subst hV; exact HO.out.keep fun _ _ _ => rfl
            have y0 : V.cell? ⟨Be, 0, none⟩ = some (.int .i64 d) := by subst hV; exact x0
            have y1 : V.cell? ⟨Be, 1, none⟩ = some (.int .i64 t) := by subst hV; exact x1
            have y2 : V.cell? ⟨Be, 2, none⟩ = some (.slice Aa bs.length ca) := by subst hV; exact x2
            clear hV x0 x1 x2
            go_wp2_with fail
            refine (copied_new ⟨d, t, Aa, ca, bs⟩ HMV.out.1 HOV.out HNE.out hbs6 HMV.out.2.size).mono ?_
            rintro e w5 ⟨A5, c5, rfl, hb5, Z⟩
            have HB5 : Hid (Below w.heap.size w w5) := HMV.out.2.trans (hb5.mono HMV.out.2.size)
            clear hb5
            go_wp2_with (at_builtin; refine wpList_append_ev _ rfl (.tmp 44) (.tmp 47) rfl g _ (p.length + 1) (evcs (p ++ [q])) rfl (by have h1 := (Z.out.2.2.row.alloc (.cells #[.int .i64 d, .int .i64 t, .slice A5 bs.length c5] 44)); simp only [List.length_append, List.length_cons, List.length_nil, Nat.zero_add] at h1; exact h1) _ (evc ⟨d, t, A5, c5, bs⟩) rfl (ev_src ⟨d, t, A5, c5, bs⟩) (by omega) ?_; intro A' c' w7 g' hrow' hgr hg'; have Y := Lib.hid (And.intro hrow' (And.intro hgr hg')); clear hrow' hgr hg')
            have HP2 : Hid (pes ((p ++ [q]) ++ [(⟨d, t, A5, c5, bs⟩ : Ev)]) = mrg ((pes L).take (k + 1))) := by show _ = _; rw [HP.out, pes_snoc]; rw [pes_snoc]; rfl
            have hlen2 := hlen1.out _ HP2.out
            go_roundw
            case rel => exact ⟨k + 1, A', c', g', (p ++ [q]) ++ [⟨d, t, A5, c5, bs⟩], by omega, by go_num, by simp, hlen2, by have h1 := MR.app (a := ⟨d, t, A5, c5, bs⟩) Z.out (by simpa using Y.out.1) Y.out.2.1 Y.out.2.2 HB5.out.size; simpa using h1, HP2.out, (HB5.out.alloc HB5.out.size _).grown Y.out.2.1 (by have := HB5.out.size; simp; omega) (fun b e => HMV.out.1.fresh b e)⟩
            case measure => simp [intOf]; omega
    · obtain rfl : k = L.length := by omega
      rw [pes_all] at HW
      go_wp2_with fail
      go_ret
      exact ⟨B, dm, g, l, rfl, HW.out.1, HW.out.2.1, HW.out.2.2⟩
end Go.Proofs.Ytchfiiiippnigaa
