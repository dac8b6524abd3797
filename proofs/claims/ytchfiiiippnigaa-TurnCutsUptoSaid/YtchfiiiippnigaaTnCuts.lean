/-
  The law TurnCuts: however events are cut, their turns are the same.
  Conditions: events and bytes together at most 1048576.
-/
import Derived.Test.YtchfiiiippnigaaTnAlive
import Derived.Test.YtchfiiiippnigaaEvTake
import Derived.Test.YtchfiiiippnigaaKInt
import Derived.Test.YtchfiiiippnigaaCut
import Derived.Test.YtchfiiiippnigaaAppRun
import Derived.Deep.RegionHeld3
import Derived.Deep.QuietTactic
import Derived.BigQuiet
import Derived.Deep.DeepCutAuto
import Derived.Deep.CutBlock
namespace Go.Proofs.Ytchfiiiippnigaa
open Go.RowKit

theorem turns_tri (l : List PE) (d t1 t2 t3 : Int) (bs : List Nat) (k : Nat) : turns (l ++ [⟨d, t1, bs.take k⟩, ⟨d, t2, []⟩, ⟨d, t3, bs.drop k⟩]) = tput (turns l) d bs := by
  rw [turns_append]
  show tput (tput (tput (turns l) d (bs.take k)) d []) d (bs.drop k) = _
  rw [tput_nil, tput_two, List.take_append_drop]
theorem whole_tri (l : List PE) (d t1 t2 t3 : Int) (bs : List Nat) (k : Nat) : whole (l ++ [⟨d, t1, bs.take k⟩, ⟨d, t2, []⟩, ⟨d, t3, bs.drop k⟩]) = whole l + bs.length := by
  rw [whole_append, whole_cons, whole_cons, whole_cons]
  simp [whole]
  omega
theorem ok_of_rdT {S : Nat → Prop} {W : World} {d t : Int} {A : Option Addr} {c : Nat} {bs : List Nat} (h : RdT S W (.slice A bs.length c) (bv bs)) (hb : ∀ x ∈ bs, x < 256) (hm : bs.length ≤ 9223372036854775807) : EvOk S W ⟨d, t, A, c, bs⟩ := by
  obtain ⟨hr, hS⟩ := h
  refine ⟨hr, hm, hb, fun hp p e => ?_⟩
  dsimp only at hp e
  obtain ⟨A', c', e', -, -, hx⟩ := hr
  injection e' with e1 e2 e3
  subst e1 e3
  obtain ⟨b, o, rfl, -⟩ := hx (by rw [bv_len]; exact hp)
  injection e with e
  subst e
  exact hS b o _ _ rfl (by rw [bv_len]; exact hp)
theorem ok_none (S : Nat → Prop) (W : World) (d t : Int) : EvOk S W ⟨d, t, none, 0, []⟩ := ⟨(Row.nil W 5).rd, by simp, by simp, fun hp => by simp at hp⟩
theorem evcs_app (l m : List Ev) : evcs (l ++ m) = evcs l ++ evcs m := by simp [evcs]
section
variable {D T : Nat → Prop} {W W' : World} {g g' : Option Nat} {v v' : Value} {l : List Ev}
/-- Behind an append of several events. -/
theorem EL.more {ms : List Ev} (h : EL D T W g v l) (ha : ∀ a ∈ ms, EvOk (fun b => D b ∨ (T b ∧ ∃ cs, W.heap[b]? = some (.cells cs 5 (0, 0)))) W a) (hr : RowS W' 44 3 g' v' (l.length + ms.length) (evcs l ++ evcs ms)) (hg : W.grownBy W' g) (hg' : g' = g ∨ g' = some W.heap.size) (hT : T W.heap.size ∧ ¬ D W.heap.size) : EL D T W' g' v' (l ++ ms) := by
  have hk : ∀ b, (D b ∨ (T b ∧ ∃ cs, W.heap[b]? = some (.cells cs 5 (0, 0)))) → b < W.heap.size → W'.heap[b]? = W.heap[b]? := by
    intro b hb hlt
    refine hg.block b hlt fun e => ?_
    obtain ⟨cs', hh⟩ := h.row.obj e.symm
    rcases hb with hb | ⟨_, cs, hb⟩
    · exact (h.fresh b e.symm).2 hb
    · rw [hh] at hb
      injection hb with hb
      injection hb with _ hb
      cases hb
  refine ⟨by rw [evcs_app, List.length_append]; exact hr, ?_, fun x hx => ?_⟩
  · rcases hg' with rfl | rfl
    · exact h.fresh
    · intro b e; cases e; exact hT
  · rcases List.mem_append.1 hx with hx | hx
    · exact (h.ok x hx).tkeep hk
    · exact (ha x hx).tkeep hk
end
/-- append(l, three...), as an equation. -/
theorem cut_new {w W : World} {g : Option Nat} {v : Value} {l : List Ev} {d : Int} {A1 A2 : Option Addr} {c1 c2 : Nat} {x y : List Nat} (h : EL (fun b => b < w.heap.size) (fun b => w.heap.size ≤ b) W g v l) (hb : Below w.heap.size w W)
    (h1 : EvOk (fun b => b < w.heap.size) w ⟨d, 0, A1, c1, x⟩) (h2 : EvOk (fun b => b < w.heap.size) w ⟨d, 0, A2, c2, y⟩) (hl : l.length ≤ 180) :
    ∃ A7 c7 w7, (Builtin.append_ #[22, 22] 22 #[v, .slice (some ⟨W.heap.size, 0, none⟩) 3 3]).run Try.prog (W.drew.alloc (.cells #[.int .i64 d, .int .i64 0, .slice A1 x.length c1, .int .i64 d, .int .i64 9, .slice none 0 0, .int .i64 d, .int .i64 0, .slice A2 y.length c2] 44)) = .ok (.slice A7 (l.length + 3) c7) w7 ∧
      (∀ b, b < W.heap.size → g ≠ some b → w7.heap[b]? = W.heap[b]?) ∧ ELi w (.slice A7 (l.length + 3) c7) (l ++ [⟨d, 0, A1, c1, x⟩, ⟨d, 9, none, 0, []⟩, ⟨d, 0, A2, c2, y⟩]) w7 := by
  obtain ⟨i0, hi0, hz0, hz1, hz2⟩ := info_parts ev_info
  obtain ⟨V, hV⟩ : ∃ V, W.drew.alloc (.cells #[.int .i64 d, .int .i64 0, .slice A1 x.length c1, .int .i64 d, .int .i64 9, .slice none 0 0, .int .i64 d, .int .i64 0, .slice A2 y.length c2] 44) = V := ⟨_, rfl⟩
  have hbV : Below W.heap.size W V := by rw [← hV]; exact (Below.refl W.heap.size W).drew.alloc (Nat.le_refl _) _
  have hbx : Blk V W.heap.size 44 #[.int .i64 d, .int .i64 0, .slice A1 x.length c1, .int .i64 d, .int .i64 9, .slice none 0 0, .int .i64 d, .int .i64 0, .slice A2 y.length c2] := by rw [← hV]; exact Blk.new W.drew _ _
  have hlV : V.heap.size = W.heap.size + 1 := by rw [← hV]; simp
  rw [hV]
  have hsrc : Src Try.prog 3 22 (.slice (some ⟨W.heap.size, 0, none⟩) 3 3) 3 (evcs [⟨d, 0, A1, c1, x⟩, ⟨d, 9, none, 0, []⟩, ⟨d, 0, A2, c2, y⟩]) V :=
    Src.ofSlice _ Try.underlying22 ⟨W.heap.size, 0, none⟩ 3 3 _ rfl (fun j u hu => by rw [add_eq, Nat.zero_add, hbx.cell j, List.getElem?_toArray]; exact hu) (evcs_one _)
  obtain ⟨v7, w7, g7, hrun7, hr7, hg7, hg7'⟩ := run_append_rowS (P := Try.prog) _ 22 22 22 44 i0 _ 3 40 Try.underlying22 hi0 hz0 hz1 hz2 rfl (h.below hbV).row _ 3 _ hsrc (by simp only [maxLen]; omega) (by omega)
  obtain ⟨A7, c7, rfl, hle7⟩ := hr7.form
  have hbw : Below w.heap.size w V := hb.trans (hbV.mono hb.size)
  refine ⟨A7, c7, w7, hrun7, fun b hlt hne => (hg7.block b (by omega) (fun e => hne e.symm)).trans (hbV.block b hlt), g7, ?_, hbw.grown hg7 hbw.size (fun k e => (h.fresh k e).1)⟩
  refine EL.more (h.below hbV) (fun a ha => ?_) hr7 hg7 hg7' ⟨by have := hb.size; omega, by have := hb.size; omega⟩
  have hk : ∀ {a : Ev}, EvOk (fun b => b < w.heap.size) w a → EvOk (fun b => b < w.heap.size ∨ (w.heap.size ≤ b ∧ ∃ cs, V.heap[b]? = some (.cells cs 5 (0, 0)))) V a := fun h => (h.keep fun b hb _ => hbw.block b hb).mono fun b _ hb => .inl hb
  simp only [List.mem_cons, List.not_mem_nil, or_false] at ha
  rcases ha with rfl | rfl | rfl
  · exact hk h1
  · exact hk (ok_none _ _ _ _)
  · exact hk h2

theorem cut_numT {n : Nat} (z : Int) : ∃ k : Nat, (IntKind.u64.wrap z).tmod ((n : Int) + 1) = (k : Int) ∧ k ≤ n := by
  have h0 : 0 ≤ (IntKind.u64.wrap z).tmod ((n : Int) + 1) := Int.tmod_nonneg _ (by rw [IntKind.wrap_u64]; omega)
  have h1 : (IntKind.u64.wrap z).tmod ((n : Int) + 1) < (n : Int) + 1 := Int.tmod_lt_of_pos _ (by omega)
  exact ⟨((IntKind.u64.wrap z).tmod ((n : Int) + 1)).toNat, by omega, by omega⟩

set_option maxRecDepth 100000 in
set_option maxHeartbeats 8000000 in
theorem cuts_true (v : Value) (L0 : List Ev) (A1 : Option Addr) (n1 c1 : Nat) (zs : List Int) (w : World) (h : Evs w v L0) (hz : Rd w (.slice A1 n1 c1) (iv zs)) (hw0 : L0.length + whole (pes L0) ≤ 1048576) :
    Calls Try.prog 6 #[v, .slice A1 n1 c1] w fun e w' => e = .returned (.bool true) ∧ Below w.heap.size w w' := by
  obtain ⟨A0, c, rfl, hle⟩ := h.form
  obtain ⟨m, hm1, hm2, hm3⟩ : ∃ m : Nat, m ≤ L0.length ∧ m ≤ 60 ∧ min (L0.length : Int) 60 = (m : Int) := ⟨min L0.length 60, Nat.min_le_left _ _, Nat.min_le_right _ _, by omega⟩
  obtain ⟨A, hsl, hE⟩ := run_firstE h hm1
  have hLl : (L0.take m).length = m := by simp; omega
  have hww : whole (pes (L0.take m)) ≤ whole (pes L0) := by rw [pes_takeL]; exact whole_take (pes L0) m
  generalize L0.take m = L at *
  obtain rfl : L.length = m := hLl
  have hw : L.length + whole (pes L) ≤ 1048576 := by omega
  have HE : Hid (Evs w (.slice A L.length c) L) := Lib.hid hE
  have HW : Hid (∀ j, whole ((pes L).take j) ≤ 1048576) := Lib.hid fun j => by have := whole_take (pes L) j; omega
  have HSL := Lib.hid (And.intro hsl hm3)
  obtain ⟨hnz, -⟩ := hz.ints
  subst hnz
  have HZ := Lib.hid hz
  clear h hle hE hz
  go_enter Try.func6, Try.ntmps6
  go_wp2_with fail
  clear hsl hm3
  go_loopw [5, 16] (fun s i wr => ∃ (k : Nat) (B : Option Addr) (dm : Nat) (l : List Ev), k ≤ L.length ∧ i = .int .i64 k ∧ s = .slice B l.length dm ∧ Hid (l.length = 3 * k ∧ turns (pes l) = turns ((pes L).take k) ∧ whole (pes l) = whole ((pes L).take k) ∧ ELi w (.slice B l.length dm) l wr)) (fun _ i _ => L.length - (intOf i).toNat)
  case atStart => exact ⟨0, none, 0, [], by omega, rfl, rfl, Lib.hid ⟨rfl, rfl, rfl, none, EL.nil _ _ _, Below.refl _ _⟩⟩
  case round =>
    obtain ⟨k, B, dm, l, hk, rfl, rfl, HM⟩ := hrel
    by_cases hlt : k < L.length
    · obtain ⟨g, hel, hbel⟩ := HM.out.2.2.2
      have hll : l.length ≤ 180 := by have := HM.out.1; omega
      obtain ⟨b, o, ⟨d, t, Aa, ca, bs⟩, rfl, ha, hat, hok, hbw⟩ := EvsIn.at (Evs.old HE.out) hlt
      have HA := Lib.hid (hat.keep (W' := wr) (hbel.block b hbw))
      have c0 : wr.cell? ⟨b, o + k * 3, none⟩ = some (.int .i64 d) := HA.out.dir
      have c1 : wr.cell? ⟨b, o + k * 3 + 1, none⟩ = some (.int .i64 t) := HA.out.time
      have c2 : wr.cell? ⟨b, o + k * 3 + 2, none⟩ = some (.slice Aa bs.length ca) := HA.out.data
      have HO := Lib.hid hok
      have HN := Lib.hid (pes_take ha)
      have hbs : bs.length ≤ 1048576 := by have h1 := whole_at (pes_at ha); have : bs.length = (Ev.pe ⟨d, t, Aa, ca, bs⟩).data.length := rfl; omega
      have X := Lib.hid (And.intro hel hbel)
      clear ha hat hok hel hbel HA
      go_upto_region 6 with (fail)
      obtain ⟨W, hW⟩ : ∃ W, wr.alloc (.cells #[.int .i64 d, .int .i64 t, .slice Aa bs.length ca] 44) = W := ⟨_, rfl⟩
      obtain ⟨Be, hBe⟩ : ∃ Be, wr.heap.size = Be := ⟨_, rfl⟩
      have hbx : Blk W Be 44 #[.int .i64 d, .int .i64 t, .slice Aa bs.length ca] := by rw [← hW, ← hBe]; exact Blk.new wr _ _
      have hwW : Below wr.heap.size wr W := by rw [← hW]; exact (Below.refl _ wr).alloc (Nat.le_refl _) _
      have hgB : g ≠ some Be := fun e => by have := X.out.1.row.lt e; omega
      have Y := Lib.hid (And.intro (X.out.1.below hwW) (And.intro (X.out.2.trans (hwW.mono X.out.2.size)) (And.intro hbx hgB)))
      have b0 : W.cell? ⟨Be, 2, none⟩ = some (.slice Aa bs.length ca) := hbx.cell 2
      rw [hW, hBe]
      clear hW hBe hbx hwW hgB X c0 c1 c2
      go_upto_if 24 with (fail)
      go_cut [8] (fun s8 wc => ∃ q : Nat, q ≤ bs.length ∧ s8 = .int .i64 q ∧ Hid (Below W.heap.size W wc))
      case first =>
        by_cases hz : k < zs.length
        · obtain ⟨b1, o1, rfl, hx⟩ := (HZ.out.kept Y.out.2.1).ints.2.2 (by omega)
          have y := hx k hz
          generalize zs[k]?.getD 0 = z at *
          obtain ⟨q, hq, hqn⟩ := cut_numT (n := bs.length) z
          have f1 : IntKind.i64.wrap ((bs.length : Int) + 1) = (bs.length : Int) + 1 := by rw [IntKind.wrap_i64]; omega
          have f2 : IntKind.u64.wrap ((bs.length : Int) + 1) = (bs.length : Int) + 1 := by rw [IntKind.wrap_u64]; omega
          have f3 : IntKind.i64.wrap (q : Int) = (q : Int) := by rw [IntKind.wrap_i64]; omega
          have HX := Lib.hid hx
          clear hx
          go_wp2_with fail
          go_quiet (fail)
          go_wp2_with fail
          go_meet
          case rel => exact ⟨q, hqn, rfl, Lib.hid (belowN (Below.refl _ _) _)⟩
        · go_wp2_with fail
          go_meet
          case rel => exact ⟨0, by omega, rfl, Lib.hid (Below.refl _ _)⟩
      case rest =>
        obtain ⟨q, hqn, rfl, HB⟩ := hcut
        obtain ⟨hel0, hbw0, hbx0, hgB⟩ := Y.out
        have hbx := hbx0.below HB.out hbx0.lt
        have hrd : Rd w (.slice Aa bs.length ca) (bv bs) := HO.out.rd
        obtain ⟨A2, hs2, hr2⟩ := run_upto hrd hqn
        obtain ⟨A3, c3, N, hs3, hr3, hN⟩ := run_from hrd hqn
        have e2 : (bs.take q).length = q := by rw [List.length_take]; omega
        have e3 : (bs.drop q).length = N := by rw [List.length_drop]; omega
        have hok2 : EvOk (fun b => b < w.heap.size) w ⟨d, 0, A2, ca, bs.take q⟩ := ok_of_rdT (by rw [e2]; exact hr2.old) (fun x hx => HO.out.byte x (List.mem_of_mem_take hx)) (by rw [e2]; omega)
        have hok3 : EvOk (fun b => b < w.heap.size) w ⟨d, 0, A3, c3, bs.drop q⟩ := ok_of_rdT (by rw [e3]; exact hr3.old) (fun x hx => HO.out.byte x (List.mem_of_mem_drop hx)) (by rw [e3]; omega)
        obtain ⟨A7, c7, w7, hrun7, hk7, hE7⟩ := cut_new (hel0.below HB.out) (hbw0.trans (HB.out.mono hbw0.size)) hok2 hok3 hll
        rw [e2, e3] at hrun7
        have x0 : wc.cell? ⟨Be, 0, none⟩ = some (.int .i64 d) := hbx.cell 0
        have x2 : wc.cell? ⟨Be, 2, none⟩ = some (.slice Aa bs.length ca) := hbx.cell 2
        have b7 : Blk w7 Be 44 #[.int .i64 d, .int .i64 t, .slice Aa bs.length ca] := hbx.keep (hk7 Be hbx.lt hgB)
        have y0 : w7.cell? ⟨Be, 0, none⟩ = some (.int .i64 d) := b7.cell 0
        have y2 : w7.cell? ⟨Be, 2, none⟩ = some (.slice Aa bs.length ca) := b7.cell 2
        have lW := hbx.lt
        have Z := Lib.hid hE7
        have E23 := Lib.hid (And.intro e2 (And.intro e3 hN))
        clear hrd hel0 hbw0 hbx0 hgB hbx hr2 hr3 e2 e3 hN hok2 hok3 hk7 hE7 b7 HB b0
        go_wp2_with fail
        go_region_held3 (fun w' => w'.cell? ⟨Be, 0, none⟩ = some (.int .i64 d) ∧ w'.cell? ⟨Be, 2, none⟩ = some (.slice Aa bs.length ca)) (go_keep) (refine step_append_run rfl (.tmp 37) (.tmp 55) _ rfl _ _ _ _ rfl rfl hrun7 ?_)
        all_goals
          go_wp2_with fail
          go_roundw
          case rel =>
            refine ⟨k + 1, A7, c7, l ++ [⟨d, 0, A2, ca, bs.take q⟩, ⟨d, 9, none, 0, []⟩, ⟨d, 0, A3, c3, bs.drop q⟩], by omega, by go_num, by simp, Lib.hid ⟨?_, ?_, ?_, ?_⟩⟩
            · rw [List.length_append, HM.out.1]; simp; omega
            · rw [pes_append, HN.out, turns_snoc, ← HM.out.2.1]; exact turns_tri (pes l) d 0 9 0 bs q
            · rw [HN.out, pes_append]; refine (whole_tri (pes l) d 0 9 0 bs q).trans ?_; rw [whole_append, ← HM.out.2.2.1]; simp [whole, Ev.pe]
            · have h1 := Z.out; simpa using h1
          case measure => simp [intOf]; omega
    · obtain rfl : k = L.length := by omega
      rw [pes_all] at HM
      obtain ⟨hn3, htu, hwh, g, hel, hbel⟩ := HM.out
      have hE : Evs wr (.slice B l.length dm) l := hel.evsIn (by omega) (fun _ _ => trivial) (fun _ _ => trivial)
      have hwl : whole (pes l) ≤ 1048576 := by rw [hwh]; have := HW.out L.length; rwa [pes_all] at this
      have hll : l.length ≤ 180 := by omega
      have OP : Hid (∀ W, Below wr.heap.size wr W → Calls Try.prog 12 #[.slice B l.length dm] W (TnsTo W (turns (pes L)))) := Lib.hid fun W hb => by rw [← htu]; exact Of_is _ l W (hE.below hb) (by omega)
      have OL : Hid (∀ W, Below wr.heap.size wr W → Calls Try.prog 12 #[.slice A L.length c] W (TnsTo W (turns (pes L)))) := Lib.hid fun W hb => Of_is _ L W (HE.out.below (hbel.trans (hb.mono hbel.size))) (by omega)
      have hlt' : (turns (pes L)).length ≤ 1048576 := by have := turns_few (pes L); omega
      have X := Lib.hid hbel
      generalize turns (pes L) = t at *
      clear hE hel hbel htu hwh HM hn3
      go_wp2_with (first
        | (go_at_call 9; (with_reducible refine (alive_true wr).mono ?_); rintro e w1 ⟨rfl, hb1⟩; have Y1 := Lib.hid hb1; clear hb1)
        | (go_at_call 12; (with_reducible refine (OP.out w1 Y1.out).mono ?_); rintro e w2 ⟨A2, c2, rfl, ht2, hb2⟩; have Y2 := Lib.hid (And.intro (Y1.out.trans (hb2.mono Y1.out.size)) ht2); clear ht2 hb2)
        | (go_at_call 12; (with_reducible refine (OL.out w2 Y2.out.1).mono ?_); rintro e w3 ⟨A3, c3, rfl, ht3, hb3⟩; have Y3 := Lib.hid (And.intro (Y2.out.1.trans (hb3.mono Y2.out.1.size)) (And.intro (Y2.out.2.below hb3) ht3)); clear ht3 hb3)
        | (go_at_call 11; (with_reducible refine (RSame_eq t _ _ w3 Y3.out.2.1 Y3.out.2.2 (by omega)).mono ?_); rintro e w4 ⟨rfl, hb4⟩; have Y4 := Lib.hid (X.out.trans ((Y3.out.1.trans (hb4.mono Y3.out.1.size)).mono X.out.size)); clear hb4))
      go_ret
      exact ⟨rfl, Y4.out⟩
end Go.Proofs.Ytchfiiiippnigaa
