/-
  The contract of the document's event.
  Conditions: the slice reads as these bytes; at a place in them.
-/
import Derived.Test.YtbaibabnfbjdeaaTrRefEv
import Derived.Test.YtbaibabnfbjdeaaUptoLast
import Derived.Deep.RegionLaw
import Derived.Deep.RegionHeld3
import Derived.Deep.DeepCutAuto
import Derived.Deep.CutBlock
namespace Go.Proofs.Ytbaibabnfbjdeaa
open Go.RowKit

/-- The reader and its events, in memory of their own. -/
structure RdrW (w W : World) (Q : Nat) (v : Value) (a : Nat) (la : Int) (B : Option Addr) (cB : Nat) (g : Option Nat) (acc : List Ev) (f : Bool) : Prop where
  box : Rdr W Q v a la (whole (pes acc)) (.slice B acc.length cB) f
  le : w.heap.size ≤ Q
  evs : EL (fun _ => False) (fun b => w.heap.size ≤ b) W g (.slice B acc.length cB) acc
  bel : Below w.heap.size w W

/-- What event leaves. -/
def REvTo (w : World) (Q : Nat) (v : Value) (a : Nat) (la : Int) (acc : List Ev) (s : Step) (e : Ending) (w' : World) : Prop :=
  match s with
  | .err p er => e = .returned (.tuple #[.int .i64 (p : Nat), .int .i64 (er : Nat)]) ∧ Below w.heap.size w w'
  | .fin => e = .returned (.tuple #[.int .i64 0, .int .i64 0]) ∧ ∃ B cB g, RdrW w w' Q v (a + 1) la B cB g acc true
  | .ev x next => e = .returned (.tuple #[.int .i64 0, .int .i64 0]) ∧ ∃ B cB g A c, RdrW w w' Q v next x.time B cB g (acc ++ [⟨x.dir, x.time, A, c, x.data⟩]) false

section
variable {w W W' : World} {Q : Nat} {v : Value} {a : Nat} {la : Int} {B : Option Addr} {cB : Nat} {g : Option Nat} {acc : List Ev} {f : Bool}
theorem RdrW.below (h : RdrW w W Q v a la B cB g acc f) (hb : Below W.heap.size W W') : RdrW w W' Q v a la B cB g acc f :=
  ⟨h.box.below hb h.box.lt, h.le, h.evs.below hb, h.bel.trans (hb.mono h.bel.size)⟩
theorem RdrW.drewN (h : RdrW w W Q v a la B cB g acc f) (n : Nat) : RdrW w (W.drewN n) Q v a la B cB g acc f := h.below ⟨rfl, rfl, rfl, Nat.le_refl _, fun _ _ => rfl⟩
theorem EL.farT {T : Nat → Prop} {u : Value} {l : List Ev} {q : Nat} {t : TypeId} {cs : Array Value} (h : EL (fun _ => False) T W g u l) (hq : Blk W q t cs) (h1 : t ≠ 5) (h2 : t ≠ 43) (i : Nat) (x : Value) : EL (fun _ => False) T (W.setCell ⟨q, i, none⟩ x) g u l := by
  refine h.keep fun b _ hb => Below.heap_setCell W _ x b fun e => ?_
  have e : b = q := e
  rcases hb with hb | ⟨_, cs', t', ht, hc⟩
  · exact hb
  · unfold Blk at hq
    rw [e, hq] at hc
    injection hc with hc
    injection hc with _ hc
    rcases ht with ht | ht
    · exact h1 (hc.trans ht)
    · exact h2 (hc.trans ht)
/-- Behind the stores at the end. -/
theorem RdrW.fin (h : RdrW w W Q v a la B cB g acc false) : RdrW w ((W.setCell ⟨Q, 5, none⟩ (.bool true)).setCell ⟨Q, 1, none⟩ (.int .i64 ((a : Int) + 1))) Q v (a + 1) la B cB g acc true := by
  have h1 : Blk (W.setCell ⟨Q, 5, none⟩ (.bool true)) Q 60 #[v, .int .i64 a, .int .i64 la, .int .u64 (whole (pes acc)), .slice B acc.length cB, .bool true] := Blk.set_ h.box 5 _
  exact ⟨h1.set_ 1 _, h.le, (h.evs.farT h.box (by decide) (by decide) 5 _).farT h1 (by decide) (by decide) 1 _, (h.bel.setCell (p := ⟨Q, 5, none⟩) h.le _).setCell (p := ⟨Q, 1, none⟩) h.le _⟩
end

/-- Behind an event's stores. -/
theorem RdrW.evd {w w7 : World} {Q : Nat} {v : Value} {a q v2 : Nat} {d t : Int} {B A5 A7 : Option Addr} {cB c5 c7 : Nat} {g7 : Option Nat} {acc : List Ev} {ds : List Nat} (hq : Blk w7 Q 60 #[v, .int .i64 a, .int .i64 t, .int .u64 ((whole (pes acc) : Int) + v2), .slice B acc.length cB, .bool false]) (hle : w.heap.size ≤ Q) (hb : Below w.heap.size w w7)
    (he : EL (fun _ => False) (fun b => w.heap.size ≤ b) w7 g7 (.slice A7 (acc.length + 1) c7) (acc ++ [⟨d, t, A5, c5, ds⟩])) (hl : ds.length = v2) : RdrW w ((w7.setCell ⟨Q, 4, none⟩ (.slice A7 (acc.length + 1) c7)).setCell ⟨Q, 1, none⟩ (.int .i64 ((q : Int) + v2))) Q v (q + v2) t A7 c7 g7 (acc ++ [⟨d, t, A5, c5, ds⟩]) false := by
  have h4 : Blk _ Q _ #[v, .int .i64 a, .int .i64 t, .int .u64 ((whole (pes acc) : Int) + v2), .slice A7 (acc.length + 1) c7, .bool false] := Blk.set_ hq 4 (.slice A7 (acc.length + 1) c7)
  have h1 : Blk _ Q _ #[v, .int .i64 ((q : Int) + v2), .int .i64 t, .int .u64 ((whole (pes acc) : Int) + v2), .slice A7 (acc.length + 1) c7, .bool false] := Blk.set_ h4 1 (.int .i64 ((q : Int) + v2))
  have e1 : ((q + v2 : Nat) : Int) = (q : Int) + v2 := by omega
  have e2 : ((whole (pes (acc ++ [⟨d, t, A5, c5, ds⟩])) : Nat) : Int) = (whole (pes acc) : Int) + v2 := by
    rw [pes_snoc, whole_snoc, ← hl]
    simp [Ev.pe]
  have e3 : (acc ++ [(⟨d, t, A5, c5, ds⟩ : Ev)]).length = acc.length + 1 := by simp
  refine ⟨?_, hle, ?_, ?_⟩
  · rw [e3]
    unfold Rdr
    rw [e1, e2]
    exact h1
  · rw [e3]
    exact (he.farT hq (by decide) (by decide) 4 _).farT h4 (by decide) (by decide) 1 _
  · exact (hb.setCell (p := ⟨Q, 4, none⟩) hle _).setCell (p := ⟨Q, 1, none⟩) hle _

set_option maxRecDepth 100000 in
set_option maxHeartbeats 4000000 in
theorem REvent_any (w W : World) (Q : Nat) (A : Option Addr) (n c : Nat) (bs : List Nat) (a : Nat) (la : Int) (B : Option Addr) (cB : Nat) (g : Option Nat) (acc : List Ev) (h : RdrW w W Q (.slice A n c) a la B cB g acc false)
    (hk : In64 la) (hacc : acc.length ≤ 4096) (hall : whole (pes acc) ≤ 262144) (hlt : a < n) (hr : Rd w (.slice A n c) (bv bs)) (hb : ∀ b ∈ bs, b < 256) (hn : n ≤ 9223372036854775807) :
    Calls Try.prog 30 #[.pointer (some ⟨Q, 0, none⟩)] W (REvTo w Q (.slice A n c) a la acc (step bs a la (pes acc))) := by
  have HR := Lib.hid hr
  have HN := Lib.hid hr.bytes
  have HB := Lib.hid hb
  have HW := Lib.hid h
  have HI := Lib.hid hk
  obtain ⟨b, o, d, rfl, hc, hd⟩ := (hr.kept h.bel).byteAt hlt
  have hd256 : d < 256 := hb d (List.mem_of_getElem? hd)
  have HD := Lib.hid hd
  have q0 : W.cell? ⟨Q, 0, none⟩ = some (.slice (some ⟨b, o, none⟩) n c) := h.box.cell 0
  have q1 : W.cell? ⟨Q, 1, none⟩ = some (.int .i64 a) := h.box.cell 1
  have i0 : (0 : Int) ≤ (a : Int) := by omega
  have i1 : (a : Int) < n := by omega
  clear hr hb h hd hk
  by_cases h3 : d = 3
  · subst h3
    by_cases hend : a + 1 = n
    · have HS := Lib.hid (step_three_end (last := la) (acc := pes acc) HD.out (by have := HN.out; omega))
      have hq : ((a : Int) + 1 != (n : Int)) = false := by simp; omega
      clear hend
      go_enter Try.func30, Try.ntmps30
      go_wp2_with fail
      go_quiet (fail)
      generalize hV : World.drewN W _ = V
      have hWV : RdrW w V Q (.slice (some ⟨b, o, none⟩) n c) a la B cB g acc false := by rw [← hV]; exact HW.out.drewN _
      have y0 : V.cell? ⟨Q, 0, none⟩ = some (.slice (some ⟨b, o, none⟩) n c) := hWV.box.cell 0
      have y1 : V.cell? ⟨Q, 1, none⟩ = some (.int .i64 a) := hWV.box.cell 1
      have hwr : IntKind.i64.wrap ((a : Int) + 1) = (a : Int) + 1 := IntWalk.i64_in _ (by omega)
      have HWV := Lib.hid hWV
      clear hV hWV q0 q1 hc
      go_wp2_with fail
      go_quiet (fail)
      clear hwr
      generalize hV : World.drewN V _ = U
      have hWU : RdrW w U Q (.slice (some ⟨b, o, none⟩) n c) a la B cB g acc false := by rw [← hV]; exact HWV.out.drewN _
      have z1 : U.cell? ⟨Q, 1, none⟩ = some (.int .i64 a) := hWU.box.cell 1
      have z5 : U.cell? ⟨Q, 5, none⟩ = some (.bool false) := hWU.box.cell 5
      have f1 := hWU.box.frozen 1
      have f5 := hWU.box.frozen 5
      have HWU := Lib.hid hWU
      clear hV hWU y0 y1
      go_wp2_with fail
      go_ret2
      rw [HS.out]
      exact ⟨rfl, B, cB, g, HWU.out.fin⟩
    · have HS := Lib.hid (step_three_more (last := la) (acc := pes acc) HD.out (by have := HN.out; omega))
      have hq : ((a : Int) + 1 != (n : Int)) = true := by rw [bne_iff_ne]; omega
      clear hend
      go_enter Try.func30, Try.ntmps30
      go_wp2_with fail
      go_quiet (fail)
      generalize hV : World.drewN W _ = V
      have hWV : RdrW w V Q (.slice (some ⟨b, o, none⟩) n c) a la B cB g acc false := by rw [← hV]; exact HW.out.drewN _
      have y0 : V.cell? ⟨Q, 0, none⟩ = some (.slice (some ⟨b, o, none⟩) n c) := hWV.box.cell 0
      have y1 : V.cell? ⟨Q, 1, none⟩ = some (.int .i64 a) := hWV.box.cell 1
      have hwr : IntKind.i64.wrap ((a : Int) + 1) = (a : Int) + 1 := IntWalk.i64_in _ (by omega)
      have HWV := Lib.hid hWV
      clear hV hWV q0 q1 hc
      go_wp2_with fail
      go_quiet (fail)
      clear hwr
      go_wp2_with fail
      go_ret2
      rw [HS.out]
      exact ⟨rfl, belowN HWV.out.bel _⟩
  · have q3 : ((d : Int) == 3) = false := by simp; omega
    by_cases h12 : d = 1 ∨ d = 2
    · have H12 := Lib.hid h12
      have hq : (((d : Int) != 1) = false) ∨ (((d : Int) != 1) = true ∧ ((d : Int) != 2) = false) := by
        rcases h12 with rfl | rfl
        · exact .inl rfl
        · exact .inr ⟨rfl, rfl⟩
      clear h3 h12
      by_cases hmany : 4096 ≤ acc.length
      · have HS := Lib.hid (step_many (last := la) (acc := pes acc) HD.out H12.out (by rw [pes_len]; omega))
        have hmb : decide ((acc.length : Int) ≥ 4096) = true := by simp; omega
        rcases hq with k1 | ⟨k1, k2⟩
        all_goals
          go_enter Try.func30, Try.ntmps30
          go_wp2_with fail
          go_quiet (fail)
          generalize hV : World.drewN W _ = V
          have hWV : RdrW w V Q (.slice (some ⟨b, o, none⟩) n c) a la B cB g acc false := by rw [← hV]; exact HW.out.drewN _
          have y1 : V.cell? ⟨Q, 1, none⟩ = some (.int .i64 a) := hWV.box.cell 1
          have y4 : V.cell? ⟨Q, 4, none⟩ = some (.slice B acc.length cB) := hWV.box.cell 4
          have HWV := Lib.hid hWV
          clear hV hWV q0 q1 hc
          go_wp2_with fail
          go_ret2
          rw [HS.out]
          exact ⟨rfl, HWV.out.bel⟩
      · have HM : Hid ((pes acc).length < 4096) := by show _ < _; rw [pes_len]; omega
        have hmb : decide ((acc.length : Int) ≥ 4096) = false := by simp; omega
        obtain ⟨⟨u, p, er⟩, hg1⟩ : ∃ r, getIn bs (a + 1) = r := ⟨_, rfl⟩
        have HG1 := Lib.hid hg1
        have hpb := getIn_bounds bs (a + 1) (by have := HN.out; omega)
        rw [hg1] at hpb
        simp only at hpb
        have hpn : p ≤ n := by have := HN.out; omega
        have hu64 : u < 18446744073709551616 := hpb.2
        have HGC : Hid (∀ V, Rd V (.slice (some ⟨b, o, none⟩) n c) (bv bs) → Calls Try.prog 37 #[.slice (some ⟨b, o, none⟩) n c, .int .i64 ((a : Int) + 1)] V (Tells V (u, p, er))) := by
          intro V hrd
          have := RGet_in (some ⟨b, o, none⟩) n c (a + 1) bs V hrd HB.out hn (by omega)
          rw [HG1.out] at this
          exact this
        clear hmany hg1 hpb
        rcases hq with k1 | ⟨k1, k2⟩
        all_goals
          go_enter Try.func30, Try.ntmps30
          go_wp2_with fail
          go_quiet (fail)
          generalize hV : World.drewN W _ = V
          have hWV : RdrW w V Q (.slice (some ⟨b, o, none⟩) n c) a la B cB g acc false := by rw [← hV]; exact HW.out.drewN _
          have y0 : V.cell? ⟨Q, 0, none⟩ = some (.slice (some ⟨b, o, none⟩) n c) := hWV.box.cell 0
          have y1 : V.cell? ⟨Q, 1, none⟩ = some (.int .i64 a) := hWV.box.cell 1
          have y4 : V.cell? ⟨Q, 4, none⟩ = some (.slice B acc.length cB) := hWV.box.cell 4
          have HWV := Lib.hid hWV
          clear hV hWV q0 q1 hc
          go_wp2_with fail
          refine (HGC.out _ (HR.out.kept HWV.out.bel)).mono ?_
          rintro e V1 ⟨rfl, hb1⟩
          have HW1 := Lib.hid (HWV.out.below hb1)
          have z0 : V1.cell? ⟨Q, 0, none⟩ = some (.slice (some ⟨b, o, none⟩) n c) := (HWV.out.below hb1).box.cell 0
          clear hb1 y0 y1 y4
          by_cases her : er = 0
          · subst her
            obtain ⟨⟨v2, q, erq⟩, hg2⟩ : ∃ r, getIn bs p = r := ⟨_, rfl⟩
            have HG2 := Lib.hid hg2
            have hqb := getIn_bounds bs p (by have := HN.out; omega)
            rw [hg2] at hqb
            simp only at hqb
            have hqn : q ≤ n := by have := HN.out; omega
            have hv64 : v2 < 18446744073709551616 := hqb.2
            have HGC2 : Hid (∀ V, Rd V (.slice (some ⟨b, o, none⟩) n c) (bv bs) → Calls Try.prog 37 #[.slice (some ⟨b, o, none⟩) n c, .int .i64 (p : Int)] V (Tells V (v2, q, erq))) := by
              intro V hrd
              have := RGet_in (some ⟨b, o, none⟩) n c p bs V hrd HB.out hn hpn
              rw [HG2.out] at this
              exact this
            clear hg2 hqb
            go_wp2_with fail
            refine (HGC2.out _ (HR.out.kept HW1.out.bel)).mono ?_
            rintro e V2 ⟨rfl, hb2⟩
            have hW2 := HW1.out.below hb2
            have y0 : V2.cell? ⟨Q, 0, none⟩ = some (.slice (some ⟨b, o, none⟩) n c) := hW2.box.cell 0
            have y2 : V2.cell? ⟨Q, 2, none⟩ = some (.int .i64 la) := hW2.box.cell 2
            have y3 : V2.cell? ⟨Q, 3, none⟩ = some (.int .u64 (whole (pes acc))) := hW2.box.cell 3
            have HW2 := Lib.hid hW2
            clear hb2 hW2 z0
            by_cases herq : erq = 0
            · subst herq
              by_cases hlong : 65536 < v2 ∨ 262144 < whole (pes acc) + v2
              · have HS := Lib.hid (step_long (last := la) (acc := pes acc) HD.out H12.out HM.out HG1.out HG2.out hlong)
                by_cases hw : 65536 < v2
                · have hw1 : (65536 : Int) < v2 := by omega
                  clear hlong
                  go_wp2_with fail
                  go_ret2
                  rw [HS.out]
                  exact ⟨rfl, HW2.out.bel⟩
                · have hw1 : ¬ (65536 : Int) < v2 := by omega
                  have hw2 : (262144 : Int) < (whole (pes acc) : Int) + v2 := by omega
                  clear hlong
                  go_wp2_with fail
                  go_ret2
                  rw [HS.out]
                  exact ⟨rfl, HW2.out.bel⟩
              · have hw1 : ¬ (65536 : Int) < v2 := by omega
                have hw2 : ¬ (262144 : Int) < (whole (pes acc) : Int) + v2 := by omega
                have hv6 : v2 ≤ 65536 := by omega
                have HL := Lib.hid hlong
                clear hlong
                by_cases hshort : n < q + v2
                · have HS := Lib.hid (step_short (last := la) (acc := pes acc) HD.out H12.out HM.out HG1.out HG2.out HL.out (by have := HN.out; omega))
                  rw [← HN.out] at HS
                  have hs1 : (n : Int) - q < v2 := by omega
                  clear hshort
                  go_wp2_with fail
                  go_ret2
                  rw [HS.out]
                  exact ⟨rfl, HW2.out.bel⟩
                · have hqv : q + v2 ≤ n := by omega
                  have hs1 : ¬ (n : Int) - q < v2 := by omega
                  have HS := Lib.hid (step_good (last := la) (acc := pes acc) HD.out H12.out HM.out HG1.out HG2.out HL.out (by have := HN.out; omega))
                  have f3 := HW2.out.box.frozen 3
                  clear hshort
                  go_upto_region 24 with (fail)
                  generalize hV3 : World.setCell V2 _ _ = V3
                  have b3 : Blk V3 Q 60 #[.slice (some ⟨b, o, none⟩) n c, .int .i64 a, .int .i64 la, .int .u64 ((whole (pes acc) : Int) + v2), .slice B acc.length cB, .bool false] := by rw [← hV3]; exact Blk.set_ HW2.out.box 3 _
                  have e3 : EL (fun _ => False) (fun b => w.heap.size ≤ b) V3 g (.slice B acc.length cB) acc := by rw [← hV3]; exact HW2.out.evs.farT HW2.out.box (by decide) (by decide) 3 _
                  have l3 : Below w.heap.size w V3 := by rw [← hV3]; exact HW2.out.bel.setCell (p := ⟨Q, 3, none⟩) HW2.out.le _
                  have x2 : V3.cell? ⟨Q, 2, none⟩ = some (.int .i64 la) := b3.cell 2
                  have fz2 := b3.frozen 2
                  have H3 := Lib.hid (And.intro b3 (And.intro e3 l3))
                  have hzi : In64 (zag (u : Int)) := ⟨zag_lo _ (by omega) (by omega), zag_hi _ (by omega) (by omega)⟩
                  have HZ := Lib.hid hzi
                  clear hV3 b3 e3 l3 y0 y2 y3 f3 hzi
                  go_cut [2] (fun _ wc => Hid (Blk wc Q 60 #[.slice (some ⟨b, o, none⟩) n c, .int .i64 a, .int .i64 (plus la (zag (u : Int))), .int .u64 ((whole (pes acc) : Int) + v2), .slice B acc.length cB, .bool false] ∧ EL (fun _ => False) (fun b => w.heap.size ≤ b) wc g (.slice B acc.length cB) acc ∧ Below w.heap.size w wc))
                  case first =>
                    go_region_law (first
                      | (go_simp; go_at_call 39; refine (RZag_any (u : Int) _ (by omega) (by omega)).mono ?_; rintro e w' ⟨rfl, rfl⟩)
                      | (go_simp; go_at_call 38; refine (RAdd_any la (zag (u : Int)) _ HI.out HZ.out).mono ?_; rintro e w' ⟨rfl, rfl⟩))
                    all_goals
                      go_wp2_with fail
                      go_meet
                      case rel => exact ⟨Blk.set_ H3.out.1 2 _, (H3.out.2.1.farT H3.out.1 (by decide) (by decide) 2 _).below ⟨rfl, rfl, rfl, Nat.le_refl _, fun _ _ => rfl⟩, (H3.out.2.2.setCell (p := ⟨Q, 2, none⟩) HW2.out.le _).drew⟩
                  case rest =>
                    have H4 := hcut
                    clear hcut x2 fz2 H3
                    have hdl : ((bs.drop q).take v2).length = v2 := by rw [List.length_take, List.length_drop]; have := HN.out; omega
                    obtain ⟨A9, c9, hsl, hr9⟩ := run_range (HR.out.kept H4.out.2.2) hqv
                    have hby : ∀ x ∈ (bs.drop q).take v2, x < 256 := fun x hx => HB.out x (List.mem_of_mem_drop (List.mem_of_mem_take hx))
                    obtain ⟨t, hT⟩ : ∃ t, plus la (zag (u : Int)) = t := ⟨_, rfl⟩
                    rw [hT] at H4 HS
                    generalize (bs.drop q).take v2 = ds at *
                    obtain ⟨A5, c5, w5, A7, c7, w7, g7, hrun5, hrun7, hb5, hk7, hb7, he7⟩ := ref_ev ((d : Int) - 1) t (ds := ds) (Ab := A9) (cb := c9) H4.out.2.1 H4.out.2.2 (by rw [hdl]; exact hr9) hby (by omega) hacc
                    rw [hdl] at hrun5 hrun7
                    have bQ5 := H4.out.1.below hb5 H4.out.1.lt
                    have bQ7 : Blk w7 Q 60 #[.slice (some ⟨b, o, none⟩) n c, .int .i64 a, .int .i64 t, .int .u64 ((whole (pes acc) : Int) + v2), .slice B acc.length cB, .bool false] := H4.out.1.keep (hk7 Q H4.out.1.lt (H4.out.2.1.row.ne_ H4.out.1 (by decide)))
                    have k0 : wc.cell? ⟨Q, 0, none⟩ = some (.slice (some ⟨b, o, none⟩) n c) := H4.out.1.cell 0
                    have k2 : wc.cell? ⟨Q, 2, none⟩ = some (.int .i64 t) := H4.out.1.cell 2
                    have k4 : wc.cell? ⟨Q, 4, none⟩ = some (.slice B acc.length cB) := H4.out.1.cell 4
                    have m0 : w5.cell? ⟨Q, 0, none⟩ = some (.slice (some ⟨b, o, none⟩) n c) := bQ5.cell 0
                    have m2 : w5.cell? ⟨Q, 2, none⟩ = some (.int .i64 t) := bQ5.cell 2
                    have m4 : w5.cell? ⟨Q, 4, none⟩ = some (.slice B acc.length cB) := bQ5.cell 4
                    have n0 : w7.cell? ⟨Q, 0, none⟩ = some (.slice (some ⟨b, o, none⟩) n c) := bQ7.cell 0
                    have n1 : w7.cell? ⟨Q, 1, none⟩ = some (.int .i64 a) := bQ7.cell 1
                    have n2 : w7.cell? ⟨Q, 2, none⟩ = some (.int .i64 t) := bQ7.cell 2
                    have n4 : w7.cell? ⟨Q, 4, none⟩ = some (.slice B acc.length cB) := bQ7.cell 4
                    have s0 : ∀ x, (w7.setCell ⟨Q, 4, none⟩ x).cell? ⟨Q, 0, none⟩ = some (.slice (some ⟨b, o, none⟩) n c) := fun x => (Blk.set_ bQ7 4 x).cell 0
                    have s2 : ∀ x, (w7.setCell ⟨Q, 4, none⟩ x).cell? ⟨Q, 2, none⟩ = some (.int .i64 t) := fun x => (Blk.set_ bQ7 4 x).cell 2
                    have fz4 := bQ7.frozen 4
                    have fz1 := bQ7.frozen 1
                    have lV : Q < wc.heap.size := H4.out.1.lt
                    have l5 : Q < w5.heap.size := bQ5.lt
                    have HY := Lib.hid (And.intro bQ7 (And.intro hb7 he7))
                    have HDL := Lib.hid hdl
                    have d1 : 1 ≤ d := by have := H12.out; omega
                    have j0 : (0 : Int) ≤ (q : Int) := by omega
                    have j1 : (q : Int) ≤ (q : Int) + v2 := by omega
                    have w0 : IntKind.i64.wrap (d : Int) = (d : Int) := IntWalk.i64_in _ (by omega)
                    have w1 : IntKind.i64.wrap ((d : Int) - 1) = (d : Int) - 1 := IntWalk.i64_in _ (by omega)
                    have w2 : IntKind.i64.wrap ((q : Int) + v2) = (q : Int) + v2 := IntWalk.i64_in _ (by omega)
                    have w3 : IntKind.i64.wrap (v2 : Int) = (v2 : Int) := IntWalk.i64_in _ (by omega)
                    clear hr9 hby hb5 hk7 hb7 he7 bQ5 bQ7 hdl hT
                    go_wp2_with fail
                    refine wp_region_noPanic ?_
                    refine wp_region_upto (fun W => W.cell? ⟨Q, 0, none⟩ = some (.slice (some ⟨b, o, none⟩) n c) ∧ W.cell? ⟨Q, 2, none⟩ = some (.int .i64 t) ∧ W.cell? ⟨Q, 4, none⟩ = some (.slice B acc.length cB)) 31 (by kernel_rfl) ?_ (fun hHeld => ?_)
                    · go_keep
                    refine wpUpto.take 0 (by kernel_rfl) (by kernel_rfl) (by kernel_rfl) (by kernel_rfl) (by assumption) ?_
                    intro o ho
                    simp only [List.getElem?_toArray, List.getElem?_cons_zero, Option.some.injEq] at ho
                    subst ho
                    refine ⟨?_, fun _ _ _ h => h, Or.inl ⟨by rfl, ?_⟩, ?_⟩
                    rotate_left
                    · intro w hSw
                      go_simp
                      try with_reducible rfl
                    simp only [Act.put, List.setIfInBounds_toArray, List.set_cons_zero, List.set_cons_succ]
                    refine wpUpto.take 1 (by kernel_rfl) (by kernel_rfl) (by kernel_rfl) (by kernel_rfl) (by assumption) ?_
                    intro o ho
                    simp only [List.getElem?_toArray, List.getElem?_cons_succ, List.getElem?_cons_zero, Option.some.injEq] at ho
                    subst ho
                    refine ⟨?_, fun _ _ _ h => h, Or.inl ⟨by rfl, ?_⟩, ?_⟩
                    rotate_left
                    · intro w hSw
                      go_simp
                      try with_reducible rfl
                    simp only [Act.put, List.setIfInBounds_toArray, List.set_cons_zero, List.set_cons_succ]
                    refine wpUpto.take 2 (by kernel_rfl) (by kernel_rfl) (by kernel_rfl) (by kernel_rfl) (by assumption) ?_
                    intro o ho
                    simp only [List.getElem?_toArray, List.getElem?_cons_succ, List.getElem?_cons_zero, Option.some.injEq] at ho
                    subst ho
                    refine ⟨?_, fun _ _ _ h => h, Or.inl ⟨by rfl, ?_⟩, ?_⟩
                    rotate_left
                    · intro w hSw
                      go_simp
                      try with_reducible rfl
                    simp only [Act.put, List.setIfInBounds_toArray, List.set_cons_zero, List.set_cons_succ]
                    refine wpUpto.take 3 (by kernel_rfl) (by kernel_rfl) (by kernel_rfl) (by kernel_rfl) (by assumption) ?_
                    intro o ho
                    simp only [List.getElem?_toArray, List.getElem?_cons_succ, List.getElem?_cons_zero, Option.some.injEq] at ho
                    subst ho
                    refine ⟨?_, fun _ _ _ h => h, Or.inl ⟨by rfl, ?_⟩, ?_⟩
                    rotate_left
                    · intro w hSw
                      go_simp
                      try with_reducible rfl
                    simp only [Act.put, List.setIfInBounds_toArray, List.set_cons_zero, List.set_cons_succ]
                    refine wpUpto.take 4 (by kernel_rfl) (by kernel_rfl) (by kernel_rfl) (by kernel_rfl) (by assumption) ?_
                    intro o ho
                    simp only [List.getElem?_toArray, List.getElem?_cons_succ, List.getElem?_cons_zero, Option.some.injEq] at ho
                    subst ho
                    refine ⟨?_, fun _ _ _ h => h, Or.inl ⟨by rfl, ?_⟩, ?_⟩
                    rotate_left
                    · intro w hSw
                      go_simp
                      try with_reducible rfl
                    simp only [Act.put, List.setIfInBounds_toArray, List.set_cons_zero, List.set_cons_succ]
                    refine wpUpto.take 5 (by kernel_rfl) (by kernel_rfl) (by kernel_rfl) (by kernel_rfl) (by assumption) ?_
                    intro o ho
                    simp only [List.getElem?_toArray, List.getElem?_cons_succ, List.getElem?_cons_zero, Option.some.injEq] at ho
                    subst ho
                    refine ⟨?_, fun _ _ _ h => h, Or.inl ⟨by rfl, ?_⟩, ?_⟩
                    rotate_left
                    · intro w hSw
                      go_simp
                      try with_reducible rfl
                    simp only [Act.put, List.setIfInBounds_toArray, List.set_cons_zero, List.set_cons_succ]
                    refine wpUpto.take 6 (by kernel_rfl) (by kernel_rfl) (by kernel_rfl) (by kernel_rfl) (by assumption) ?_
                    intro o ho
                    simp only [List.getElem?_toArray, List.getElem?_cons_succ, List.getElem?_cons_zero, Option.some.injEq] at ho
                    subst ho
                    refine ⟨?_, fun _ _ _ h => h, Or.inl ⟨by rfl, ?_⟩, ?_⟩
                    rotate_left
                    · intro w hSw
                      go_simp
                      try with_reducible rfl
                    simp only [Act.put, List.setIfInBounds_toArray, List.set_cons_zero, List.set_cons_succ]
                    refine wpUpto.take 7 (by kernel_rfl) (by kernel_rfl) (by kernel_rfl) (by kernel_rfl) (by assumption) ?_
                    intro o ho
                    simp only [List.getElem?_toArray, List.getElem?_cons_succ, List.getElem?_cons_zero, Option.some.injEq] at ho
                    subst ho
                    refine ⟨?_, fun _ _ _ h => h, Or.inl ⟨by rfl, ?_⟩, ?_⟩
                    rotate_left
                    · intro w hSw
                      go_simp
                      try with_reducible rfl
                    simp only [Act.put, List.setIfInBounds_toArray, List.set_cons_zero, List.set_cons_succ]
                    refine wpUpto.take 8 (by kernel_rfl) (by kernel_rfl) (by kernel_rfl) (by kernel_rfl) (by assumption) ?_
                    intro o ho
                    simp only [List.getElem?_toArray, List.getElem?_cons_succ, List.getElem?_cons_zero, Option.some.injEq] at ho
                    subst ho
                    refine ⟨?_, fun _ _ _ h => h, Or.inl ⟨by rfl, ?_⟩, ?_⟩
                    rotate_left
                    · intro w hSw
                      go_simp
                      try with_reducible rfl
                    simp only [Act.put, List.setIfInBounds_toArray, List.set_cons_zero, List.set_cons_succ]
                    refine wpUpto.take 9 (by kernel_rfl) (by kernel_rfl) (by kernel_rfl) (by kernel_rfl) (by assumption) ?_
                    intro o ho
                    simp only [List.getElem?_toArray, List.getElem?_cons_succ, List.getElem?_cons_zero, Option.some.injEq] at ho
                    subst ho
                    refine ⟨?_, fun _ _ _ h => h, Or.inl ⟨by rfl, ?_⟩, ?_⟩
                    rotate_left
                    · intro w hSw
                      go_simp
                      try with_reducible rfl
                    simp only [Act.put, List.setIfInBounds_toArray, List.set_cons_zero, List.set_cons_succ]
                    refine wpUpto.take 10 (by kernel_rfl) (by kernel_rfl) (by kernel_rfl) (by kernel_rfl) (by assumption) ?_
                    intro o ho
                    simp only [List.getElem?_toArray, List.getElem?_cons_succ, List.getElem?_cons_zero, Option.some.injEq] at ho
                    subst ho
                    refine ⟨?_, fun _ _ _ h => h, Or.inl ⟨by rfl, ?_⟩, ?_⟩
                    rotate_left
                    · intro w hSw
                      go_simp
                      try with_reducible rfl
                    simp only [Act.put, List.setIfInBounds_toArray, List.set_cons_zero, List.set_cons_succ]
                    refine wpUpto.take 11 (by kernel_rfl) (by kernel_rfl) (by kernel_rfl) (by kernel_rfl) (by assumption) ?_
                    intro o ho
                    simp only [List.getElem?_toArray, List.getElem?_cons_succ, List.getElem?_cons_zero, Option.some.injEq] at ho
                    subst ho
                    refine ⟨?_, fun _ _ _ h => h, Or.inl ⟨by rfl, ?_⟩, ?_⟩
                    rotate_left
                    · intro w hSw
                      go_simp
                      try with_reducible rfl
                    simp only [Act.put, List.setIfInBounds_toArray, List.set_cons_zero, List.set_cons_succ]
                    refine wpUpto.take 12 (by kernel_rfl) (by kernel_rfl) (by kernel_rfl) (by kernel_rfl) (by assumption) ?_
                    intro o ho
                    simp only [List.getElem?_toArray, List.getElem?_cons_succ, List.getElem?_cons_zero, Option.some.injEq] at ho
                    subst ho
                    refine ⟨?_, fun _ _ _ h => h, Or.inl ⟨by rfl, ?_⟩, ?_⟩
                    rotate_left
                    · intro w hSw
                      go_simp
                      try with_reducible rfl
                    simp only [Act.put, List.setIfInBounds_toArray, List.set_cons_zero, List.set_cons_succ]
                    refine wpUpto.take 14 (by kernel_rfl) (by kernel_rfl) (by kernel_rfl) (by kernel_rfl) (by assumption) ?_
                    intro o ho
                    simp only [List.getElem?_toArray, List.getElem?_cons_succ, List.getElem?_cons_zero, Option.some.injEq] at ho
                    subst ho
                    refine ⟨?_, fun _ _ _ h => h, Or.inl ⟨by rfl, ?_⟩, ?_⟩
                    rotate_left
                    · intro w hSw
                      go_simp
                      try with_reducible rfl
                    simp only [Act.put, List.setIfInBounds_toArray, List.set_cons_zero, List.set_cons_succ]
                    refine wpUpto.take 15 (by kernel_rfl) (by kernel_rfl) (by kernel_rfl) (by kernel_rfl) (by assumption) ?_
                    intro o ho
                    simp only [List.getElem?_toArray, List.getElem?_cons_succ, List.getElem?_cons_zero, Option.some.injEq] at ho
                    subst ho
                    refine ⟨?_, fun _ _ _ h => h, Or.inl ⟨by rfl, ?_⟩, ?_⟩
                    rotate_left
                    · intro w hSw
                      go_simp
                      try with_reducible rfl
                    simp only [Act.put, List.setIfInBounds_toArray, List.set_cons_zero, List.set_cons_succ]
                    refine wpUpto.take 16 (by kernel_rfl) (by kernel_rfl) (by kernel_rfl) (by kernel_rfl) (by assumption) ?_
                    intro o ho
                    simp only [List.getElem?_toArray, List.getElem?_cons_succ, List.getElem?_cons_zero, Option.some.injEq] at ho
                    subst ho
                    refine ⟨?_, fun _ _ _ h => h, Or.inl ⟨by rfl, ?_⟩, ?_⟩
                    rotate_left
                    · intro w hSw
                      go_simp
                      try with_reducible rfl
                    simp only [Act.put, List.setIfInBounds_toArray, List.set_cons_zero, List.set_cons_succ]
                    refine wpUpto.take 17 (by kernel_rfl) (by kernel_rfl) (by kernel_rfl) (by kernel_rfl) (by assumption) ?_
                    intro o ho
                    simp only [List.getElem?_toArray, List.getElem?_cons_succ, List.getElem?_cons_zero, Option.some.injEq] at ho
                    subst ho
                    refine ⟨?_, fun _ _ _ h => h, Or.inl ⟨by rfl, ?_⟩, ?_⟩
                    rotate_left
                    · intro w hSw
                      go_simp
                      try with_reducible rfl
                    simp only [Act.put, List.setIfInBounds_toArray, List.set_cons_zero, List.set_cons_succ]
                    refine wpUpto.take 18 (by kernel_rfl) (by kernel_rfl) (by kernel_rfl) (by kernel_rfl) (by assumption) ?_
                    intro o ho
                    simp only [List.getElem?_toArray, List.getElem?_cons_succ, List.getElem?_cons_zero, Option.some.injEq] at ho
                    subst ho
                    refine ⟨?_, fun _ _ _ h => h, Or.inl ⟨by rfl, ?_⟩, ?_⟩
                    rotate_left
                    · intro w hSw
                      go_simp
                      try with_reducible rfl
                    simp only [Act.put, List.setIfInBounds_toArray, List.set_cons_zero, List.set_cons_succ]
                    refine wpUpto.take 19 (by kernel_rfl) (by kernel_rfl) (by kernel_rfl) (by kernel_rfl) (by assumption) ?_
                    intro o ho
                    simp only [List.getElem?_toArray, List.getElem?_cons_succ, List.getElem?_cons_zero, Option.some.injEq] at ho
                    subst ho
                    refine ⟨?_, fun _ _ _ h => h, Or.inl ⟨by rfl, ?_⟩, ?_⟩
                    rotate_left
                    · intro w hSw
                      go_simp
                      try with_reducible rfl
                    simp only [Act.put, List.setIfInBounds_toArray, List.set_cons_zero, List.set_cons_succ]
                    refine wpUpto.take 20 (by kernel_rfl) (by kernel_rfl) (by kernel_rfl) (by kernel_rfl) (by assumption) ?_
                    intro o ho
                    simp only [List.getElem?_toArray, List.getElem?_cons_succ, List.getElem?_cons_zero, Option.some.injEq] at ho
                    subst ho
                    refine ⟨?_, fun _ _ _ h => h, Or.inl ⟨by rfl, ?_⟩, ?_⟩
                    rotate_left
                    · intro w hSw
                      go_simp
                      try with_reducible rfl
                    simp only [Act.put, List.setIfInBounds_toArray, List.set_cons_zero, List.set_cons_succ]
                    refine wpUpto.take 21 (by kernel_rfl) (by kernel_rfl) (by kernel_rfl) (by kernel_rfl) (by assumption) ?_
                    intro o ho
                    simp only [List.getElem?_toArray, List.getElem?_cons_succ, List.getElem?_cons_zero, Option.some.injEq] at ho
                    subst ho
                    refine ⟨?_, fun _ _ _ h => h, Or.inl ⟨by rfl, ?_⟩, ?_⟩
                    rotate_left
                    · intro w hSw
                      go_simp
                      try with_reducible rfl
                    simp only [Act.put, List.setIfInBounds_toArray, List.set_cons_zero, List.set_cons_succ]
                    refine wpUpto.take 22 (by kernel_rfl) (by kernel_rfl) (by kernel_rfl) (by kernel_rfl) (by assumption) ?_
                    intro o ho
                    simp only [List.getElem?_toArray, List.getElem?_cons_succ, List.getElem?_cons_zero, Option.some.injEq] at ho
                    subst ho
                    refine ⟨?_, fun _ _ _ h => h, Or.inl ⟨by rfl, ?_⟩, ?_⟩
                    rotate_left
                    · intro w hSw
                      go_simp
                      try with_reducible rfl
                    simp only [Act.put, List.setIfInBounds_toArray, List.set_cons_zero, List.set_cons_succ]
                    refine wpUpto.take 23 (by kernel_rfl) (by kernel_rfl) (by kernel_rfl) (by kernel_rfl) (by assumption) ?_
                    intro o ho
                    simp only [List.getElem?_toArray, List.getElem?_cons_succ, List.getElem?_cons_zero, Option.some.injEq] at ho
                    subst ho
                    refine ⟨?_, fun _ _ _ h => h, Or.inl ⟨by rfl, ?_⟩, ?_⟩
                    rotate_left
                    · intro w hSw
                      go_simp
                      try with_reducible rfl
                    simp only [Act.put, List.setIfInBounds_toArray, List.set_cons_zero, List.set_cons_succ]
                    refine wpUpto.one 13 (by kernel_rfl) ?_
                    intro o ho K hK
                    simp only [List.getElem?_toArray, List.getElem?_cons_succ, List.getElem?_cons_zero, Option.some.injEq] at ho
                    subst ho
                    go_simp
                    refine hK.out _ _ ?_ (fun hHeld => ?_)
                    · go_keep
                    clear hK K
                    try simp only [Act.put, List.setIfInBounds_toArray, List.set_cons_zero, List.set_cons_succ]
                    refine wpUpto.one 24 (by kernel_rfl) ?_
                    intro o ho K hK
                    simp only [List.getElem?_toArray, List.getElem?_cons_succ, List.getElem?_cons_zero, Option.some.injEq] at ho
                    subst ho
                    refine step_append_run rfl (.tmp 163) (.tmp 173) _ rfl _ _ _ _ rfl rfl hrun5 ?_
                    refine hK.out _ _ ?_ (fun hHeld => ?_)
                    · exact ⟨m0, m2, m4⟩
                    clear hK K
                    try simp only [Act.put, List.setIfInBounds_toArray, List.set_cons_zero, List.set_cons_succ]
                    refine wpUpto.take 25 (by kernel_rfl) (by kernel_rfl) (by kernel_rfl) (by kernel_rfl) (by assumption) ?_
                    intro o ho
                    simp only [List.getElem?_toArray, List.getElem?_cons_succ, List.getElem?_cons_zero, Option.some.injEq] at ho
                    subst ho
                    refine ⟨?_, fun _ _ _ h => h, Or.inl ⟨by rfl, ?_⟩, ?_⟩
                    rotate_left
                    · intro w hSw
                      go_simp
                      try with_reducible rfl
                    simp only [Act.put, List.setIfInBounds_toArray, List.set_cons_zero, List.set_cons_succ]
                    refine wpUpto.one 26 (by kernel_rfl) ?_
                    intro o ho K hK
                    simp only [List.getElem?_toArray, List.getElem?_cons_succ, List.getElem?_cons_zero, Option.some.injEq] at ho
                    subst ho
                    go_simp
                    refine hK.out _ _ ?_ (fun hHeld => ?_)
                    · go_keep
                    clear hK K
                    try simp only [Act.put, List.setIfInBounds_toArray, List.set_cons_zero, List.set_cons_succ]
                    refine wpUpto.one 27 (by kernel_rfl) ?_
                    intro o ho K hK
                    simp only [List.getElem?_toArray, List.getElem?_cons_succ, List.getElem?_cons_zero, Option.some.injEq] at ho
                    subst ho
                    refine step_append_run rfl (.tmp 155) (.tmp 176) _ rfl _ _ _ _ rfl rfl hrun7 ?_
                    refine hK.out _ _ ?_ (fun hHeld => ?_)
                    · exact ⟨n0, n2, n4⟩
                    clear hK K
                    try simp only [Act.put, List.setIfInBounds_toArray, List.set_cons_zero, List.set_cons_succ]
                    refine wpUpto.one 28 (by kernel_rfl) ?_
                    intro o ho K hK
                    simp only [List.getElem?_toArray, List.getElem?_cons_succ, List.getElem?_cons_zero, Option.some.injEq] at ho
                    subst ho
                    go_simp
                    refine hK.out _ _ ?_ (fun hHeld => ?_)
                    · assumption
                    clear hK K
                    try simp only [Act.put, List.setIfInBounds_toArray, List.set_cons_zero, List.set_cons_succ]
                    refine wpUpto.one 29 (by kernel_rfl) ?_
                    intro o ho K hK
                    simp only [List.getElem?_toArray, List.getElem?_cons_succ, List.getElem?_cons_zero, Option.some.injEq] at ho
                    subst ho
                    go_simp
                    refine hK.out _ _ ?_ (fun hHeld => ?_)
                    · assumption
                    clear hK K
                    try simp only [Act.put, List.setIfInBounds_toArray, List.set_cons_zero, List.set_cons_succ]
                    refine wpUpto.one 30 (by kernel_rfl) ?_
                    intro o ho K hK
                    simp only [List.getElem?_toArray, List.getElem?_cons_succ, List.getElem?_cons_zero, Option.some.injEq] at ho
                    subst ho
                    go_simp
                    refine hK.out _ _ ?_ (fun hHeld => ?_)
                    · assumption
                    clear hK K
                    try simp only [Act.put, List.setIfInBounds_toArray, List.set_cons_zero, List.set_cons_succ]
                    refine wpUpto.last (by kernel_rfl) ?_
                    intro o ho K hK
                    simp only [List.getElem?_toArray, List.getElem?_cons_succ, List.getElem?_cons_zero, Option.some.injEq] at ho
                    subst ho
                    go_simp
                    refine hK.out _ _ ?_
                    clear hK K
                    refine wpUpto.done (by kernel_rfl) ?_ _
                    refine NoPanic.normal ?_
                    try simp only [Act.put, List.setIfInBounds_toArray, List.set_cons_zero, List.set_cons_succ]
                    have zz1 : ∀ x, (w7.setCell ⟨Q, 4, none⟩ x).cell? ⟨Q, 1, none⟩ = some (.int .i64 a) := fun x => (Blk.set_ HY.out.1 4 x).cell 1
                    have zf1 : ∀ x, (w7.setCell ⟨Q, 4, none⟩ x).frozen? ⟨Q, 1, none⟩ = false := fun x => (Blk.set_ HY.out.1 4 x).frozen 1
                    go_wp2_with fail
                    go_ret2
                    rw [HS.out]
                    exact ⟨rfl, A7, c7, g7, A5, c5, RdrW.evd HY.out.1 HW2.out.le HY.out.2.1 HY.out.2.2 HDL.out⟩
            · have HS := Lib.hid (step_data (last := la) (acc := pes acc) HD.out H12.out HM.out HG1.out HG2.out herq)
              have hne : ((erq : Int) != 0) = true := by simp; exact herq
              clear herq
              go_wp2_with fail
              go_ret2
              rw [HS.out]
              exact ⟨rfl, HW2.out.bel⟩
          · have HS := Lib.hid (step_time (last := la) (acc := pes acc) HD.out H12.out HM.out HG1.out her)
            have hne : ((er : Int) != 0) = true := by simp; exact her
            clear her
            go_wp2_with fail
            go_ret2
            rw [HS.out]
            exact ⟨rfl, HW1.out.bel⟩
    · have HS := Lib.hid (step_other (last := la) (acc := pes acc) HD.out h3 (by omega) (by omega))
      have k1 : ((d : Int) != 1) = true := by rw [bne_iff_ne]; omega
      have k2 : ((d : Int) != 2) = true := by rw [bne_iff_ne]; omega
      clear h3 h12
      go_enter Try.func30, Try.ntmps30
      go_wp2_with fail
      go_quiet (fail)
      generalize hV : World.drewN W _ = V
      have hWV : RdrW w V Q (.slice (some ⟨b, o, none⟩) n c) a la B cB g acc false := by rw [← hV]; exact HW.out.drewN _
      have y1 : V.cell? ⟨Q, 1, none⟩ = some (.int .i64 a) := hWV.box.cell 1
      have HWV := Lib.hid hWV
      clear hV hWV q0 q1 hc
      go_wp2_with fail
      go_ret2
      rw [HS.out]
      exact ⟨rfl, HWV.out.bel⟩
end Go.Proofs.Ytbaibabnfbjdeaa
