/-
  The closure that turn.All hands out: the turns, one by one, with their numbers, each in memory of its own.
  Conditions: at most 4194304 bytes together.
-/
import Derived.Test.YtchfiiiippnigaaTnAll
namespace Go.Proofs.Ytchfiiiippnigaa
open Go.RowKit Go.Shelf

attribute [local go_sem] Oper.semAt_some

/-- A turn that is handed out, with its number. -/
structure TE where
  num : Nat
  a : R1
  b : R1
def TE.tn (x : TE) : Tn := ⟨x.a.l, x.b.l⟩
def TE.vals (x : TE) : Array Value := #[.int .i64 (x.num : Nat), .agg #[.slice x.a.A x.a.l.length x.a.c, .slice x.b.A x.b.l.length x.b.c]]
/-- It is the next one of T, and its bytes were made since n1. -/
def HandedT (n1 : Nat) (T : List Tn) (pre : List TE) (x : TE) (W : World) : Prop := x.num = pre.length ∧ T[x.num]? = some x.tn ∧ Own2 n1 W x.a x.b
theorem Own2.keep {n0 : Nat} {W W' : World} {a b : R1} (h : Own2 n0 W a b) (hk : ∀ k cs, n0 ≤ k → W.heap[k]? = some (.cells cs 5 (0, 0)) → W'.heap[k]? = W.heap[k]?) : Own2 n0 W' a b :=
  ⟨h.ra.keep fun k e => by obtain ⟨cs, hc⟩ := h.ra.objR e; exact hk k cs (h.fa k e) hc, h.fa, h.rb.keep fun k e => by obtain ⟨cs, hc⟩ := h.rb.objR e; exact hk k cs (h.fb k e) hc, h.fb, h.apart⟩
/-- These blocks are as they were, and none is gone. -/
def KeptZ (S : Nat → Prop) (W W' : World) : Prop := Kept S W W' ∧ W.heap.size ≤ W'.heap.size
theorem KeptZ.t {S : Nat → Prop} {A B C : World} (h : KeptZ S A B) (k : KeptZ S B C) : KeptZ S A C := ⟨h.1.t k.1, Nat.le_trans h.2 k.2⟩
theorem KeptZ.b {S : Nat → Prop} {w : World} (hS : ∀ b, S b → b < w.heap.size) (W : World) (l : Nat) (o o' : Obj) (hl : w.heap.size ≤ l) (h1 : W.heap[l]? = some o) (h2 : o.isCells = false) (h3 : o.isWalk = false) : KeptZ S W (W.putObj l o') :=
  ⟨Kept.b hS W l o o' hl h1 h2 h3, by simp⟩
theorem below_grown {W W' : World} (h : Below W.heap.size W W') : W.grownBy W' none := ⟨h.os, h.tape, h.output, h.size, fun i hi _ => h.block i hi⟩

set_option maxRecDepth 100000 in
set_option maxHeartbeats 4000000 in
theorem All1_told (n : Nat) (hn : 1 ≤ n) (Bo : Nat) (v : Value) (L : List Ev) (S : Nat → Prop) (w : World) (hSlt : ∀ b, S b → b < w.heap.size) (hBo : Blk w Bo 22 #[v]) (hL : EvsIn S w v L) (hal : Alt (pes L)) (hw : whole (pes L) ≤ 4194304) (hln : L.length ≤ 4194304) :
    SeqTold Fence.wide n Try.prog 25 #[.pointer (some ⟨Bo, 0, none⟩)] TE.vals (HandedT w.heap.size (turns (pes L))) (KeptZ S) (fun xs => xs.map TE.tn = turns (pes L)) (turns (pes L)).length w := by
  intro l J W hW hab hY h0
  have hBo' := hBo.below hW hBo.lt
  have hL' : EvsIn S W v L := hL.keep fun b _ hlt => hW.block b hlt
  have hwW := hW.size
  clear hBo hL hW
  obtain ⟨A, c, rfl, -⟩ := hL'.form
  have cl : W.cell? ⟨Bo, 0, none⟩ = some (.slice A L.length c) := hBo'.cell 0
  generalize hT : turns (pes L) = T at *
  have HH := Lib.hid (And.intro hL' (And.intro hwW (And.intro hal (And.intro hw hT))))
  have HAB := Lib.hid hab
  clear hBo' hL' hwW hab hal hw hT
  refine callsIn_of_wp Try.func25 rfl trivial ?_ rfl
  simp only [Try.ntmps25, List.size_toArray, List.length_cons, List.length_nil, Nat.reduceAdd, Nat.reduceSub, Array.replicate_succ, Array.replicate_zero, List.push_toArray, List.append_toArray, List.nil_append, List.cons_append]
  gi_wp2
  gi_loopw [3, 4] (fun r i wr => ∃ (k : Nat) (pre : List TE) (B : Option Addr) (d : Nat) (Lr : List Ev), i = .int .i64 k ∧ r = .slice B Lr.length d ∧ k ≤ 4194304 ∧ J pre wr ∧ Hid (EvsIn S wr (.slice B Lr.length d) Lr ∧ Alt (pes Lr) ∧ T = pre.map TE.tn ++ turns (pes Lr) ∧ pre.length = k ∧ whole (pes Lr) ≤ 4194304 ∧ w.heap.size ≤ wr.heap.size ∧ k + Lr.length ≤ 4194304))
    (fun r _ _ => match r with | .slice _ m _ => m | _ => 0)
  case atStart => exact ⟨0, [], A, c, L, rfl, rfl, by omega, h0, Lib.hid ⟨HH.out.1, HH.out.2.2.1, by rw [HH.out.2.2.2.2]; rfl, rfl, HH.out.2.2.2.1, HH.out.2.1, by omega⟩⟩
  case round =>
    obtain ⟨k, pre, B, d, Lr, rfl, rfl, hk, hJs, HR⟩ := hrel
    by_cases hlt : 0 < Lr.length
    · have hkl : k + 1 ≤ 4194304 := by have := HR.out.2.2.2.2.2.2; omega
      have hmx : Lr.length ≤ 4194304 := by have := HR.out.2.2.2.2.2.2; omega
      have HF : Hid (Calls Try.prog 26 #[.slice B Lr.length d] (wr.alloc (.cells #[.slice none 0 0, .slice none 0 0] 33)) (FirstTo S (wr.alloc (.cells #[.slice none 0 0, .slice none 0 0] 33)) Lr)) :=
        Lib.hid (first_is S _ Lr _ (HR.out.1.keep fun b _ hl => Below.heap_alloc wr _ b hl) HR.out.2.1 (List.length_pos_iff.1 hlt) HR.out.2.2.2.2.1)
      have q1 : decide (0 < Lr.length) = true := by simpa using hlt
      clear hlt
      gi_wp2_with fail
      refine ⟨trivial, ?_⟩
      refine (callsIn_wide.2 HF.out).mono ?_
      rintro e w1 ⟨⟨A3, c3, l3, g3⟩, ⟨A4, c4, l4, g4⟩, B', N', d', L', rfl, hlen, hown, hE, hal', htu, hwh, hbel⟩
      have hnn : N' = L'.length := hE.n
      subst hnn
      have hb0 : Blk w1 wr.heap.size 33 #[.slice none 0 0, .slice none 0 0] := (Blk.new wr _ _).below hbel (by simp)
      have x0 : w1.cell? ⟨wr.heap.size, 0, none⟩ = some (.slice none 0 0) := hb0.cell 0
      have x1 : w1.cell? ⟨wr.heap.size, 1, none⟩ = some (.slice none 0 0) := hb0.cell 1
      have f0 := hb0.frozen 0
      have f1 := hb0.frozen 1
      obtain ⟨w5, hw5⟩ : ∃ w5, w5 = (w1.setCell ⟨wr.heap.size, 0, none⟩ (.slice A3 l3.length c3)).setCell ⟨wr.heap.size, 1, none⟩ (.slice A4 l4.length c4) := ⟨_, rfl⟩
      have hb5 : Below wr.heap.size wr w5 := by
        rw [hw5]
        exact ((((Below.refl _ wr).alloc (Nat.le_refl _) _).trans (hbel.mono (by simp))).setCell (p := ⟨wr.heap.size, 0, none⟩) (by simp) _).setCell (p := ⟨wr.heap.size, 1, none⟩) (by simp) _
      have hsz := HR.out.2.2.2.2.2.1
      have hfa : ∀ m, g3 = some m → wr.heap.size + 1 ≤ m := by have := hown.fa; simpa using this
      have hfb : ∀ m, g4 = some m → wr.heap.size + 1 ≤ m := by have := hown.fb; simpa using this
      have hown5 : Own2 w.heap.size w5 ⟨A3, c3, l3, g3⟩ ⟨A4, c4, l4, g4⟩ := by
        have h1 := own_far (own_far hown ⟨wr.heap.size, 0, none⟩ (.slice A3 l3.length c3) (fun e => by have h2 : wr.heap.size + 1 ≤ wr.heap.size := hfa _ e; omega) (fun e => by have h2 : wr.heap.size + 1 ≤ wr.heap.size := hfb _ e; omega)) ⟨wr.heap.size, 1, none⟩ (.slice A4 l4.length c4) (fun e => by have h2 : wr.heap.size + 1 ≤ wr.heap.size := hfa _ e; omega) (fun e => by have h2 : wr.heap.size + 1 ≤ wr.heap.size := hfb _ e; omega)
        rw [hw5]
        exact ⟨h1.ra, fun m e => by have := hfa m e; omega, h1.rb, fun m e => by have := hfb m e; omega, h1.apart⟩
      have hTT : T = (pre ++ [(⟨k, ⟨A3, c3, l3, g3⟩, ⟨A4, c4, l4, g4⟩⟩ : TE)]).map TE.tn ++ turns (pes L') := by
        rw [HR.out.2.2.1, htu]; simp [TE.tn]
      have hpk := HR.out.2.2.2.1
      have hH5 : HandedT w.heap.size T pre ⟨k, ⟨A3, c3, l3, g3⟩, ⟨A4, c4, l4, g4⟩⟩ w5 := by
        refine ⟨hpk.symm, ?_, hown5⟩
        rw [hTT]
        simp [hpk, TE.tn]
      have hJ5 : J pre w5 := HAB.out _ _ _ hJs (below_grown hb5)
      have hpl : pre.length < T.length := by rw [hTT]; simp
      obtain ⟨fn, tmps, assign, body, hy, hR⟩ := hY pre ⟨k, ⟨A3, c3, l3, g3⟩, ⟨A4, c4, l4, g4⟩⟩ w5 hJ5 hH5 hpl
      have HE5 : Hid (EvsIn S w5 (.slice B' L'.length d') L' ∧ wr.heap.size ≤ w5.heap.size) := Lib.hid ⟨hE.keep fun b hb _ => by have hbb : b < wr.heap.size := (Nat.lt_of_lt_of_le (hSlt b hb) hsz); exact (hb5.block b hbb).trans (Below.heap_alloc wr _ b hbb).symm, hb5.size⟩
      have HN := Lib.hid (And.intro hal' (And.intro hTT (And.intro hpk (And.intro hwh hlen))))
      rw [hw5] at hR
      have HRR := Lib.hid hR
      simp only [TE.vals] at hy
      rw [hw5] at hy
      simp only [R1.val]
      clear hE hal' htu hwh hbel hlen hown hb0 hb5 hfa hfb hown5 hTT hpk hH5 hJ5 hpl hR HF
      gi_wp2
      refine HRR.out.mono ?_
      rintro e W3 ⟨rfl, hJ3, hk3⟩
      rw [← hw5] at hk3
      have HR3 : Hid (EvsIn S W3 (.slice B' L'.length d') L' ∧ Alt (pes L') ∧ T = (pre ++ [(⟨k, ⟨A3, c3, l3, g3⟩, ⟨A4, c4, l4, g4⟩⟩ : TE)]).map TE.tn ++ turns (pes L') ∧ (pre ++ [(⟨k, ⟨A3, c3, l3, g3⟩, ⟨A4, c4, l4, g4⟩⟩ : TE)]).length = k + 1 ∧ whole (pes L') ≤ 4194304 ∧ w.heap.size ≤ W3.heap.size ∧ k + 1 + L'.length ≤ 4194304) :=
        Lib.hid ⟨HE5.out.1.keep fun b hb _ => hk3.1 b hb, HN.out.1, HN.out.2.1, by rw [List.length_append, HN.out.2.2.1]; rfl, Nat.le_trans HN.out.2.2.2.1 HR.out.2.2.2.2.1, Nat.le_trans hsz (Nat.le_trans HE5.out.2 hk3.2), by have := HR.out.2.2.2.2.2.2; have := HN.out.2.2.2.2; omega⟩
      have hmeas : L'.length < Lr.length := HN.out.2.2.2.2
      clear hk3 hy hw5
      gi_wp2
      go_roundw
      case rel => exact ⟨k + 1, _, B', d', L', by go_num, rfl, hkl, hJ3, HR3⟩
      case measure => simp; omega
    · have hz : Lr.length = 0 := by omega
      have q1 : decide (0 < Lr.length) = false := by simp [hz]
      clear hlt
      gi_wp2
      go_end0
      have h0 : Lr = [] := List.length_eq_zero_iff.1 hz
      have h1 := HR.out.2.2.1
      rw [h0] at h1
      exact ⟨⟨_, rfl⟩, pre, by rw [h1]; simp [pes, turns, turnsF], hJs⟩
end Go.Proofs.Ytchfiiiippnigaa
