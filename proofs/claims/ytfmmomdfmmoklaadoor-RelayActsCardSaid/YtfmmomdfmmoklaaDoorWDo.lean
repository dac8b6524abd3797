/-
  The contract of cuecardlaw07.World's Do: what happens by a pick.
  Conditions: the package's table holds what its initialiser lays (Oth); at most 100 bytes in a pick, at most 1000000 in what was written and read.
-/
import Derived.Test.YtfmmomdfmmoklaaDoorWPick
import Derived.Test.YtfmmomdfmmoklaaDoorUptoLast
import Derived.Deep.DeepCutAuto
import Derived.Deep.CutBlock
import Derived.Deep.RegionHeld3
namespace Go.Proofs.YtfmmomdfmmoklaaDoor
open Go.RowKit

/-- An end (0 the user, 1 the child) writes, reads, hangs up. -/
def Wld.says (y : Wld) (e : Nat) (zs : List Nat) : Wld :=
  { y.line (1 - e) e ⟨(y.x.f (1 - e) e).en, (y.x.f (1 - e) e).xs ++ zs.take (putN y.x.rm (y.x.f (1 - e) e).en (y.x.f (1 - e) e).xs.length zs.length)⟩ with wr := upn y.wr e (y.wr e ++ zs.take (putN y.x.rm (y.x.f (1 - e) e).en (y.x.f (1 - e) e).xs.length zs.length)) }
def Wld.hears (y : Wld) (e : Nat) (n : Int) : Wld :=
  { y.line (1 - e) (1 - e) ⟨(y.x.f (1 - e) (1 - e)).en, (y.x.f (1 - e) (1 - e)).xs.drop n.toNat⟩ with rd := upn y.rd e (y.rd e ++ (y.x.f (1 - e) (1 - e)).xs.take n.toNat) }
def Wld.hangs (y : Wld) (e : Nat) : Wld := y.line (1 - e) e ⟨true, (y.x.f (1 - e) e).xs⟩
/-- What happens by a pick. -/
def Wld.act (y : Wld) (kind n t : Int) (zs : List Nat) : Bool × Wld :=
  if kind = 4 then (false, y.says 0 zs) else if kind = 5 then (false, y.hears 0 n) else if kind = 6 then (false, y.hangs 0) else if kind = 7 then (false, y.says 1 zs) else if kind = 8 then (false, y.hears 1 n) else if kind = 9 then (false, y.hangs 1)
  else ((y.x.step kind n t).1, { y with x := (y.x.step kind n t).2 })

/-- What was written and read is short. -/
def Wld.Short (y : Wld) : Prop := ∀ e, e < 2 → (y.wr e).length ≤ 1000000 ∧ (y.rd e).length ≤ 1000000

section
variable {N : Nat → Prop} {w0 w : World} {b u c r : Nat} {y : Wld}
theorem WAt.setWr (h : WAt N w0 w b u c r y) {e : Nat} (he : e < 2) (x : List Nat) : WAt N w0 (w.setCell ⟨b, 3 + e, none⟩ (.string (str x))) b u c r { y with wr := upn y.wr e x } ∧ Stay N w (w.setCell ⟨b, 3 + e, none⟩ (.string (str x))) := by
  obtain ⟨F, h⟩ := h
  obtain ⟨A, B, hs⟩ := id h.it
  have ho : Only A w (w.setCell ⟨b, 3 + e, none⟩ (.string (str x))) := (Only.refl A w).setCell (p := ⟨b, 3 + e, none⟩) (.inl ((hs.fst.2 b).2 rfl)) _
  refine h.turn (hs.left (P' := Bx b u c r (upn y.wr e x) y.rd) (SysT.framed ..) ⟨A, ⟨?_, hs.fst.2⟩, ho, fun _ => .inl⟩)
  have := hs.fst.1.set_ (3 + e) (.string (str x))
  have e2 : wldCells u c r (upn y.wr e x) y.rd = (wldCells u c r y.wr y.rd).setIfInBounds (3 + e) (.string (str x)) := by
    rcases (show e = 0 ∨ e = 1 by omega) with rfl | rfl <;> simp [wldCells, upn]
  rw [e2]; exact this
theorem WAt.setRd (h : WAt N w0 w b u c r y) {e : Nat} (he : e < 2) (x : List Nat) : WAt N w0 (w.setCell ⟨b, 5 + e, none⟩ (.string (str x))) b u c r { y with rd := upn y.rd e x } ∧ Stay N w (w.setCell ⟨b, 5 + e, none⟩ (.string (str x))) := by
  obtain ⟨F, h⟩ := h
  obtain ⟨A, B, hs⟩ := id h.it
  have ho : Only A w (w.setCell ⟨b, 5 + e, none⟩ (.string (str x))) := (Only.refl A w).setCell (p := ⟨b, 5 + e, none⟩) (.inl ((hs.fst.2 b).2 rfl)) _
  refine h.turn (hs.left (P' := Bx b u c r y.wr (upn y.rd e x)) (SysT.framed ..) ⟨A, ⟨?_, hs.fst.2⟩, ho, fun _ => .inl⟩)
  have := hs.fst.1.set_ (5 + e) (.string (str x))
  have e2 : wldCells u c r y.wr (upn y.rd e x) = (wldCells u c r y.wr y.rd).setIfInBounds (5 + e) (.string (str x)) := by
    rcases (show e = 0 ∨ e = 1 by omega) with rfl | rfl <;> simp [wldCells, upn]
  rw [e2]; exact this
theorem Stay.trans {w1 w2 : World} (h : Stay N w w1) (k : Stay N w1 w2) : Stay N w w2 := fun i hi => (k i hi).trans (h i hi)

/-- What Do leaves. -/
def Acted (N : Nat → Prop) (w0 w : World) (b u c r : Nat) (q : Bool × Wld) (e : Ending) (w' : World) : Prop := e = .returned (.bool q.1) ∧ WAt N w0 w' b u c r q.2 ∧ Stay N w w'

set_option maxHeartbeats 4000000 in
set_option maxRecDepth 100000 in
theorem Do_step (h : WAt N w0 w b u c r y) (ho : Oth w0) (hx : y.x.Ok) (hs : y.Short) {kind : Int} (k4 : kind ≠ 4) (k5 : kind ≠ 5) (k6 : kind ≠ 6) (k7 : kind ≠ 7) (k8 : kind ≠ 8) (k9 : kind ≠ 9) (n t : Int) {A : Option Addr} {k : Nat} {zs : List Nat} (hr : Rd w0 (.slice A zs.length k) (bv zs)) :
    Calls Tryd.prog 15 #[.pointer (some ⟨b, 0, none⟩), .agg #[.int .i64 kind, .int .i64 n, .int .i64 t, .slice A zs.length k]] w (Acted N w0 w b u c r ((y.x.step kind n t).1, { y with x := (y.x.step kind n t).2 })) := by
  have hb := h.blk
  have hlt := hb.lt
  have HM := h.more (.cells #[.int .i64 kind, .int .i64 n, .int .i64 t, .slice A zs.length k] 37)
  have hbx := Blk.new w 37 #[.int .i64 kind, .int .i64 n, .int .i64 t, .slice A zs.length k]
  have hst : Stay N w (w.alloc (.cells #[.int .i64 kind, .int .i64 n, .int .i64 t, .slice A zs.length k] 37)) := fun i hi => Below.heap_alloc w _ i (h.lt hi)
  obtain ⟨cb, hcb⟩ : ∃ cb, w.heap.size = cb := ⟨_, rfl⟩
  obtain ⟨W, hW⟩ : ∃ W, w.alloc (.cells #[.int .i64 kind, .int .i64 n, .int .i64 t, .slice A zs.length k] 37) = W := ⟨_, rfl⟩
  rw [hcb, hW] at HM
  rw [hcb, hW] at hbx
  rw [hW] at hst
  have i0 : W.cell? ⟨cb, 0, none⟩ = some (.int .i64 kind) := hbx.cell 0
  have i1 : W.cell? ⟨cb, 1, none⟩ = some (.int .i64 n) := hbx.cell 1
  have i2 : W.cell? ⟨cb, 2, none⟩ = some (.int .i64 t) := hbx.cell 2
  have i3 : W.cell? ⟨cb, 3, none⟩ = some (.slice A zs.length k) := hbx.cell 3
  have j0 : W.cell? ⟨b, 0, none⟩ = some (.pointer (some ⟨u, 0, none⟩)) := HM.blk.cell 0
  have j1 : W.cell? ⟨b, 1, none⟩ = some (.pointer (some ⟨c, 0, none⟩)) := HM.blk.cell 1
  have j2 : W.cell? ⟨b, 2, none⟩ = some (.pointer (some ⟨r, 0, none⟩)) := HM.blk.cell 2
  have H := Lib.hid (And.intro HM (And.intro hbx hst))
  have HO := Lib.hid (And.intro ho (And.intro hs hr))
  have HW := Lib.hid (And.intro hW hcb)
  clear h ho hs hr hb hlt HM hbx hst hW hcb
  have b4 : (kind == 4) = false := by simpa using k4
  have b5 : (kind == 5) = false := by simpa using k5
  have b6 : (kind == 6) = false := by simpa using k6
  have b7 : (kind == 7) = false := by simpa using k7
  have b8 : (kind == 8) = false := by simpa using k8
  have b9 : (kind == 9) = false := by simpa using k9
  have HS := Lib.hid (WStep H.out.1.drew HO.out.1 hx kind n t)
  clear hx k4 k5 k6 k7 k8 k9
  go_enter Tryd.func15, Tryd.ntmps15
  go_upto_region 1 with (fail)
  rw [HW.out.1, HW.out.2]
  go_wp2_with fail
  go_still_tail 10, (by kernel_rfl)
  change wpList _ _ _ _ _ W.drew
  go_wp2_with fail
  refine HS.out.mono ?_
  rintro e w1 ⟨rfl, h1, hs1⟩
  have H1 := Lib.hid (And.intro h1 hs1)
  clear h1 hs1
  go_wp2_with fail
  go_ret
  exact ⟨rfl, H1.out.1.less (fun i hi => .inl hi), H.out.2.2.trans (fun i hi => H1.out.2 i (.inl hi))⟩

set_option maxHeartbeats 4000000 in
set_option maxRecDepth 100000 in
theorem Do_hang0 (h : WAt N w0 w b u c r y) (ho : Oth w0) (hs : y.Short) (n t : Int) {A : Option Addr} {k : Nat} {zs : List Nat} (hr : Rd w0 (.slice A zs.length k) (bv zs)) :
    Calls Tryd.prog 15 #[.pointer (some ⟨b, 0, none⟩), .agg #[.int .i64 6, .int .i64 n, .int .i64 t, .slice A zs.length k]] w (Acted N w0 w b u c r (false, y.hangs 0)) := by
  have hb := h.blk
  have hlt := hb.lt
  have HM := h.more (.cells #[.int .i64 6, .int .i64 n, .int .i64 t, .slice A zs.length k] 37)
  have hbx := Blk.new w 37 #[.int .i64 6, .int .i64 n, .int .i64 t, .slice A zs.length k]
  have hst : Stay N w (w.alloc (.cells #[.int .i64 6, .int .i64 n, .int .i64 t, .slice A zs.length k] 37)) := fun i hi => Below.heap_alloc w _ i (h.lt hi)
  obtain ⟨cb, hcb⟩ : ∃ cb, w.heap.size = cb := ⟨_, rfl⟩
  obtain ⟨W, hW⟩ : ∃ W, w.alloc (.cells #[.int .i64 6, .int .i64 n, .int .i64 t, .slice A zs.length k] 37) = W := ⟨_, rfl⟩
  rw [hcb, hW] at HM
  rw [hcb, hW] at hbx
  rw [hW] at hst
  have i0 : W.cell? ⟨cb, 0, none⟩ = some (.int .i64 6) := hbx.cell 0
  have i1 : W.cell? ⟨cb, 1, none⟩ = some (.int .i64 n) := hbx.cell 1
  have i2 : W.cell? ⟨cb, 2, none⟩ = some (.int .i64 t) := hbx.cell 2
  have i3 : W.cell? ⟨cb, 3, none⟩ = some (.slice A zs.length k) := hbx.cell 3
  have j0 : W.cell? ⟨b, 0, none⟩ = some (.pointer (some ⟨u, 0, none⟩)) := HM.blk.cell 0
  have j1 : W.cell? ⟨b, 1, none⟩ = some (.pointer (some ⟨c, 0, none⟩)) := HM.blk.cell 1
  have j2 : W.cell? ⟨b, 2, none⟩ = some (.pointer (some ⟨r, 0, none⟩)) := HM.blk.cell 2
  have H := Lib.hid (And.intro HM (And.intro hbx hst))
  have HO := Lib.hid (And.intro ho (And.intro hs hr))
  have HW := Lib.hid (And.intro hW hcb)
  clear h ho hs hr hb hlt HM hbx hst hW hcb
  go_enter Tryd.func15, Tryd.ntmps15
  go_upto_region 1 with (fail)
  rw [HW.out.1, HW.out.2]
  have HS := Lib.hid (WHang H.out.1 (k := 1) (s := 0) (p := u) (z := 0) (by omega) (by omega) rfl rfl)
  go_wp2_with fail
  refine HS.out.mono ?_
  rintro e w1 ⟨rfl, h1, hs1⟩
  have H1 := Lib.hid (And.intro h1 hs1)
  clear h1 hs1
  go_wp2_with fail
  go_ret
  exact ⟨rfl, H1.out.1.less (fun i hi => .inl hi), H.out.2.2.trans (fun i hi => H1.out.2 i (.inl hi))⟩

set_option maxHeartbeats 4000000 in
set_option maxRecDepth 100000 in
theorem Do_hang1 (h : WAt N w0 w b u c r y) (ho : Oth w0) (hs : y.Short) (n t : Int) {A : Option Addr} {k : Nat} {zs : List Nat} (hr : Rd w0 (.slice A zs.length k) (bv zs)) :
    Calls Tryd.prog 15 #[.pointer (some ⟨b, 0, none⟩), .agg #[.int .i64 9, .int .i64 n, .int .i64 t, .slice A zs.length k]] w (Acted N w0 w b u c r (false, y.hangs 1)) := by
  have hb := h.blk
  have hlt := hb.lt
  have HM := h.more (.cells #[.int .i64 9, .int .i64 n, .int .i64 t, .slice A zs.length k] 37)
  have hbx := Blk.new w 37 #[.int .i64 9, .int .i64 n, .int .i64 t, .slice A zs.length k]
  have hst : Stay N w (w.alloc (.cells #[.int .i64 9, .int .i64 n, .int .i64 t, .slice A zs.length k] 37)) := fun i hi => Below.heap_alloc w _ i (h.lt hi)
  obtain ⟨cb, hcb⟩ : ∃ cb, w.heap.size = cb := ⟨_, rfl⟩
  obtain ⟨W, hW⟩ : ∃ W, w.alloc (.cells #[.int .i64 9, .int .i64 n, .int .i64 t, .slice A zs.length k] 37) = W := ⟨_, rfl⟩
  rw [hcb, hW] at HM
  rw [hcb, hW] at hbx
  rw [hW] at hst
  have i0 : W.cell? ⟨cb, 0, none⟩ = some (.int .i64 9) := hbx.cell 0
  have i1 : W.cell? ⟨cb, 1, none⟩ = some (.int .i64 n) := hbx.cell 1
  have i2 : W.cell? ⟨cb, 2, none⟩ = some (.int .i64 t) := hbx.cell 2
  have i3 : W.cell? ⟨cb, 3, none⟩ = some (.slice A zs.length k) := hbx.cell 3
  have j0 : W.cell? ⟨b, 0, none⟩ = some (.pointer (some ⟨u, 0, none⟩)) := HM.blk.cell 0
  have j1 : W.cell? ⟨b, 1, none⟩ = some (.pointer (some ⟨c, 0, none⟩)) := HM.blk.cell 1
  have j2 : W.cell? ⟨b, 2, none⟩ = some (.pointer (some ⟨r, 0, none⟩)) := HM.blk.cell 2
  have H := Lib.hid (And.intro HM (And.intro hbx hst))
  have HO := Lib.hid (And.intro ho (And.intro hs hr))
  have HW := Lib.hid (And.intro hW hcb)
  clear h ho hs hr hb hlt HM hbx hst hW hcb
  go_enter Tryd.func15, Tryd.ntmps15
  go_upto_region 1 with (fail)
  rw [HW.out.1, HW.out.2]
  have HS := Lib.hid (WHang H.out.1 (k := 0) (s := 1) (p := c) (z := 1) (by omega) (by omega) rfl rfl)
  go_wp2_with fail
  refine HS.out.mono ?_
  rintro e w1 ⟨rfl, h1, hs1⟩
  have H1 := Lib.hid (And.intro h1 hs1)
  clear h1 hs1
  go_wp2_with fail
  go_ret
  exact ⟨rfl, H1.out.1.less (fun i hi => .inl hi), H.out.2.2.trans (fun i hi => H1.out.2 i (.inl hi))⟩

set_option maxHeartbeats 4000000 in
set_option maxRecDepth 100000 in
theorem Do_says0 (h : WAt N w0 w b u c r y) (ho : Oth w0) (hs : y.Short) (n t : Int) {A : Option Addr} {k : Nat} {zs : List Nat} (hr : Rd w0 (.slice A zs.length k) (bv zs)) (hl : zs.length ≤ 100) :
    Calls Tryd.prog 15 #[.pointer (some ⟨b, 0, none⟩), .agg #[.int .i64 4, .int .i64 n, .int .i64 t, .slice A zs.length k]] w (Acted N w0 w b u c r (false, y.says 0 zs)) := by
  have hb := h.blk
  have hlt := hb.lt
  have HM := h.more (.cells #[.int .i64 4, .int .i64 n, .int .i64 t, .slice A zs.length k] 37)
  have hbx := Blk.new w 37 #[.int .i64 4, .int .i64 n, .int .i64 t, .slice A zs.length k]
  have hst : Stay N w (w.alloc (.cells #[.int .i64 4, .int .i64 n, .int .i64 t, .slice A zs.length k] 37)) := fun i hi => Below.heap_alloc w _ i (h.lt hi)
  obtain ⟨cb, hcb⟩ : ∃ cb, w.heap.size = cb := ⟨_, rfl⟩
  obtain ⟨W, hW⟩ : ∃ W, w.alloc (.cells #[.int .i64 4, .int .i64 n, .int .i64 t, .slice A zs.length k] 37) = W := ⟨_, rfl⟩
  rw [hcb, hW] at HM
  rw [hcb, hW] at hbx
  rw [hW] at hst
  have i0 : W.cell? ⟨cb, 0, none⟩ = some (.int .i64 4) := hbx.cell 0
  have i1 : W.cell? ⟨cb, 1, none⟩ = some (.int .i64 n) := hbx.cell 1
  have i2 : W.cell? ⟨cb, 2, none⟩ = some (.int .i64 t) := hbx.cell 2
  have i3 : W.cell? ⟨cb, 3, none⟩ = some (.slice A zs.length k) := hbx.cell 3
  have j0 : W.cell? ⟨b, 0, none⟩ = some (.pointer (some ⟨u, 0, none⟩)) := HM.blk.cell 0
  have j1 : W.cell? ⟨b, 1, none⟩ = some (.pointer (some ⟨c, 0, none⟩)) := HM.blk.cell 1
  have j2 : W.cell? ⟨b, 2, none⟩ = some (.pointer (some ⟨r, 0, none⟩)) := HM.blk.cell 2
  have H := Lib.hid (And.intro HM (And.intro hbx hst))
  have HO := Lib.hid (And.intro ho (And.intro hs hr))
  have HW := Lib.hid (And.intro hW hcb)
  clear h ho hs hr hb hlt HM hbx hst hW hcb
  go_enter Tryd.func15, Tryd.ntmps15
  go_upto_region 1 with (fail)
  rw [HW.out.1, HW.out.2]
  obtain ⟨np, hnp⟩ : ∃ np, putN y.x.rm (y.x.f 1 0).en (y.x.f 1 0).xs.length zs.length = np := ⟨_, rfl⟩
  have hnl : np ≤ zs.length := by rw [← hnp]; exact putN_le_m ..
  have hmin : min (np : Int) (zs.length : Int) = (np : Int) := by omega
  have hmax : max 0 (np : Int) = (np : Int) := by omega
  have hw := WWrite H.out.1.drew (k := 1) (s := 0) (p := u) (z := 0) (by omega) (by omega) rfl rfl (HO.out.2.2.kept H.out.1.drew.below) (by omega)
  rw [hnp] at hw
  have HP := Lib.hid hw
  have HN := Lib.hid hnp
  clear hw hnp
  go_wp2_with fail
  refine wp_region_noPanic ?_
  refine wp_region_upto (fun V => V.cell? ⟨b, 0, none⟩ = some (.pointer (some ⟨u, 0, none⟩)) ∧ V.cell? ⟨cb, 3, none⟩ = some (.slice A zs.length k)) 12 (by kernel_rfl) ?_ (fun hHeld => ?_)
  · exact ⟨j0, i3⟩
  refine wpUpto.take 0 (by kernel_rfl) (by kernel_rfl) (by kernel_rfl) (by kernel_rfl) (by assumption) ?_
  intro o ho
  simp only [List.getElem?_toArray, List.getElem?_cons_zero, Option.some.injEq] at ho
  subst ho
  refine ⟨?_, fun _ _ _ h => h, Or.inl ⟨by rfl, ?_⟩, ?_⟩
  rotate_left
  · intro w hSw
    go_simp
    try with_reducible rfl
  simp only [Act.put, List.setIfInBounds_toArray, List.set_cons_zero, List.set_cons_succ]
  refine wpUpto.take 1 (by kernel_rfl) (by kernel_rfl) (by kernel_rfl) (by kernel_rfl) (by assumption) ?_
  intro o ho
  simp only [List.getElem?_toArray, List.getElem?_cons_succ, List.getElem?_cons_zero, Option.some.injEq] at ho
  subst ho
  refine ⟨?_, fun _ _ _ h => h, Or.inl ⟨by rfl, ?_⟩, ?_⟩
  rotate_left
  · intro w hSw
    go_simp
    try with_reducible rfl
  simp only [Act.put, List.setIfInBounds_toArray, List.set_cons_zero, List.set_cons_succ]
  refine wpUpto.take 2 (by kernel_rfl) (by kernel_rfl) (by kernel_rfl) (by kernel_rfl) (by assumption) ?_
  intro o ho
  simp only [List.getElem?_toArray, List.getElem?_cons_succ, List.getElem?_cons_zero, Option.some.injEq] at ho
  subst ho
  refine ⟨?_, fun _ _ _ h => h, Or.inl ⟨by rfl, ?_⟩, ?_⟩
  rotate_left
  · intro w hSw
    go_simp
    try with_reducible rfl
  simp only [Act.put, List.setIfInBounds_toArray, List.set_cons_zero, List.set_cons_succ]
  refine wpUpto.take 3 (by kernel_rfl) (by kernel_rfl) (by kernel_rfl) (by kernel_rfl) (by assumption) ?_
  intro o ho
  simp only [List.getElem?_toArray, List.getElem?_cons_succ, List.getElem?_cons_zero, Option.some.injEq] at ho
  subst ho
  refine ⟨?_, fun _ _ _ h => h, Or.inl ⟨by rfl, ?_⟩, ?_⟩
  rotate_left
  · intro w hSw
    go_simp
    try with_reducible rfl
  simp only [Act.put, List.setIfInBounds_toArray, List.set_cons_zero, List.set_cons_succ]
  refine wpUpto.take 4 (by kernel_rfl) (by kernel_rfl) (by kernel_rfl) (by kernel_rfl) (by assumption) ?_
  intro o ho
  simp only [List.getElem?_toArray, List.getElem?_cons_succ, List.getElem?_cons_zero, Option.some.injEq] at ho
  subst ho
  refine ⟨?_, fun _ _ _ h => h, Or.inl ⟨by rfl, ?_⟩, ?_⟩
  rotate_left
  · intro w hSw
    go_simp
    try with_reducible rfl
  simp only [Act.put, List.setIfInBounds_toArray, List.set_cons_zero, List.set_cons_succ]
  refine wpUpto.take 5 (by kernel_rfl) (by kernel_rfl) (by kernel_rfl) (by kernel_rfl) (by assumption) ?_
  intro o ho
  simp only [List.getElem?_toArray, List.getElem?_cons_succ, List.getElem?_cons_zero, Option.some.injEq] at ho
  subst ho
  refine ⟨?_, fun _ _ _ h => h, Or.inl ⟨by rfl, ?_⟩, ?_⟩
  rotate_left
  · intro w hSw
    go_simp
    try with_reducible rfl
  simp only [Act.put, List.setIfInBounds_toArray, List.set_cons_zero, List.set_cons_succ]
  refine wpUpto.take 7 (by kernel_rfl) (by kernel_rfl) (by kernel_rfl) (by kernel_rfl) (by assumption) ?_
  intro o ho
  simp only [List.getElem?_toArray, List.getElem?_cons_succ, List.getElem?_cons_zero, Option.some.injEq] at ho
  subst ho
  refine ⟨?_, fun _ _ _ h => h, Or.inl ⟨by rfl, ?_⟩, ?_⟩
  rotate_left
  · intro w hSw
    go_simp
    try with_reducible rfl
  simp only [Act.put, List.setIfInBounds_toArray, List.set_cons_zero, List.set_cons_succ]
  refine wpUpto.take 8 (by kernel_rfl) (by kernel_rfl) (by kernel_rfl) (by kernel_rfl) (by assumption) ?_
  intro o ho
  simp only [List.getElem?_toArray, List.getElem?_cons_succ, List.getElem?_cons_zero, Option.some.injEq] at ho
  subst ho
  refine ⟨?_, fun _ _ _ h => h, Or.inl ⟨by rfl, ?_⟩, ?_⟩
  rotate_left
  · intro w hSw
    go_simp
    try with_reducible rfl
  simp only [Act.put, List.setIfInBounds_toArray, List.set_cons_zero, List.set_cons_succ]
  refine wpUpto.take 9 (by kernel_rfl) (by kernel_rfl) (by kernel_rfl) (by kernel_rfl) (by assumption) ?_
  intro o ho
  simp only [List.getElem?_toArray, List.getElem?_cons_succ, List.getElem?_cons_zero, Option.some.injEq] at ho
  subst ho
  refine ⟨?_, fun _ _ _ h => h, Or.inl ⟨by rfl, ?_⟩, ?_⟩
  rotate_left
  · intro w hSw
    go_simp
    try with_reducible rfl
  simp only [Act.put, List.setIfInBounds_toArray, List.set_cons_zero, List.set_cons_succ]
  refine wpUpto.one 6 (by kernel_rfl) ?_
  intro o ho K hK
  simp only [List.getElem?_toArray, List.getElem?_cons_succ, List.getElem?_cons_zero, Option.some.injEq] at ho
  subst ho
  go_simp
  go_at_call 30
  refine HP.out.mono ?_
  rintro e w1 ⟨rfl, h1, hs1⟩
  have m0 : w1.cell? ⟨b, 0, none⟩ = some (.pointer (some ⟨u, 0, none⟩)) := h1.blk.cell 0
  have hb1 := hs1.blk (.inr rfl) H.out.2.1
  have m3 : w1.cell? ⟨cb, 3, none⟩ = some (.slice A zs.length k) := hb1.cell 3
  have H1 := Lib.hid (And.intro h1 (And.intro hs1 hb1))
  clear h1 hs1 hb1
  refine hK.out _ _ ?_ (fun hHeld => ?_)
  · exact ⟨m0, m3⟩
  clear hK K
  try simp only [Act.put, List.setIfInBounds_toArray, List.set_cons_zero, List.set_cons_succ]
  refine wpUpto.one 10 (by kernel_rfl) ?_
  intro o ho K hK
  simp only [List.getElem?_toArray, List.getElem?_cons_succ, List.getElem?_cons_zero, Option.some.injEq] at ho
  subst ho
  go_simp
  refine hK.out _ _ ?_ (fun hHeld => ?_)
  · exact ⟨m0, m3⟩
  clear hK K
  try simp only [Act.put, List.setIfInBounds_toArray, List.set_cons_zero, List.set_cons_succ]
  refine wpUpto.one 11 (by kernel_rfl) ?_
  intro o ho K hK
  simp only [List.getElem?_toArray, List.getElem?_cons_succ, List.getElem?_cons_zero, Option.some.injEq] at ho
  subst ho
  go_simp
  refine hK.out _ _ ?_ (fun hHeld => ?_)
  · exact ⟨m0, m3⟩
  clear hK K
  try simp only [Act.put, List.setIfInBounds_toArray, List.set_cons_zero, List.set_cons_succ]
  refine wpUpto.last (by kernel_rfl) ?_
  intro o ho K hK
  simp only [List.getElem?_toArray, List.getElem?_cons_succ, List.getElem?_cons_zero, Option.some.injEq] at ho
  subst ho
  go_simp
  refine hK.out _ _ ?_
  clear hK K
  refine wpUpto.done (by kernel_rfl) ?_ _
  refine NoPanic.normal ?_
  try simp only [Act.put, List.setIfInBounds_toArray, List.set_cons_zero, List.set_cons_succ]
  have q3 : w1.cell? ⟨b, 3, none⟩ = some (.string (str (y.wr 0))) := H1.out.1.blk.cell 3
  have qf : w1.frozen? ⟨b, 3, none⟩ = false := H1.out.1.blk.frozen 3
  have hrd1 : Rd w1 (.slice A zs.length k) (bv zs) := HO.out.2.2.kept H1.out.1.below
  obtain ⟨A2, hsl, hr2⟩ := run_upto hrd1 hnl
  have hcv := run_str hr2.drew
  have hcat : str (y.wr 0) ++ str (zs.take np) = str (y.wr 0 ++ zs.take np) := str_app _ _
  have hsz : (str (y.wr 0)).size + (str (zs.take np)).size ≤ 9223372036854775807 := by
    rw [str_len, str_len, List.length_take]; have := (HO.out.2.1 0 (by omega)).1; omega
  clear hrd1 hr2 m0 m3 i0 i1 i2 i3 j0 j1 j2 hmin hmax
  have m3 : w1.cell? ⟨cb, 3, none⟩ = some (.slice A zs.length k) := H1.out.2.2.cell 3
  go_wp2_with fail
  go_region
  go_wp2_with fail
  go_ret
  obtain ⟨f1, f2⟩ := (H1.out.1.setWr (e := 0) (by omega) (y.wr 0 ++ zs.take np))
  have e1 : y.says 0 zs = { y.line 1 0 ⟨(y.x.f 1 0).en, (y.x.f 1 0).xs ++ zs.take np⟩ with wr := upn y.wr 0 (y.wr 0 ++ zs.take np) } := by rw [← HN.out]; rfl
  rw [e1]
  exact ⟨rfl, (f1.less (fun i hi => .inl hi)).drew, H.out.2.2.trans (fun i hi => (f2 i (.inl hi)).trans (H1.out.2.1 i (.inl hi)))⟩

set_option maxHeartbeats 4000000 in
set_option maxRecDepth 100000 in
theorem Do_says1 (h : WAt N w0 w b u c r y) (ho : Oth w0) (hs : y.Short) (n t : Int) {A : Option Addr} {k : Nat} {zs : List Nat} (hr : Rd w0 (.slice A zs.length k) (bv zs)) (hl : zs.length ≤ 100) :
    Calls Tryd.prog 15 #[.pointer (some ⟨b, 0, none⟩), .agg #[.int .i64 7, .int .i64 n, .int .i64 t, .slice A zs.length k]] w (Acted N w0 w b u c r (false, y.says 1 zs)) := by
  have hb := h.blk
  have hlt := hb.lt
  have HM := h.more (.cells #[.int .i64 7, .int .i64 n, .int .i64 t, .slice A zs.length k] 37)
  have hbx := Blk.new w 37 #[.int .i64 7, .int .i64 n, .int .i64 t, .slice A zs.length k]
  have hst : Stay N w (w.alloc (.cells #[.int .i64 7, .int .i64 n, .int .i64 t, .slice A zs.length k] 37)) := fun i hi => Below.heap_alloc w _ i (h.lt hi)
  obtain ⟨cb, hcb⟩ : ∃ cb, w.heap.size = cb := ⟨_, rfl⟩
  obtain ⟨W, hW⟩ : ∃ W, w.alloc (.cells #[.int .i64 7, .int .i64 n, .int .i64 t, .slice A zs.length k] 37) = W := ⟨_, rfl⟩
  rw [hcb, hW] at HM
  rw [hcb, hW] at hbx
  rw [hW] at hst
  have i0 : W.cell? ⟨cb, 0, none⟩ = some (.int .i64 7) := hbx.cell 0
  have i1 : W.cell? ⟨cb, 1, none⟩ = some (.int .i64 n) := hbx.cell 1
  have i2 : W.cell? ⟨cb, 2, none⟩ = some (.int .i64 t) := hbx.cell 2
  have i3 : W.cell? ⟨cb, 3, none⟩ = some (.slice A zs.length k) := hbx.cell 3
  have j0 : W.cell? ⟨b, 0, none⟩ = some (.pointer (some ⟨u, 0, none⟩)) := HM.blk.cell 0
  have j1 : W.cell? ⟨b, 1, none⟩ = some (.pointer (some ⟨c, 0, none⟩)) := HM.blk.cell 1
  have j2 : W.cell? ⟨b, 2, none⟩ = some (.pointer (some ⟨r, 0, none⟩)) := HM.blk.cell 2
  have H := Lib.hid (And.intro HM (And.intro hbx hst))
  have HO := Lib.hid (And.intro ho (And.intro hs hr))
  have HW := Lib.hid (And.intro hW hcb)
  clear h ho hs hr hb hlt HM hbx hst hW hcb
  go_enter Tryd.func15, Tryd.ntmps15
  go_upto_region 1 with (fail)
  rw [HW.out.1, HW.out.2]
  obtain ⟨np, hnp⟩ : ∃ np, putN y.x.rm (y.x.f 0 1).en (y.x.f 0 1).xs.length zs.length = np := ⟨_, rfl⟩
  have hnl : np ≤ zs.length := by rw [← hnp]; exact putN_le_m ..
  have hmin : min (np : Int) (zs.length : Int) = (np : Int) := by omega
  have hmax : max 0 (np : Int) = (np : Int) := by omega
  have hw := WWrite H.out.1.drew (k := 0) (s := 1) (p := c) (z := 1) (by omega) (by omega) rfl rfl (HO.out.2.2.kept H.out.1.drew.below) (by omega)
  rw [hnp] at hw
  have HP := Lib.hid hw
  have HN := Lib.hid hnp
  clear hw hnp
  go_wp2_with fail
  refine wp_region_noPanic ?_
  refine wp_region_upto (fun V => V.cell? ⟨b, 1, none⟩ = some (.pointer (some ⟨c, 0, none⟩)) ∧ V.cell? ⟨cb, 3, none⟩ = some (.slice A zs.length k)) 12 (by kernel_rfl) ?_ (fun hHeld => ?_)
  · exact ⟨j1, i3⟩
  refine wpUpto.take 0 (by kernel_rfl) (by kernel_rfl) (by kernel_rfl) (by kernel_rfl) (by assumption) ?_
  intro o ho
  simp only [List.getElem?_toArray, List.getElem?_cons_zero, Option.some.injEq] at ho
  subst ho
  refine ⟨?_, fun _ _ _ h => h, Or.inl ⟨by rfl, ?_⟩, ?_⟩
  rotate_left
  · intro w hSw
    go_simp
    try with_reducible rfl
  simp only [Act.put, List.setIfInBounds_toArray, List.set_cons_zero, List.set_cons_succ]
  refine wpUpto.take 1 (by kernel_rfl) (by kernel_rfl) (by kernel_rfl) (by kernel_rfl) (by assumption) ?_
  intro o ho
  simp only [List.getElem?_toArray, List.getElem?_cons_succ, List.getElem?_cons_zero, Option.some.injEq] at ho
  subst ho
  refine ⟨?_, fun _ _ _ h => h, Or.inl ⟨by rfl, ?_⟩, ?_⟩
  rotate_left
  · intro w hSw
    go_simp
    try with_reducible rfl
  simp only [Act.put, List.setIfInBounds_toArray, List.set_cons_zero, List.set_cons_succ]
  refine wpUpto.take 2 (by kernel_rfl) (by kernel_rfl) (by kernel_rfl) (by kernel_rfl) (by assumption) ?_
  intro o ho
  simp only [List.getElem?_toArray, List.getElem?_cons_succ, List.getElem?_cons_zero, Option.some.injEq] at ho
  subst ho
  refine ⟨?_, fun _ _ _ h => h, Or.inl ⟨by rfl, ?_⟩, ?_⟩
  rotate_left
  · intro w hSw
    go_simp
    try with_reducible rfl
  simp only [Act.put, List.setIfInBounds_toArray, List.set_cons_zero, List.set_cons_succ]
  refine wpUpto.take 3 (by kernel_rfl) (by kernel_rfl) (by kernel_rfl) (by kernel_rfl) (by assumption) ?_
  intro o ho
  simp only [List.getElem?_toArray, List.getElem?_cons_succ, List.getElem?_cons_zero, Option.some.injEq] at ho
  subst ho
  refine ⟨?_, fun _ _ _ h => h, Or.inl ⟨by rfl, ?_⟩, ?_⟩
  rotate_left
  · intro w hSw
    go_simp
    try with_reducible rfl
  simp only [Act.put, List.setIfInBounds_toArray, List.set_cons_zero, List.set_cons_succ]
  refine wpUpto.take 4 (by kernel_rfl) (by kernel_rfl) (by kernel_rfl) (by kernel_rfl) (by assumption) ?_
  intro o ho
  simp only [List.getElem?_toArray, List.getElem?_cons_succ, List.getElem?_cons_zero, Option.some.injEq] at ho
  subst ho
  refine ⟨?_, fun _ _ _ h => h, Or.inl ⟨by rfl, ?_⟩, ?_⟩
  rotate_left
  · intro w hSw
    go_simp
    try with_reducible rfl
  simp only [Act.put, List.setIfInBounds_toArray, List.set_cons_zero, List.set_cons_succ]
  refine wpUpto.take 5 (by kernel_rfl) (by kernel_rfl) (by kernel_rfl) (by kernel_rfl) (by assumption) ?_
  intro o ho
  simp only [List.getElem?_toArray, List.getElem?_cons_succ, List.getElem?_cons_zero, Option.some.injEq] at ho
  subst ho
  refine ⟨?_, fun _ _ _ h => h, Or.inl ⟨by rfl, ?_⟩, ?_⟩
  rotate_left
  · intro w hSw
    go_simp
    try with_reducible rfl
  simp only [Act.put, List.setIfInBounds_toArray, List.set_cons_zero, List.set_cons_succ]
  refine wpUpto.take 7 (by kernel_rfl) (by kernel_rfl) (by kernel_rfl) (by kernel_rfl) (by assumption) ?_
  intro o ho
  simp only [List.getElem?_toArray, List.getElem?_cons_succ, List.getElem?_cons_zero, Option.some.injEq] at ho
  subst ho
  refine ⟨?_, fun _ _ _ h => h, Or.inl ⟨by rfl, ?_⟩, ?_⟩
  rotate_left
  · intro w hSw
    go_simp
    try with_reducible rfl
  simp only [Act.put, List.setIfInBounds_toArray, List.set_cons_zero, List.set_cons_succ]
  refine wpUpto.take 8 (by kernel_rfl) (by kernel_rfl) (by kernel_rfl) (by kernel_rfl) (by assumption) ?_
  intro o ho
  simp only [List.getElem?_toArray, List.getElem?_cons_succ, List.getElem?_cons_zero, Option.some.injEq] at ho
  subst ho
  refine ⟨?_, fun _ _ _ h => h, Or.inl ⟨by rfl, ?_⟩, ?_⟩
  rotate_left
  · intro w hSw
    go_simp
    try with_reducible rfl
  simp only [Act.put, List.setIfInBounds_toArray, List.set_cons_zero, List.set_cons_succ]
  refine wpUpto.take 9 (by kernel_rfl) (by kernel_rfl) (by kernel_rfl) (by kernel_rfl) (by assumption) ?_
  intro o ho
  simp only [List.getElem?_toArray, List.getElem?_cons_succ, List.getElem?_cons_zero, Option.some.injEq] at ho
  subst ho
  refine ⟨?_, fun _ _ _ h => h, Or.inl ⟨by rfl, ?_⟩, ?_⟩
  rotate_left
  · intro w hSw
    go_simp
    try with_reducible rfl
  simp only [Act.put, List.setIfInBounds_toArray, List.set_cons_zero, List.set_cons_succ]
  refine wpUpto.one 6 (by kernel_rfl) ?_
  intro o ho K hK
  simp only [List.getElem?_toArray, List.getElem?_cons_succ, List.getElem?_cons_zero, Option.some.injEq] at ho
  subst ho
  go_simp
  go_at_call 30
  refine HP.out.mono ?_
  rintro e w1 ⟨rfl, h1, hs1⟩
  have m0 : w1.cell? ⟨b, 1, none⟩ = some (.pointer (some ⟨c, 0, none⟩)) := h1.blk.cell 1
  have hb1 := hs1.blk (.inr rfl) H.out.2.1
  have m3 : w1.cell? ⟨cb, 3, none⟩ = some (.slice A zs.length k) := hb1.cell 3
  have H1 := Lib.hid (And.intro h1 (And.intro hs1 hb1))
  clear h1 hs1 hb1
  refine hK.out _ _ ?_ (fun hHeld => ?_)
  · exact ⟨m0, m3⟩
  clear hK K
  try simp only [Act.put, List.setIfInBounds_toArray, List.set_cons_zero, List.set_cons_succ]
  refine wpUpto.one 10 (by kernel_rfl) ?_
  intro o ho K hK
  simp only [List.getElem?_toArray, List.getElem?_cons_succ, List.getElem?_cons_zero, Option.some.injEq] at ho
  subst ho
  go_simp
  refine hK.out _ _ ?_ (fun hHeld => ?_)
  · exact ⟨m0, m3⟩
  clear hK K
  try simp only [Act.put, List.setIfInBounds_toArray, List.set_cons_zero, List.set_cons_succ]
  refine wpUpto.one 11 (by kernel_rfl) ?_
  intro o ho K hK
  simp only [List.getElem?_toArray, List.getElem?_cons_succ, List.getElem?_cons_zero, Option.some.injEq] at ho
  subst ho
  go_simp
  refine hK.out _ _ ?_ (fun hHeld => ?_)
  · exact ⟨m0, m3⟩
  clear hK K
  try simp only [Act.put, List.setIfInBounds_toArray, List.set_cons_zero, List.set_cons_succ]
  refine wpUpto.last (by kernel_rfl) ?_
  intro o ho K hK
  simp only [List.getElem?_toArray, List.getElem?_cons_succ, List.getElem?_cons_zero, Option.some.injEq] at ho
  subst ho
  go_simp
  refine hK.out _ _ ?_
  clear hK K
  refine wpUpto.done (by kernel_rfl) ?_ _
  refine NoPanic.normal ?_
  try simp only [Act.put, List.setIfInBounds_toArray, List.set_cons_zero, List.set_cons_succ]
  have q3 : w1.cell? ⟨b, 4, none⟩ = some (.string (str (y.wr 1))) := H1.out.1.blk.cell 4
  have qf : w1.frozen? ⟨b, 4, none⟩ = false := H1.out.1.blk.frozen 4
  have hrd1 : Rd w1 (.slice A zs.length k) (bv zs) := HO.out.2.2.kept H1.out.1.below
  obtain ⟨A2, hsl, hr2⟩ := run_upto hrd1 hnl
  have hcv := run_str hr2.drew
  have hcat : str (y.wr 1) ++ str (zs.take np) = str (y.wr 1 ++ zs.take np) := str_app _ _
  have hsz : (str (y.wr 1)).size + (str (zs.take np)).size ≤ 9223372036854775807 := by
    rw [str_len, str_len, List.length_take]; have := (HO.out.2.1 1 (by omega)).1; omega
  clear hrd1 hr2 m0 m3 i0 i1 i2 i3 j0 j1 j2 hmin hmax
  have m3 : w1.cell? ⟨cb, 3, none⟩ = some (.slice A zs.length k) := H1.out.2.2.cell 3
  go_wp2_with fail
  go_region
  go_wp2_with fail
  go_ret
  obtain ⟨f1, f2⟩ := (H1.out.1.setWr (e := 1) (by omega) (y.wr 1 ++ zs.take np))
  have e1 : y.says 1 zs = { y.line 0 1 ⟨(y.x.f 0 1).en, (y.x.f 0 1).xs ++ zs.take np⟩ with wr := upn y.wr 1 (y.wr 1 ++ zs.take np) } := by rw [← HN.out]; rfl
  rw [e1]
  exact ⟨rfl, (f1.less (fun i hi => .inl hi)).drew, H.out.2.2.trans (fun i hi => (f2 i (.inl hi)).trans (H1.out.2.1 i (.inl hi)))⟩

set_option maxHeartbeats 4000000 in
set_option maxRecDepth 100000 in
theorem Do_hears0 (h : WAt N w0 w b u c r y) (ho : Oth w0) (hs : y.Short) (n t : Int) {A : Option Addr} {k : Nat} {zs : List Nat} (hr : Rd w0 (.slice A zs.length k) (bv zs)) (hm : y.x.rm ≤ 65536) (hle : (y.x.f 1 1).xs.length ≤ y.x.rm) :
    Calls Tryd.prog 15 #[.pointer (some ⟨b, 0, none⟩), .agg #[.int .i64 5, .int .i64 n, .int .i64 t, .slice A zs.length k]] w (Acted N w0 w b u c r (false, y.hears 0 n)) := by
  have hb := h.blk
  have hlt := hb.lt
  have HM := h.more (.cells #[.int .i64 5, .int .i64 n, .int .i64 t, .slice A zs.length k] 37)
  have hbx := Blk.new w 37 #[.int .i64 5, .int .i64 n, .int .i64 t, .slice A zs.length k]
  have hst : Stay N w (w.alloc (.cells #[.int .i64 5, .int .i64 n, .int .i64 t, .slice A zs.length k] 37)) := fun i hi => Below.heap_alloc w _ i (h.lt hi)
  obtain ⟨cb, hcb⟩ : ∃ cb, w.heap.size = cb := ⟨_, rfl⟩
  obtain ⟨W, hW⟩ : ∃ W, w.alloc (.cells #[.int .i64 5, .int .i64 n, .int .i64 t, .slice A zs.length k] 37) = W := ⟨_, rfl⟩
  rw [hcb, hW] at HM
  rw [hcb, hW] at hbx
  rw [hW] at hst
  have i0 : W.cell? ⟨cb, 0, none⟩ = some (.int .i64 5) := hbx.cell 0
  have i1 : W.cell? ⟨cb, 1, none⟩ = some (.int .i64 n) := hbx.cell 1
  have i2 : W.cell? ⟨cb, 2, none⟩ = some (.int .i64 t) := hbx.cell 2
  have i3 : W.cell? ⟨cb, 3, none⟩ = some (.slice A zs.length k) := hbx.cell 3
  have j0 : W.cell? ⟨b, 0, none⟩ = some (.pointer (some ⟨u, 0, none⟩)) := HM.blk.cell 0
  have j1 : W.cell? ⟨b, 1, none⟩ = some (.pointer (some ⟨c, 0, none⟩)) := HM.blk.cell 1
  have j2 : W.cell? ⟨b, 2, none⟩ = some (.pointer (some ⟨r, 0, none⟩)) := HM.blk.cell 2
  have H := Lib.hid (And.intro HM (And.intro hbx hst))
  have HO := Lib.hid (And.intro ho (And.intro hs hr))
  have HW := Lib.hid (And.intro hW hcb)
  clear h ho hs hr hb hlt HM hbx hst hW hcb
  go_enter Tryd.func15, Tryd.ntmps15
  go_upto_region 1 with (fail)
  rw [HW.out.1, HW.out.2]
  have hw := WRead H.out.1.drew HO.out.1 (k := 1) (s := 0) (p := u) (z := 0) (by omega) (by omega) rfl rfl n
  simp only [Nat.sub_zero] at hw
  obtain ⟨ys, hys⟩ : ∃ ys, (y.x.f 1 1).xs.take n.toNat = ys := ⟨_, rfl⟩
  rw [hys] at hw
  have hyl : ys.length ≤ 65536 := by rw [← hys, List.length_take]; omega
  have hcat : str (y.rd 0) ++ str ys = str (y.rd 0 ++ ys) := str_app _ _
  have hsz : (str (y.rd 0)).size + (str ys).size ≤ 9223372036854775807 := by
    rw [str_len, str_len]; have := (HO.out.2.1 0 (by omega)).2; omega
  have hszf : (9223372036854775807 < (str (y.rd 0)).size + (str ys).size) = False := by simp only [eq_iff_iff, iff_false]; omega
  have j5 : W.cell? ⟨b, 5, none⟩ = some (.string (str (y.rd 0))) := H.out.1.blk.cell 5
  have HP := Lib.hid hw
  have HN := Lib.hid hys
  clear hw hys hm hle
  go_wp2_with fail
  go_region_with ((go_at_call 32; refine HP.out.mono ?_; rintro e w1 ⟨A1, c1, gt, rfl, hr1, h1, hs1⟩; have m0 : w1.cell? ⟨b, 0, none⟩ = some (.pointer (some ⟨u, 0, none⟩)) := h1.blk.cell 0; have m5 : w1.cell? ⟨b, 5, none⟩ = some (.string (str (y.rd 0))) := h1.blk.cell 5; have qf : w1.frozen? ⟨b, 5, none⟩ = false := h1.blk.frozen 5; have hb1 := hs1.blk (.inr rfl) H.out.2.1; have m1 : w1.cell? ⟨cb, 1, none⟩ = some (.int .i64 n) := hb1.cell 1; have hcv := run_str hr1.rd; have H1 := Lib.hid (And.intro h1 hs1); clear h1 hs1 hb1 hr1))
  all_goals
    go_wp2_with fail
    go_ret
    obtain ⟨f1, f2⟩ := (H1.out.1.setRd (e := 0) (by omega) (y.rd 0 ++ ys))
    have e1 : y.hears 0 n = { y.line 1 1 ⟨(y.x.f 1 1).en, (y.x.f 1 1).xs.drop n.toNat⟩ with rd := upn y.rd 0 (y.rd 0 ++ ys) } := by rw [← HN.out]; rfl
    rw [e1]
    exact ⟨rfl, f1.less (fun i hi => .inl hi), H.out.2.2.trans (fun i hi => (f2 i (.inl hi)).trans (H1.out.2 i (.inl hi)))⟩

set_option maxHeartbeats 4000000 in
set_option maxRecDepth 100000 in
theorem Do_hears1 (h : WAt N w0 w b u c r y) (ho : Oth w0) (hs : y.Short) (n t : Int) {A : Option Addr} {k : Nat} {zs : List Nat} (hr : Rd w0 (.slice A zs.length k) (bv zs)) (hm : y.x.rm ≤ 65536) (hle : (y.x.f 0 0).xs.length ≤ y.x.rm) :
    Calls Tryd.prog 15 #[.pointer (some ⟨b, 0, none⟩), .agg #[.int .i64 8, .int .i64 n, .int .i64 t, .slice A zs.length k]] w (Acted N w0 w b u c r (false, y.hears 1 n)) := by
  have hb := h.blk
  have hlt := hb.lt
  have HM := h.more (.cells #[.int .i64 8, .int .i64 n, .int .i64 t, .slice A zs.length k] 37)
  have hbx := Blk.new w 37 #[.int .i64 8, .int .i64 n, .int .i64 t, .slice A zs.length k]
  have hst : Stay N w (w.alloc (.cells #[.int .i64 8, .int .i64 n, .int .i64 t, .slice A zs.length k] 37)) := fun i hi => Below.heap_alloc w _ i (h.lt hi)
  obtain ⟨cb, hcb⟩ : ∃ cb, w.heap.size = cb := ⟨_, rfl⟩
  obtain ⟨W, hW⟩ : ∃ W, w.alloc (.cells #[.int .i64 8, .int .i64 n, .int .i64 t, .slice A zs.length k] 37) = W := ⟨_, rfl⟩
  rw [hcb, hW] at HM
  rw [hcb, hW] at hbx
  rw [hW] at hst
  have i0 : W.cell? ⟨cb, 0, none⟩ = some (.int .i64 8) := hbx.cell 0
  have i1 : W.cell? ⟨cb, 1, none⟩ = some (.int .i64 n) := hbx.cell 1
  have i2 : W.cell? ⟨cb, 2, none⟩ = some (.int .i64 t) := hbx.cell 2
  have i3 : W.cell? ⟨cb, 3, none⟩ = some (.slice A zs.length k) := hbx.cell 3
  have j0 : W.cell? ⟨b, 0, none⟩ = some (.pointer (some ⟨u, 0, none⟩)) := HM.blk.cell 0
  have j1 : W.cell? ⟨b, 1, none⟩ = some (.pointer (some ⟨c, 0, none⟩)) := HM.blk.cell 1
  have j2 : W.cell? ⟨b, 2, none⟩ = some (.pointer (some ⟨r, 0, none⟩)) := HM.blk.cell 2
  have H := Lib.hid (And.intro HM (And.intro hbx hst))
  have HO := Lib.hid (And.intro ho (And.intro hs hr))
  have HW := Lib.hid (And.intro hW hcb)
  clear h ho hs hr hb hlt HM hbx hst hW hcb
  go_enter Tryd.func15, Tryd.ntmps15
  go_upto_region 1 with (fail)
  rw [HW.out.1, HW.out.2]
  have hw := WRead H.out.1.drew HO.out.1 (k := 0) (s := 1) (p := c) (z := 1) (by omega) (by omega) rfl rfl n
  simp only [Nat.sub_self] at hw
  obtain ⟨ys, hys⟩ : ∃ ys, (y.x.f 0 0).xs.take n.toNat = ys := ⟨_, rfl⟩
  rw [hys] at hw
  have hyl : ys.length ≤ 65536 := by rw [← hys, List.length_take]; omega
  have hcat : str (y.rd 1) ++ str ys = str (y.rd 1 ++ ys) := str_app _ _
  have hsz : (str (y.rd 1)).size + (str ys).size ≤ 9223372036854775807 := by
    rw [str_len, str_len]; have := (HO.out.2.1 1 (by omega)).2; omega
  have hszf : (9223372036854775807 < (str (y.rd 1)).size + (str ys).size) = False := by simp only [eq_iff_iff, iff_false]; omega
  have j5 : W.cell? ⟨b, 6, none⟩ = some (.string (str (y.rd 1))) := H.out.1.blk.cell 6
  have HP := Lib.hid hw
  have HN := Lib.hid hys
  clear hw hys hm hle
  go_wp2_with fail
  go_region_with ((go_at_call 32; refine HP.out.mono ?_; rintro e w1 ⟨A1, c1, gt, rfl, hr1, h1, hs1⟩; have m0 : w1.cell? ⟨b, 1, none⟩ = some (.pointer (some ⟨c, 0, none⟩)) := h1.blk.cell 1; have m5 : w1.cell? ⟨b, 6, none⟩ = some (.string (str (y.rd 1))) := h1.blk.cell 6; have qf : w1.frozen? ⟨b, 6, none⟩ = false := h1.blk.frozen 6; have hb1 := hs1.blk (.inr rfl) H.out.2.1; have m1 : w1.cell? ⟨cb, 1, none⟩ = some (.int .i64 n) := hb1.cell 1; have hcv := run_str hr1.rd; have H1 := Lib.hid (And.intro h1 hs1); clear h1 hs1 hb1 hr1))
  all_goals
    go_wp2_with fail
    go_ret
    obtain ⟨f1, f2⟩ := (H1.out.1.setRd (e := 1) (by omega) (y.rd 1 ++ ys))
    have e1 : y.hears 1 n = { y.line 0 0 ⟨(y.x.f 0 0).en, (y.x.f 0 0).xs.drop n.toNat⟩ with rd := upn y.rd 1 (y.rd 1 ++ ys) } := by rw [← HN.out]; rfl
    rw [e1]
    exact ⟨rfl, f1.less (fun i hi => .inl hi), H.out.2.2.trans (fun i hi => (f2 i (.inl hi)).trans (H1.out.2 i (.inl hi)))⟩

/-- What happens by a pick, whatever it is. -/
theorem Do_at (h : WAt N w0 w b u c r y) (ho : Oth w0) (hx : y.x.Ok) (hs : y.Short) (kind n t : Int) {A : Option Addr} {k : Nat} {zs : List Nat} (hr : Rd w0 (.slice A zs.length k) (bv zs)) (hl : zs.length ≤ 100) :
    Calls Tryd.prog 15 #[.pointer (some ⟨b, 0, none⟩), .agg #[.int .i64 kind, .int .i64 n, .int .i64 t, .slice A zs.length k]] w (Acted N w0 w b u c r (y.act kind n t zs)) := by
  unfold Wld.act
  by_cases k4 : kind = 4
  · subst k4; rw [if_pos rfl]; exact Do_says0 h ho hs n t hr hl
  · rw [if_neg k4]
    by_cases k5 : kind = 5
    · subst k5; rw [if_pos rfl]; exact Do_hears0 h ho hs n t hr hx.rm (hx.le 1 (by omega) 1 (by omega))
    · rw [if_neg k5]
      by_cases k6 : kind = 6
      · subst k6; rw [if_pos rfl]; exact Do_hang0 h ho hs n t hr
      · rw [if_neg k6]
        by_cases k7 : kind = 7
        · subst k7; rw [if_pos rfl]; exact Do_says1 h ho hs n t hr hl
        · rw [if_neg k7]
          by_cases k8 : kind = 8
          · subst k8; rw [if_pos rfl]; exact Do_hears1 h ho hs n t hr hx.rm (hx.le 0 (by omega) 0 (by omega))
          · rw [if_neg k8]
            by_cases k9 : kind = 9
            · subst k9; rw [if_pos rfl]; exact Do_hang1 h ho hs n t hr
            · rw [if_neg k9]; exact Do_step h ho hx hs k4 k5 k6 k7 k8 k9 n t hr
end
end Go.Proofs.YtfmmomdfmmoklaaDoor
