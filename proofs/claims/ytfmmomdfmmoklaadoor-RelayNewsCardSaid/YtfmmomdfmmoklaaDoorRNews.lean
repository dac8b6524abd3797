/-
  cuecardlaw07.RelayNews answers true for every three numbers.
  Conditions: the package's table holds what its initialiser lays (Oth).
-/
import Derived.Test.YtfmmomdfmmoklaaDoorWAlive
namespace Go.Proofs.YtfmmomdfmmoklaaDoor
open Go.RowKit

set_option maxHeartbeats 2000000 in
set_option maxRecDepth 100000 in
theorem news_true (kind n t : Int) (w : World) (ho : Oth w) : Calls Tryd.prog 4 #[.int .i64 kind, .int .i64 n, .int .i64 t] w fun e w' => e = .returned (.bool true) ∧ Below w.heap.size w w' := by
  have HO := Lib.hid ho
  clear ho
  go_enter Tryd.func4, Tryd.ntmps4
  go_wp2_with fail
  refine (Tell_nil w).mono ?_
  rintro e w1 ⟨rfl, hb1⟩
  have B1 := Lib.hid hb1
  clear hb1
  go_upto_region 3 with (fail)
  obtain ⟨cb, hcb⟩ : ∃ cb, w1.heap.size = cb := ⟨_, rfl⟩
  generalize hW2 : w1.alloc (.cells #[.slice none 0 0, .bool false] 56) = w2
  have hbx : Blk w2 cb 56 #[.slice none 0 0, .bool false] := by rw [← hW2, ← hcb]; exact Blk.new w1 _ _
  have B2 : Hid (Below w.heap.size w w2) := by rw [← hW2]; exact B1.out.alloc B1.out.size _
  have i0 : w2.cell? ⟨cb, 0, none⟩ = some (.slice none 0 0) := hbx.cell 0
  have i1 : w2.cell? ⟨cb, 1, none⟩ = some (.bool false) := hbx.cell 1
  rw [hcb]
  clear hbx hW2 hcb B1
  go_wp2_with (first
    | (go_at_call 24; refine (Step_nil _ _ _ _).mono ?_; rintro e w' ⟨rfl, rfl⟩)
    | (go_at_call 17; refine (Waits_nil _ _).mono ?_; rintro e w' ⟨rfl, rfl⟩)
    | (go_at_call 18; refine (Done_nil _).mono ?_; rintro e w' ⟨rfl, rfl⟩))
  refine (PNew_yes 5 w2 (by omega) (by omega)).mono ?_
  rintro e w3 ⟨rfl, hp3, hb3⟩
  obtain ⟨p, hp⟩ : ∃ p, w2.heap.size = p := ⟨_, rfl⟩
  rw [hp] at hp3 ⊢
  have hp0 := hp3.lt
  have B3 : Hid (Below w.heap.size w w3) := B2.out.trans (hb3.mono B2.out.size)
  have hpl : p < w3.heap.size := by obtain ⟨q, g, hB, -, -⟩ := hp3.ex; exact hB.blk.lt
  have P3 := Lib.hid hp3
  clear hp3 hb3 hp hp0 i0 i1 B2
  go_wp2_with fail
  refine (PNew_yes 5 w3 (by omega) (by omega)).mono ?_
  rintro e w4 ⟨rfl, hp4, hb4⟩
  obtain ⟨q, hq⟩ : ∃ q, w3.heap.size = q := ⟨_, rfl⟩
  rw [hq] at hp4 ⊢
  have B4 : Hid (Below w.heap.size w w4) := B3.out.trans (hb4.mono B3.out.size)
  have hpq : p ≠ q := by omega
  obtain ⟨_, _, hB1, -, -⟩ := (P3.out.keep hb4).ex
  obtain ⟨_, _, hB2, -, -⟩ := hp4.ex
  have HN := Lib.hid (RNew_at p q 5 w4 hpq hB1.blk hB2.blk)
  have HQ := Lib.hid hpq
  clear hp4 hb4 hq hB1 hB2 hpq hpl P3 B3
  go_wp2_with (first
    | (go_at_call 26; ((with_reducible refine (RNew_nil1 _ _).mono ?_); rintro e w' ⟨rfl, rfl⟩))
    | (go_at_call 26; ((with_reducible refine (RNew_nil2 _ _).mono ?_); rintro e w' ⟨rfl, rfl⟩))
    | (go_at_call 26; ((with_reducible refine (RNew_same _ _).mono ?_); rintro e w' ⟨rfl, rfl⟩)))
  refine HN.out.mono ?_
  rintro e w5 ⟨r, rfl, hR, hb5⟩
  have B5 : Hid (Below w.heap.size w w5) := B4.out.trans (hb5.mono B4.out.size)
  have R5 := Lib.hid hR
  clear hR hb5 B4 HN
  go_wp2_with fail
  refine (alive_true w5 (HO.out.below B5.out)).mono ?_
  rintro e w6 ⟨rfl, hb6⟩
  have B6 : Hid (Below w.heap.size w w6) := B5.out.trans (hb6.mono B5.out.size)
  have R6 : Hid (Rly (two q p) r (Sys.start 5) (fun b => w4.heap.size ≤ b ∧ b < w5.heap.size) w6) := (Rly.framed ..).only R5.out (Only.of_below hb6 (Nat.le_refl _) (fun _ => False)) (fun _ _ e => e)
  clear hb6 B5 R5
  go_wp2_with fail
  refine (Done_at R6.out).mono ?_
  rintro e w7 ⟨rfl, rfl⟩
  rw [show (Sys.start 5).done = false from rfl]
  go_wp2_with fail
  go_ret
  exact ⟨rfl, B6.out⟩
end Go.Proofs.YtfmmomdfmmoklaaDoor
