/-
  tcl's printer: a strings.Builder embedded in a struct; what its methods do.
  Conditions: at most 140737488355327 bytes.
-/
import Derived.Test.YtphmhglebeapaaaQCon
import Derived.Test.YtphmhglebeapaaaTwHN
import Derived.Test.YtphmhglebeapaaaTRPrint
namespace Go.Proofs.Ytphmhglebeapaaa
open Go.RowKit

/-- A builder in block b, its bytes l, in row g; all of it since world w0. -/
def Prn (w0 w : World) (b : Nat) (g : Option Nat) (l : List Nat) : Prop :=
  ∃ p A c, Blk w b 66 #[p, .slice A l.length c, .bool false] ∧ (p = .pointer none ∨ p = .pointer (some ⟨b, 0, none⟩)) ∧ w0.heap.size ≤ b ∧ RowAt w0 w A c g l
/-- One that was written to. -/
def PrnU (w0 w : World) (b : Nat) (g : Option Nat) (l : List Nat) (A : Option Addr) (c : Nat) : Prop :=
  Blk w b 66 #[.pointer (some ⟨b, 0, none⟩), .slice A l.length c, .bool false] ∧ w0.heap.size ≤ b ∧ RowAt w0 w A c g l
section
variable {w0 w w' : World} {b : Nat} {g : Option Nat} {l : List Nat} {A : Option Addr} {c : Nat}
theorem Prn.bel (h : Prn w0 w b g l) : Below w0.heap.size w0 w := by obtain ⟨_, _, _, _, _, _, h⟩ := h; exact h.2.2
theorem Prn.below (h : Prn w0 w b g l) (hb : Below w.heap.size w w') : Prn w0 w' b g l := by
  obtain ⟨p, A, c, h1, h2, h3, h4⟩ := h
  exact ⟨p, A, c, h1.below hb h1.lt, h2, h3, h4.below hb⟩
theorem PrnU.prn (h : PrnU w0 w b g l A c) : Prn w0 w b g l := ⟨_, A, c, h.1, .inr rfl, h.2.1, h.2.2⟩
theorem PrnU.ne (h : PrnU w0 w b g l A c) : g ≠ some b := h.2.2.1.ne_ h.1 (by decide)
/-- A new one. -/
theorem Prn.new (w : World) : Prn w (w.alloc (.cells #[.pointer none, .slice none 0 0, .bool false] 66)) w.heap.size none [] :=
  ⟨_, none, 0, Blk.new w _ _, .inl rfl, Nat.le_refl _, (Row.nil _ _), by simp, (Below.refl _ w).alloc (Nat.le_refl _) _⟩
end

theorem prn_lies : liesAt Try.prog Try.prog.depth 66 (3 / Try.prog.cellsOf 66) 0 64 1 = true := by kernel_rfl

set_option maxRecDepth 100000 in
set_option maxHeartbeats 1000000 in
theorem pcopyCheck_is {w0 w : World} {b : Nat} {g : Option Nat} {l : List Nat} (h : Prn w0 w b g l) :
    Calls Try.prog 74 #[.pointer (some ⟨b, 0, none⟩)] w fun e w' => e = .returned (.tuple #[]) ∧ ∃ A c, PrnU w0 w' b g l A c ∧ BldOnly w w' b g := by
  obtain ⟨p, A, c, h1, h2, h3, h4⟩ := h
  obtain ⟨j, hj, hjs⟩ := Option.map_eq_some_iff.1 bld_size
  have hsh : w.shape? b = some (66, 3) := by
    have h1' := h1
    unfold Blk at h1'
    simp [World.shape?, h1']
  have c0 : w.cell? ⟨b, 0, none⟩ = some p := by rw [h1.cell]; rfl
  have f0 : w.frozen? ⟨b, 0, none⟩ = false := h1.frozen 0
  have HB := Lib.hid (And.intro h1 (And.intro h3 h4))
  clear h1 h3 h4
  rcases h2 with rfl | rfl
  · go_enter Try.func74, Try.ntmps74
    go_wp2
    rw [Lib.run_to_unsafe w ⟨b, 0, none⟩ Try.underlying62 Try.underlying118 hj (by rw [hjs]; decide) hsh (Nat.zero_lt_succ 2)]
    simp only [Result.andThen]
    rw [Oper.upon_value]
    go_wp2
    rw [run_callFunc_extern Try.func80 (by kernel_rfl) (by kernel_rfl) (by kernel_rfl) (e := Extern.AbiNoEscape.same) (by kernel_rfl)]
    rw [Lib.run_noEscape]
    simp only [Result.andThen]
    rw [Oper.upon_value]
    go_wp2
    rw [Lib.run_from_unsafe w ⟨b, 0, none⟩ Try.underlying118 Try.underlying62 hj hsh prn_lies]
    simp only [Result.andThen]
    rw [Oper.upon_value]
    go_wp2
    go_end0
    obtain ⟨h1, h3, h4⟩ := HB.out
    have hO : Only (fun i => i = b ∨ g = some i) w (w.setCell ⟨b, 0, none⟩ (.pointer (some ⟨b, 0, none⟩))) := (Only.refl _ w).setCell (.inl (.inl rfl)) _
    have hne : g ≠ some b := h4.1.ne_ h1 (by decide)
    exact ⟨rfl, A, c, ⟨h1.set_ 0 _, h3, h4.1.far hne _, h4.2.1, h4.2.2.setCell h3 _⟩, hO⟩
  · go_enter Try.func74, Try.ntmps74
    go_wp2
    rw [Lib.run_neq_ptr_same w _ Try.underlying62 hj]
    go_wp2
    go_end0
    obtain ⟨h1, h3, h4⟩ := HB.out
    exact ⟨rfl, A, c, ⟨h1, h3, h4⟩, Only.refl _ _⟩

/-- What a write leaves: the builder with more bytes; nothing else that lay has turned. -/
def WroteP (w0 w : World) (b : Nat) (g : Option Nat) (l : List Nat) (w' : World) : Prop :=
  ∃ g', Prn w0 w' b g' l ∧ BldOnly w w' b g ∧ (g' = g ∨ ∀ k, g' = some k → w.heap.size ≤ k)

theorem PrnU.kept {w0 w1 W1 W' : World} {b : Nat} {g : Option Nat} {l : List Nat} {A : Option Addr} {c : Nat} (h : PrnU w0 w1 b g l A c) (hb : Below w1.heap.size w1 W1) (hg : W1.grownBy W' g) :
    W'.cell? ⟨b, 1, none⟩ = some (.slice A l.length c) ∧ W'.frozen? ⟨b, 1, none⟩ = false := by
  have hlt := h.1.lt
  have h1 : Blk W' b 66 #[.pointer (some ⟨b, 0, none⟩), .slice A l.length c, .bool false] := (h.1.below hb hlt).keep (hg.block b (by have := hb.size; omega) (fun e => h.ne e.symm))
  exact ⟨by rw [h1.cell]; rfl, h1.frozen 1⟩
/-- The store of what append made. -/
theorem PrnU.put {w0 w w1 W1 W' : World} {b : Nat} {g g' : Option Nat} {l X : List Nat} {A A' : Option Addr} {c c' : Nat} (h : PrnU w0 w1 b g l A c) (hO : BldOnly w w1 b g) (hb : Below w1.heap.size w1 W1) (hr : RowAt w0 W' A' c' g' X) (hg : W1.grownBy W' g) (hg' : g' = g ∨ g' = some W1.heap.size) :
    WroteP w0 w b g X (W'.setCell ⟨b, 1, none⟩ (.slice A' X.length c')) := by
  have hlt := h.1.lt
  have h1 : Blk W' b 66 #[.pointer (some ⟨b, 0, none⟩), .slice A l.length c, .bool false] := (h.1.below hb hlt).keep (hg.block b (by have := hb.size; omega) (fun e => h.ne e.symm))
  refine ⟨g', ⟨_, A', c', h1.set_ 1 _, .inr rfl, h.2.1, hr.1.far (hr.1.ne_ h1 (by decide)) _, hr.2.1, hr.2.2.setCell h.2.1 _⟩, ?_, ?_⟩
  · exact ((hO.trans (Only.of_below hb (Nat.le_refl _) (fun i => i = b ∨ g = some i)) (fun i _ h => h)).grown hg (fun k e => .inl (.inr e))).setCell (.inl (.inl rfl)) _
  · rcases hg' with h | h
    · exact .inl h
    · right; intro k e; rw [h] at e; cases e; have := hO.size; have := hb.size; omega

set_option maxRecDepth 100000 in
set_option maxHeartbeats 2000000 in
theorem pWriteString_is {w0 w : World} {b : Nat} {g : Option Nat} {l : List Nat} (h : Prn w0 w b g l) (m : List Nat) (hm : ∀ d ∈ m, d < 256) (hl : l.length + m.length ≤ 140737488355327) :
    Calls Try.prog 59 #[.pointer (some ⟨b, 0, none⟩), .string (str m)] w fun e w' => e = .returned (.tuple #[.int .i64 (m.length : Nat), .nilIface]) ∧ WroteP w0 w b g (l ++ m) w' := by
  have HC := Lib.hid (pcopyCheck_is h)
  have HM := Lib.hid hm
  have hsz := str_len m
  clear h hm
  go_enter Try.func59, Try.ntmps59
  go_wp2_with fail
  refine HC.out.mono ?_
  rintro e w1 ⟨rfl, A, c, hU, hO⟩
  have HU := Lib.hid hU
  have HO := Lib.hid hO
  have c1 : w1.cell? ⟨b, 1, none⟩ = some (.slice A l.length c) := by rw [hU.1.cell]; rfl
  clear hU hO HC
  go_wp2_with (at_builtin; refine RowAt.wpX HU.out.2.2 (Below.refl _ w1) rfl _ _ 9 rfl rfl _ rfl m (src_str HM.out w1) hl ?_; intro A2 c2 W2 g2 X2 HX2 HR2 HG2 HE2; have d1 := (HU.out.kept (Below.refl _ w1) HG2.out).1; have f1 := (HU.out.kept (Below.refl _ w1) HG2.out).2)
  go_ret2
  refine ⟨rfl, ?_⟩
  rw [← HX2.out]
  exact PrnU.put HU.out HO.out (Below.refl _ w1) HR2.out HG2.out HE2.out

set_option maxRecDepth 100000 in
set_option maxHeartbeats 2000000 in
theorem pString_is {w0 w : World} {b : Nat} {g : Option Nat} {l : List Nat} (h : Prn w0 w b g l) (hl : ∀ c ∈ l, c < 256) (h0 : l ≠ []) (hn : l.length ≤ 140737488355327) :
    Calls Try.prog 30 #[.pointer (some ⟨b, 0, none⟩)] w fun e w' => e = .returned (.string (str l)) ∧ Below w0.heap.size w0 w' := by
  obtain ⟨p, A, c, h1, h2, h3, h4⟩ := h
  have hbel := h4.2.2
  obtain ⟨⟨A', c', e', hle, hcm, _, hg⟩, h5, h6⟩ := h4
  injection e' with e1 e2 e3
  subst e1 e3
  have hlen : 0 < l.length := List.length_pos_iff.2 h0
  rw [bv_len] at hle
  rcases hg with ⟨hz, _⟩ | ⟨q, o, cs, _, rfl, rfl, hq, hfit, hx⟩
  · omega
  have h5q := h5 q rfl
  have c1 : w.drew.cell? ⟨b, 1, none⟩ = some (.slice (some ⟨q, o, none⟩) l.length c) := by
    show w.cell? _ = _
    rw [h1.cell]; rfl
  have hSD : (Builtin.unsafeSliceData_ #[41] 83 #[.slice (some ⟨q, o, none⟩) l.length c]).run Try.prog w.drew = .ok (.pointer (some ⟨q, o, none⟩)) w.drew :=
    Lib.run_unsafeSliceData_row _ _ _ _ _ _ (by omega)
  have hUS : (Builtin.unsafeString_ #[83, 3] 9 #[.pointer (some ⟨q, o, none⟩), .int .i64 (l.length : Nat)]).run Try.prog w.drew = .ok (.string (str l)) (w.drew.freeze ⟨q, o, none⟩ l.length) := by
    have hq' : w.drew.heap[q]? = some (.cells cs 5 (0, 0)) := hq
    have := run_uString (P := Try.prog) w.drew 83 3 9 5 Try.underlying83 byte_cells q o cs.size (by simp [World.shape?, hq']) (l.map fun c => UInt8.ofNat c) (by simpa using h0) (by rw [List.length_map]; omega) (by rw [List.length_map]; omega) (fun j x hj => by
      rw [List.getElem?_map] at hj
      obtain ⟨d, hd, rfl⟩ := Option.map_eq_some_iff.1 hj
      rw [add_eq, cell_of_row w.drew q (o + j) cs _ (0, 0) hq', hx j (.int .u8 (d : Nat)) (by rw [bv_at, hd]; rfl)]
      have := hl d (List.mem_of_getElem? hd)
      simp; omega)
    rw [List.length_map, str_toList] at this
    exact this
  have HF : Hid (Below w0.heap.size w0 (w.drew.freeze ⟨q, o, none⟩ l.length)) := Lib.hid (Lib.below_freeze hbel.drew (p := ⟨q, o, none⟩) h5q _)
  clear e2 h1 h2 hq hx hfit h5 h6 hbel hl h0 hlen hle hcm
  go_enter Try.func30, Try.ntmps30
  go_wp2
  go_region
  all_goals
    go_wp2
    go_ret
    exact ⟨rfl, HF.out⟩


set_option maxRecDepth 100000 in
set_option maxHeartbeats 2000000 in
theorem pStringNil_is {w : World} {b : Nat} (h : Blk w b 66 #[.pointer none, .slice none 0 0, .bool false]) :
    Calls Try.prog 30 #[.pointer (some ⟨b, 0, none⟩)] w fun e w' => e = .returned (.string (str [])) ∧ Below w.heap.size w w' := by
  have c1 : w.drew.cell? ⟨b, 1, none⟩ = some (.slice none 0 0) := by
    show w.cell? _ = _
    rw [h.cell]; rfl
  have hUS := fun W => Lib.run_unsafeString_none (P := Try.prog) (w := W) 83 3 9 none
  have hSD := fun W => Lib.run_unsafeSliceData_nil (P := Try.prog) (w := W) #[41] 83 0 0
  clear h
  go_enter Try.func30, Try.ntmps30
  go_wp2
  go_region
  all_goals
    go_wp2
    go_ret
    exact ⟨rfl, drewN_below w 1⟩
set_option maxRecDepth 100000 in
set_option maxHeartbeats 2000000 in
theorem pLen_is {w0 w : World} {b : Nat} {g : Option Nat} {l : List Nat} (h : Prn w0 w b g l) :
    Calls Try.prog 58 #[.pointer (some ⟨b, 0, none⟩)] w fun e w' => e = .returned (.int .i64 (l.length : Nat)) ∧ w = w' := by
  obtain ⟨p, A, c, h1, h2, h3, h4⟩ := h
  have c1 : w.cell? ⟨b, 1, none⟩ = some (.slice A l.length c) := by rw [h1.cell]; rfl
  clear h1 h2 h3 h4
  go_enter Try.func58, Try.ntmps58
  go_wp2
  go_ret
  exact ⟨rfl, rfl⟩
theorem WroteP.trans {w0 w w1 w2 : World} {b : Nat} {g : Option Nat} {l m : List Nat} (h : WroteP w0 w b g l w1) (k : ∀ g', Prn w0 w1 b g' l → WroteP w0 w1 b g' m w2) : WroteP w0 w b g m w2 := by
  obtain ⟨g1, h1, h2, h3⟩ := h
  obtain ⟨g2, k1, k2, k3⟩ := k g1 h1
  refine ⟨g2, k1, h2.trans k2 fun i hi e => ?_, ?_⟩
  · rcases e with e | e
    · exact .inl e
    · rcases h3 with h3 | h3
      · exact .inr (h3 ▸ e)
      · have := h3 i e; omega
  · rcases k3 with k3 | k3
    · rw [k3]; exact h3
    · refine .inr fun k e => ?_
      have := k3 k e
      have := h2.size
      omega
theorem WroteP.refl {w0 w : World} {b : Nat} {g : Option Nat} {l : List Nat} (h : Prn w0 w b g l) : WroteP w0 w b g l w := ⟨g, h, Only.refl _ _, .inl rfl⟩
theorem WroteP.below {w0 w w1 w2 : World} {b : Nat} {g : Option Nat} {l : List Nat} (h : WroteP w0 w b g l w1) (hb : Below w1.heap.size w1 w2) : WroteP w0 w b g l w2 := by
  obtain ⟨g1, h1, h2, h3⟩ := h
  exact ⟨g1, h1.below hb, h2.trans (Only.of_below hb (Nat.le_refl _) (fun i => i = b ∨ g = some i)) fun _ _ h => h, h3⟩
set_option maxRecDepth 100000 in
set_option maxHeartbeats 2000000 in
theorem put_is {w0 w : World} {b : Nat} {g : Option Nat} {l : List Nat} (h : Prn w0 w b g l) (m : List Nat) (hm : ∀ d ∈ m, d < 256) (hl : l.length + m.length ≤ 16777216) :
    Calls Try.prog 44 #[.pointer (some ⟨b, 0, none⟩), .string (str m)] w fun e w' => e = .returned (.tuple #[]) ∧ WroteP w0 w b g (l ++ m) w' := by
  have HL := Lib.hid (pLen_is h)
  have HW := Lib.hid (pWriteString_is h m hm (by omega))
  have hsz := str_len m
  have q1 : decide ((16777216 : Int) - (l.length : Int) < (m.length : Int)) = false := decide_eq_false (by omega)
  have hb1 : b < w.heap.size := by obtain ⟨_, _, _, h1, _⟩ := h; exact h1.lt
  generalize str m = s at *
  generalize l.length = n at *
  generalize m.length = k at *
  clear h hm hb1
  go_enter Try.func44, Try.ntmps44
  go_wp2_with fail
  refine HL.out.mono ?_
  rintro e w1 ⟨rfl, rfl⟩
  go_wp2_with fail
  refine HW.out.mono ?_
  rintro e w1 ⟨rfl, hw⟩
  have HWR := Lib.hid hw
  clear hw
  go_wp2_with fail
  go_end0
  exact ⟨rfl, HWR.out⟩
end Go.Proofs.Ytphmhglebeapaaa
