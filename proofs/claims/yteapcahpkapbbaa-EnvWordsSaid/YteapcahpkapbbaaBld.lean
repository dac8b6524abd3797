/-
  A strings.Builder of the call's own (Bld), and its methods: copyCheck, WriteByte, WriteString, String.
  Conditions: all bytes are at most 140737488355327.
-/
import Derived.Test.YteapcahpkapbbaaRowAt
import Derived.Test.YteapcahpkapbbaaStrCat
import Derived.Test.YteapcahpkapbbaaRet
import Derived.Lib.Builder
import Derived.Lib.UnsafeStr
import Derived.Laws.Externs
namespace Go.Proofs.Yteapcahpkapbbaa
open Go.RowKit

theorem bc_str {l : List Nat} (hl : ∀ c ∈ l, c < 256) : byteCells (str l) = bv l := by
  unfold byteCells str bv
  rw [strOfNums_data, List.map_map, List.map_map]
  refine List.map_congr_left fun c hc => ?_
  have := hl c hc
  simp; omega

/-- An append in the walk, of whatever is a source of bytes; what has turned is told. -/
theorem RowAt.wpX {w0 W W1 : World} {A : Option Addr} {c : Nat} {g : Option Nat} {X : List Nat} (h : RowAt w0 W A c g X) (hb : Below W.heap.size W W1) {ops : Array Oper} {rest : List Oper} {o : Oper} {a : Act} {Q : Exit → Act → World → Prop} (hgd : o.guard = none) (s x : Operand) (tx : TypeId)
    (ho : o.op = .call { callee := .builtin .append, args := #[s, x], argTypes := #[59, tx] }) (hs : a.eval s = .slice A X.length c) (xv : Value) (hx : a.eval x = xv) (m : List Nat) (hsrc : Src Try.prog 1 tx xv m.length (bv m) W1)
    (hX : X.length + m.length ≤ 140737488355327)
    (k : ∀ A' c' W' g' X', Hid (X' = X ++ m) → Hid (RowAt w0 W' A' c' g' X') → Hid (W1.grownBy W' g) → Hid (g' = g ∨ g' = some W1.heap.size) → wpList Try.prog ops Q rest (a.put o.dst (.slice A' X'.length c')) W') : wpList Try.prog ops Q (o :: rest) a W1 := by
  obtain ⟨i0, hi0, hz0, hz1, hz2⟩ := info_parts byte_info
  have h1 := h.1.below hb fun _ e => h.1.lt e
  have e1 : (bv X).length = X.length := bv_len X
  refine wpList_plain hgd fun K hK => ?_
  obtain ⟨v', W', g', hrun, hrow, hgr, hg'⟩ := run_append_row (P := Try.prog) W1 59 tx o.type 5 i0 _ 1 Try.underlying59 hi0 hz0 hz1 hz2 rfl h1 _ _ _ hsrc (by simp only [maxLen]; omega) (by omega)
  obtain ⟨A', c', rfl⟩ := hrow.form
  rw [List.length_append, e1, bv_len] at hrow hrun
  unfold Oper.wp execOp
  simp only [ho, resolve, invoke, builtin, Sem.run_bind, Sem.run_pure, Result.andThen_ok, List.map_toArray, List.map_cons, List.map_nil, hs, hx, hrun]
  have := k A' c' W' g' (X ++ m) (Lib.hid rfl) (Lib.hid (h.more hb hrow hgr hg')) (Lib.hid hgr) (Lib.hid hg')
  rw [List.length_append] at this
  exact hK _ _ this
theorem src_str {m : List Nat} (hm : ∀ d ∈ m, d < 256) (W : World) : Src Try.prog 1 9 (.string (str m)) m.length (bv m) W := by
  have := Src.ofString (P := Try.prog) (w := W) Try.underlying9 (str m)
  rw [bc_str hm, str_len m] at this
  exact this
theorem src_one {W : World} (x : Nat) (q : Nat) (h : q = W.heap.size) : Src Try.prog 1 59 (.slice (some ⟨q, 0, none⟩) 1 1) [x].length (bv [x]) (W.alloc (.cells #[.int .u8 (x : Nat)] 5)) :=
  (Rd.ofBlk (al_at h) [x] rfl).src Try.underlying59

/-- A builder in block b, its bytes l, in row g; all of it since world w0. -/
def Bld (w0 w : World) (b : Nat) (g : Option Nat) (l : List Nat) : Prop :=
  ∃ p A c, Blk w b 72 #[p, .slice A l.length c] ∧ (p = .pointer none ∨ p = .pointer (some ⟨b, 0, none⟩)) ∧ w0.heap.size ≤ b ∧ RowAt w0 w A c g l
/-- One that was written to. -/
def BldU (w0 w : World) (b : Nat) (g : Option Nat) (l : List Nat) (A : Option Addr) (c : Nat) : Prop :=
  Blk w b 72 #[.pointer (some ⟨b, 0, none⟩), .slice A l.length c] ∧ w0.heap.size ≤ b ∧ RowAt w0 w A c g l
section
variable {w0 w w' : World} {b : Nat} {g : Option Nat} {l : List Nat} {A : Option Addr} {c : Nat}
theorem Bld.bel (h : Bld w0 w b g l) : Below w0.heap.size w0 w := by obtain ⟨_, _, _, _, _, _, h⟩ := h; exact h.2.2
theorem Bld.below (h : Bld w0 w b g l) (hb : Below w.heap.size w w') : Bld w0 w' b g l := by
  obtain ⟨p, A, c, h1, h2, h3, h4⟩ := h
  exact ⟨p, A, c, h1.below hb h1.lt, h2, h3, h4.below hb⟩
theorem BldU.bld (h : BldU w0 w b g l A c) : Bld w0 w b g l := ⟨_, A, c, h.1, .inr rfl, h.2.1, h.2.2⟩
theorem BldU.ne (h : BldU w0 w b g l A c) : g ≠ some b := h.2.2.1.ne_ h.1 (by decide)
/-- The world behind what a builder's method did. -/
def BldOnly (w w' : World) (b : Nat) (g : Option Nat) : Prop := Only (fun i => i = b ∨ g = some i) w w'
/-- A new one. -/
theorem Bld.new (w : World) : Bld w (w.alloc (.cells #[.pointer none, .slice none 0 0] 72)) w.heap.size none [] :=
  ⟨_, none, 0, Blk.new w _ _, .inl rfl, Nat.le_refl _, (Row.nil _ _), by simp, (Below.refl _ w).alloc (Nat.le_refl _) _⟩
end

theorem bld_size : (Try.prog.info? 72).map (·.size) = some 2 := by kernel_rfl
theorem bld_lies : liesAt Try.prog Try.prog.depth 72 (2 / Try.prog.cellsOf 72) 0 72 1 = true := by kernel_rfl

set_option maxRecDepth 100000 in
set_option maxHeartbeats 1000000 in
theorem copyCheck_is {w0 w : World} {b : Nat} {g : Option Nat} {l : List Nat} (h : Bld w0 w b g l) :
    Calls Try.prog 37 #[.pointer (some ⟨b, 0, none⟩)] w fun e w' => e = .returned (.tuple #[]) ∧ ∃ A c, BldU w0 w' b g l A c ∧ BldOnly w w' b g := by
  obtain ⟨p, A, c, h1, h2, h3, h4⟩ := h
  obtain ⟨j, hj, hjs⟩ := Option.map_eq_some_iff.1 bld_size
  have hsh : w.shape? b = some (72, 2) := by
    have h1' := h1
    unfold Blk at h1'
    simp [World.shape?, h1']
  have c0 : w.cell? ⟨b, 0, none⟩ = some p := by rw [h1.cell]; rfl
  have f0 : w.frozen? ⟨b, 0, none⟩ = false := h1.frozen 0
  have HB := Lib.hid (And.intro h1 (And.intro h3 h4))
  clear h1 h3 h4
  rcases h2 with rfl | rfl
  · go_enter Try.func37, Try.ntmps37
    go_wp2
    rw [Lib.run_to_unsafe w ⟨b, 0, none⟩ Try.underlying70 Try.underlying93 hj (by rw [hjs]; decide) hsh (Nat.zero_lt_succ 1)]
    simp only [Result.andThen]
    rw [Oper.upon_value]
    go_wp2
    rw [run_callFunc_extern Try.func43 (by kernel_rfl) (by kernel_rfl) (by kernel_rfl) (e := Extern.AbiNoEscape.same) (by kernel_rfl)]
    rw [Lib.run_noEscape]
    simp only [Result.andThen]
    rw [Oper.upon_value]
    go_wp2
    rw [Lib.run_from_unsafe w ⟨b, 0, none⟩ Try.underlying93 Try.underlying70 hj hsh bld_lies]
    simp only [Result.andThen]
    rw [Oper.upon_value]
    go_wp2
    go_end0
    obtain ⟨h1, h3, h4⟩ := HB.out
    have hO : Only (fun i => i = b ∨ g = some i) w (w.setCell ⟨b, 0, none⟩ (.pointer (some ⟨b, 0, none⟩))) := (Only.refl _ w).setCell (.inl (.inl rfl)) _
    have hne : g ≠ some b := h4.1.ne_ h1 (by decide)
    exact ⟨rfl, A, c, ⟨h1.set_ 0 _, h3, h4.1.far hne _, h4.2.1, h4.2.2.setCell h3 _⟩, hO⟩
  · go_enter Try.func37, Try.ntmps37
    go_wp2
    rw [Lib.run_neq_ptr_same w _ Try.underlying70 hj]
    go_wp2
    go_end0
    obtain ⟨h1, h3, h4⟩ := HB.out
    exact ⟨rfl, A, c, ⟨h1, h3, h4⟩, Only.refl _ _⟩

/-- What a write leaves: the builder with more bytes; nothing else that lay has turned. -/
def Wrote (w0 w : World) (b : Nat) (g : Option Nat) (l : List Nat) (w' : World) : Prop :=
  ∃ g', Bld w0 w' b g' l ∧ BldOnly w w' b g ∧ (g' = g ∨ ∀ k, g' = some k → w.heap.size ≤ k)

theorem BldU.kept {w0 w1 W1 W' : World} {b : Nat} {g : Option Nat} {l : List Nat} {A : Option Addr} {c : Nat} (h : BldU w0 w1 b g l A c) (hb : Below w1.heap.size w1 W1) (hg : W1.grownBy W' g) :
    W'.cell? ⟨b, 1, none⟩ = some (.slice A l.length c) ∧ W'.frozen? ⟨b, 1, none⟩ = false := by
  have hlt := h.1.lt
  have h1 : Blk W' b 72 #[.pointer (some ⟨b, 0, none⟩), .slice A l.length c] := (h.1.below hb hlt).keep (hg.block b (by have := hb.size; omega) (fun e => h.ne e.symm))
  exact ⟨by rw [h1.cell]; rfl, h1.frozen 1⟩
/-- The store of what append made. -/
theorem BldU.put {w0 w w1 W1 W' : World} {b : Nat} {g g' : Option Nat} {l X : List Nat} {A A' : Option Addr} {c c' : Nat} (h : BldU w0 w1 b g l A c) (hO : BldOnly w w1 b g) (hb : Below w1.heap.size w1 W1) (hr : RowAt w0 W' A' c' g' X) (hg : W1.grownBy W' g) (hg' : g' = g ∨ g' = some W1.heap.size) :
    Wrote w0 w b g X (W'.setCell ⟨b, 1, none⟩ (.slice A' X.length c')) := by
  have hlt := h.1.lt
  have h1 : Blk W' b 72 #[.pointer (some ⟨b, 0, none⟩), .slice A l.length c] := (h.1.below hb hlt).keep (hg.block b (by have := hb.size; omega) (fun e => h.ne e.symm))
  refine ⟨g', ⟨_, A', c', h1.set_ 1 _, .inr rfl, h.2.1, hr.1.far (hr.1.ne_ h1 (by decide)) _, hr.2.1, hr.2.2.setCell h.2.1 _⟩, ?_, ?_⟩
  · exact ((hO.trans (Only.of_below hb (Nat.le_refl _) (fun i => i = b ∨ g = some i)) (fun i _ h => h)).grown hg (fun k e => .inl (.inr e))).setCell (.inl (.inl rfl)) _
  · rcases hg' with h | h
    · exact .inl h
    · right; intro k e; rw [h] at e; cases e; have := hO.size; have := hb.size; omega

set_option maxRecDepth 100000 in
set_option maxHeartbeats 2000000 in
theorem WriteString_is {w0 w : World} {b : Nat} {g : Option Nat} {l : List Nat} (h : Bld w0 w b g l) (m : List Nat) (hm : ∀ d ∈ m, d < 256) (hl : l.length + m.length ≤ 140737488355327) :
    Calls Try.prog 30 #[.pointer (some ⟨b, 0, none⟩), .string (str m)] w fun e w' => e = .returned (.tuple #[.int .i64 (m.length : Nat), .nilIface]) ∧ Wrote w0 w b g (l ++ m) w' := by
  have HC := Lib.hid (copyCheck_is h)
  have HM := Lib.hid hm
  have hsz := str_len m
  clear h hm
  go_enter Try.func30, Try.ntmps30
  go_wp2_with fail
  refine HC.out.mono ?_
  rintro e w1 ⟨rfl, A, c, hU, hO⟩
  have HU := Lib.hid hU
  have HO := Lib.hid hO
  have c1 : w1.cell? ⟨b, 1, none⟩ = some (.slice A l.length c) := by rw [hU.1.cell]; rfl
  clear hU hO HC
  go_wp2_with (at_builtin; refine RowAt.wpX HU.out.2.2 (Below.refl _ w1) rfl _ _ 9 rfl rfl _ rfl m (src_str HM.out w1) hl ?_; intro A2 c2 W2 g2 X2 HX2 HR2 HG2 HE2; have d1 := (HU.out.kept (Below.refl _ w1) HG2.out).1; have f1 := (HU.out.kept (Below.refl _ w1) HG2.out).2)
  go_ret2
  refine ⟨rfl, ?_⟩
  rw [← HX2.out]
  exact BldU.put HU.out HO.out (Below.refl _ w1) HR2.out HG2.out HE2.out

theorem str_toList (l : List Nat) : (⟨(l.map fun c => UInt8.ofNat c).toArray⟩ : ByteArray) = str l := by
  apply ba_ext
  unfold str
  rw [strOfNums_data, List.map_map]
  refine List.map_congr_left fun c _ => ?_
  simp

theorem lies_bytes {P : Program} {e : TypeId} (hc : P.cellsOf e = 1) (count o n : Nat) (hn : o + n ≤ count) : liesAt P P.depth e count o e n = true := by
  have hd : P.depth = (2 * (P.types.size + Made.depth) + 1) + 1 := rfl
  rw [hd]
  simp only [liesAt, Bool.or_eq_true]
  left
  rw [hd]
  simp [rowAt, hc, hn, sameLayout, Nat.mod_one]
/-- What String makes of bytes that lie anywhere in a row. -/
theorem run_uString {P : Program} (w : World) (pt it ty e : TypeId) (hp : P.underlying pt = some (.pointer e)) (hc : P.cellsOf e = 1) (q o cells : Nat) (hsh : w.shape? q = some (e, cells)) (l : List UInt8) (h0 : l ≠ []) (hn : o + l.length ≤ cells) (h63 : l.length ≤ 9223372036854775807)
    (hcell : ∀ j x, l[j]? = some x → w.cell? ((⟨q, o, none⟩ : Addr).add j) = some (.int .u8 x.toNat)) :
    (Builtin.unsafeString_ #[pt, it] ty #[.pointer (some ⟨q, o, none⟩), .int .i64 l.length]).run P w = .ok (.string ⟨l.toArray⟩) (w.freeze ⟨q, o, none⟩ l.length) := by
  have hl : l.length ≠ 0 := by simpa using h0
  have hlb := Lib.run_loadBytes (P := P) w l ⟨q, o, none⟩ .empty hcell
  have hlies := lies_bytes (P := P) hc (cells / P.cellsOf e) o l.length (by rw [hc]; simpa using hn)
  have g1 : ¬ (9223372036854775807 : Int) < (l.length : Int) := by omega
  have g2 : ¬ (l.length : Int) < 0 := by omega
  have hmax : IntKind.i64.max = 9223372036854775807 := rfl
  show Sem.run P (do
        let n ← asInt (.int .i64 l.length)
        if n < 0 then runtimePanic (.error _)
        if n > IntKind.i64.max then unsupported (.unsafePointer _)
        if n = 0 then pure (Value.string .empty)
        else if ← variablesAt ⟨q, o, none⟩ (← elemOf pt) n.toNat then do
          let s ← loadBytes ⟨q, o, none⟩ .empty n.toNat
          freeze ⟨q, o, none⟩ n.toNat
          pure (Value.string s)
        else unsupported (.unsafePointer _)) w = _
  simp [asInt, asIntOf, hmax, g1, g2, hl, variablesAt, hsh, elemOf, run_underlying hp, hlies, hlb]
theorem byte_cells : Try.prog.cellsOf 5 = 1 := by kernel_rfl

set_option maxRecDepth 100000 in
set_option maxHeartbeats 2000000 in
theorem String_is {w0 w : World} {b : Nat} {g : Option Nat} {l : List Nat} (h : Bld w0 w b g l) (hl : ∀ c ∈ l, c < 256) (h0 : l ≠ []) (hn : l.length ≤ 140737488355327) :
    Calls Try.prog 31 #[.pointer (some ⟨b, 0, none⟩)] w fun e w' => e = .returned (.string (str l)) ∧ Below w0.heap.size w0 w' := by
  obtain ⟨p, A, c, h1, h2, h3, h4⟩ := h
  have hbel := h4.2.2
  obtain ⟨⟨A', c', e', hle, hcm, _, hg⟩, h5, h6⟩ := h4
  injection e' with e1 e2 e3
  subst e1 e3
  have hlen : 0 < l.length := List.length_pos_iff.2 h0
  rw [bv_len] at hle
  rcases hg with ⟨hz, _⟩ | ⟨q, o, cs, _, rfl, rfl, hq, hfit, hx⟩
  · omega
  have h5q := h5 q rfl
  have c1 : w.drew.cell? ⟨b, 1, none⟩ = some (.slice (some ⟨q, o, none⟩) l.length c) := by
    show w.cell? _ = _
    rw [h1.cell]; rfl
  have hSD : (Builtin.unsafeSliceData_ #[59] 87 #[.slice (some ⟨q, o, none⟩) l.length c]).run Try.prog w.drew = .ok (.pointer (some ⟨q, o, none⟩)) w.drew :=
    Lib.run_unsafeSliceData_row _ _ _ _ _ _ (by omega)
  have hUS : (Builtin.unsafeString_ #[87, 3] 9 #[.pointer (some ⟨q, o, none⟩), .int .i64 (l.length : Nat)]).run Try.prog w.drew = .ok (.string (str l)) (w.drew.freeze ⟨q, o, none⟩ l.length) := by
    have hq' : w.drew.heap[q]? = some (.cells cs 5 (0, 0)) := hq
    have := run_uString (P := Try.prog) w.drew 87 3 9 5 Try.underlying87 byte_cells q o cs.size (by simp [World.shape?, hq']) (l.map fun c => UInt8.ofNat c) (by simpa using h0) (by rw [List.length_map]; omega) (by rw [List.length_map]; omega) (fun j x hj => by
      rw [List.getElem?_map] at hj
      obtain ⟨d, hd, rfl⟩ := Option.map_eq_some_iff.1 hj
      rw [add_eq, cell_of_row w.drew q (o + j) cs _ (0, 0) hq', hx j (.int .u8 (d : Nat)) (by rw [bv_at, hd]; rfl)]
      have := hl d (List.mem_of_getElem? hd)
      simp; omega)
    rw [List.length_map, str_toList] at this
    exact this
  have HF : Hid (Below w0.heap.size w0 (w.drew.freeze ⟨q, o, none⟩ l.length)) := Lib.hid (Lib.below_freeze hbel.drew (p := ⟨q, o, none⟩) h5q _)
  clear e2 h1 h2 hq hx hfit h5 h6 hbel hl h0 hlen hle hcm
  go_enter Try.func31, Try.ntmps31
  go_wp2
  go_region
  all_goals
    go_wp2
    go_ret
    exact ⟨rfl, HF.out⟩
end Go.Proofs.Yteapcahpkapbbaa
