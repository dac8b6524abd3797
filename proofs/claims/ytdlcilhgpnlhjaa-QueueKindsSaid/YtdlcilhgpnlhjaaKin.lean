/-
  A queue of numbers and a queue of texts that stand for them, beside an act: what each call leaves of the other ones; the text of a number.
  Conditions: none.
-/
import Derived.Test.YtdlcilhgpnlhjaaActing
import Derived.Test.YtdlcilhgpnlhjaaQsPut
import Derived.Laws.BytesArg
namespace Go.Proofs.Ytdlcilhgpnlhjaa
open Go.RowKit

/-- The text that stands for a number. -/
def txt (x : Int) : ByteArray := strOfNums [x % 256, x / 256 % 256]

theorem text_any (x : Int) (w : World) : Calls Try.prog 29 #[.int .i64 x] w fun e w' => e = .returned (.string (txt x)) ∧ Below w.heap.size w w' := by
  have hcv := run_convert_bytes_arg (P := Try.prog) (w.alloc (.cells #[.int .u8 (x % 256), .int .u8 (x / 256 % 256)] 5)) 47 5 Try.underlying47 Try.underlying5 w.heap.size 0 2 2 [x % 256, x / 256 % 256] rfl (fun i hi => by
    have hb := Blk.new w 5 #[.int .u8 (x % 256), .int .u8 (x / 256 % 256)]
    rw [Nat.zero_add]
    match i, hi with
    | 0, _ => exact hb.cell 0
    | 1, _ => exact hb.cell 1) 9 Try.underlying9
  have H : Hid (strOfNums [x % 256, x / 256 % 256] = txt x) := rfl
  rw [H.out] at hcv
  go_enter Try.func29, Try.ntmps29
  go_wp2
  go_ret
  exact ⟨rfl, (Below.refl _ w).alloc (Nat.le_refl _) _⟩

/-- The texts of numbers. -/
abbrev sv (zs : List Int) : List Value := zs.map (fun x => Value.string (txt x))

theorem Row.ne_row {w : World} {e e' : TypeId} {g g' : Option Nat} {v v' : Value} {xs xs' : List Value} (h : Row w e g v xs) (h' : Row w e' g' v' xs') (hne : e ≠ e') : ∀ b, g = some b → g' ≠ some b := by
  intro b hb hb'
  obtain ⟨_, _, _, _, _, _, hg⟩ := h
  obtain ⟨_, _, _, _, _, _, hg'⟩ := h'
  rcases hg with ⟨_, e1⟩ | ⟨b1, _, cs, _, e1, _, hh, _⟩
  · rw [hb] at e1; cases e1
  · rcases hg' with ⟨_, e2⟩ | ⟨b2, _, cs2, _, e2, _, hh2, _⟩
    · rw [hb'] at e2; cases e2
    · rw [hb] at e1; cases e1
      rw [hb'] at e2; cases e2
      rw [hh] at hh2
      injection hh2 with hh2
      injection hh2 with _ ht
      exact hne ht

/-- Both queues and an act's own block, each in memory of its own. -/
structure Kin (w0 W : World) (qa qb cb rm : Nat) (ena enb : Bool) (ga gb : Option Nat) (xa xb : List Int) (cs : Array Value) : Prop where
  a : QAt W qa ga rm ena (iv xa)
  b : Str.QAt W qb gb rm enb (sv xb)
  act : Blk W cb 34 cs
  ba : w0.heap.size ≤ qa
  bb : w0.heap.size ≤ qb
  bga : ∀ b, ga = some b → w0.heap.size ≤ b
  bgb : ∀ b, gb = some b → w0.heap.size ≤ b
  below : Below w0.heap.size w0 W

section
variable {w0 W W' : World} {qa qb cb rm : Nat} {ena enb ena' enb' : Bool} {ga gb ga' gb' : Option Nat} {xa xb xa' xb' : List Int} {cs : Array Value}
theorem Kin.blks (h : Kin w0 W qa qb cb rm ena enb ga gb xa xb cs) : qa ≠ qb ∧ qa ≠ cb ∧ qb ≠ cb ∧ ga ≠ some qb ∧ ga ≠ some cb ∧ gb ≠ some qa ∧ gb ≠ some cb ∧ ∀ b, ga = some b → gb ≠ some b := by
  obtain ⟨v1, b1, r1⟩ := h.a
  obtain ⟨v2, b2, r2⟩ := h.b
  exact ⟨b1.ne_ b2 (by decide), b1.ne_ h.act (by decide), b2.ne_ h.act (by decide), r1.ne_ b2 (by decide), r1.ne_ h.act (by decide), r2.ne_ b1 (by decide), r2.ne_ h.act (by decide), r1.ne_row r2 (by decide)⟩
theorem Kin.keep (h : Kin w0 W qa qb cb rm ena enb ga gb xa xb cs) (hb : Below W.heap.size W W') : Kin w0 W' qa qb cb rm ena enb ga gb xa xb cs :=
  ⟨h.a.below hb h.a.blk_lt (fun _ e => h.a.row_lt e), h.b.below hb h.b.blk_lt (fun _ e => h.b.row_lt e), h.act.below hb h.act.lt, h.ba, h.bb, h.bga, h.bgb, h.below.trans (hb.mono h.below.size)⟩
theorem Kin.drew (h : Kin w0 W qa qb cb rm ena enb ga gb xa xb cs) : Kin w0 W.drew qa qb cb rm ena enb ga gb xa xb cs :=
  ⟨h.a, h.b, h.act, h.ba, h.bb, h.bga, h.bgb, ⟨h.below.os, h.below.tape, h.below.output, h.below.size, h.below.block⟩⟩
theorem Kin.drewN (h : Kin w0 W qa qb cb rm ena enb ga gb xa xb cs) (n : Nat) : Kin w0 (W.drewN n) qa qb cb rm ena enb ga gb xa xb cs :=
  ⟨h.a, h.b, h.act, h.ba, h.bb, h.bga, h.bgb, ⟨h.below.os, h.below.tape, h.below.output, h.below.size, h.below.block⟩⟩
theorem Kin.turnA (h : Kin w0 W qa qb cb rm ena enb ga gb xa xb cs) (hq : QAt W' qa ga' rm ena' (iv xa')) (ho : Only (fun b => b = qa ∨ some b = ga) W W') (hg : ga' = ga ∨ ga' = none ∨ ∃ b, ga' = some b ∧ W.heap.size ≤ b) :
    Kin w0 W' qa qb cb rm ena' enb ga' gb xa' xb cs := by
  obtain ⟨n1, n2, n3, n4, n5, n6, n7, n8⟩ := h.blks
  refine ⟨hq, h.b.only ho ?_ ?_, h.act.only ho ?_, h.ba, h.bb, ?_, h.bgb, ho.more' h.below ?_⟩
  · rintro (e | e)
    · exact n1 e.symm
    · exact n4 e.symm
  · rintro b e (rfl | e')
    · exact n6 e
    · exact n8 b e'.symm e
  · rintro (e | e)
    · exact n2 e.symm
    · exact n5 e.symm
  · rcases hg with rfl | rfl | ⟨b, rfl, hb'⟩
    · exact h.bga
    · intro b e; cases e
    · intro b' e; cases e; have := h.below.size; omega
  · rintro i hi (rfl | e)
    · have := h.ba; omega
    · have := h.bga i e.symm; omega
theorem Kin.turnB (h : Kin w0 W qa qb cb rm ena enb ga gb xa xb cs) (hq : Str.QAt W' qb gb' rm enb' (sv xb')) (ho : Only (fun b => b = qb ∨ some b = gb) W W') (hg : gb' = gb ∨ gb' = none ∨ ∃ b, gb' = some b ∧ W.heap.size ≤ b) :
    Kin w0 W' qa qb cb rm ena enb' ga gb' xa xb' cs := by
  obtain ⟨n1, n2, n3, n4, n5, n6, n7, n8⟩ := h.blks
  refine ⟨h.a.only ho ?_ ?_, hq, h.act.only ho ?_, h.ba, h.bb, h.bga, ?_, ho.more' h.below ?_⟩
  · rintro (e | e)
    · exact n1 e
    · exact n6 e.symm
  · rintro b e (rfl | e')
    · exact n4 e
    · exact n8 b e e'.symm
  · rintro (e | e)
    · exact n3 e.symm
    · exact n7 e.symm
  · rcases hg with rfl | rfl | ⟨b, rfl, hb'⟩
    · exact h.bgb
    · intro b e; cases e
    · intro b' e; cases e; have := h.below.size; omega
  · rintro i hi (rfl | e)
    · have := h.bb; omega
    · have := h.bgb i e.symm; omega

theorem K_put (h : Kin w0 W qa qb cb rm ena enb ga gb xa xb cs) (hrm : rm ≤ 65536) (hle : xa.length ≤ rm) {AA : Option Addr} {cc : Nat} {zs : List Int} (hr : Rd W (.slice AA zs.length cc) (iv zs)) (hz : zs.length ≤ 9223372036854775806) {gs : Option Nat} {v : Value} {ss : List Value} (hs : Row W 9 gs v ss) :
    Calls Try.prog 12 #[.pointer (some ⟨qa, 0, none⟩), .slice AA zs.length cc] W fun e w' => e = .returned (.int .i64 (putN rm ena xa.length zs.length)) ∧ ∃ ga', Hid (Kin w0 w' qa qb cb rm ena enb ga' gb (xa ++ zs.take (putN rm ena xa.length zs.length)) xb cs ∧ Row w' 9 gs v ss) := by
  refine (Put_at h.a hrm (by rw [List.length_map]; exact hle) hr (by omega)).mono ?_
  rintro e w' ⟨g', rfl, hq, ho, hg⟩
  rw [List.length_map] at hq ⊢
  rw [← List.map_take, ← List.map_append] at hq
  obtain ⟨v1, b1, r1⟩ := h.a
  refine ⟨rfl, g', h.turnA hq ho (hg.imp id .inr), hs.only ho ?_⟩
  rintro b e (rfl | e')
  · exact hs.ne_ b1 (by decide) e
  · exact r1.ne_row hs (by decide) b e'.symm e
theorem K_sput (h : Kin w0 W qa qb cb rm ena enb ga gb xa xb cs) (hrm : rm ≤ 65536) (hle : xb.length ≤ rm) {AA : Option Addr} {cc : Nat} {zs : List Int} (hr : Rd W (.slice AA zs.length cc) (sv zs)) (hz : zs.length ≤ 9223372036854775806) :
    Calls Try.prog 30 #[.pointer (some ⟨qb, 0, none⟩), .slice AA zs.length cc] W fun e w' => e = .returned (.int .i64 (putN rm enb xb.length zs.length)) ∧ ∃ gb', Hid (Kin w0 w' qa qb cb rm ena enb ga gb' xa (xb ++ zs.take (putN rm enb xb.length zs.length)) cs) := by
  refine (Str.Put_at h.b hrm (by rw [List.length_map]; exact hle) hr (by omega)).mono ?_
  rintro e w' ⟨g', rfl, hq, ho, hg⟩
  rw [List.length_map] at hq ⊢
  rw [← List.map_take, ← List.map_append] at hq
  exact ⟨rfl, g', h.turnB hq ho (hg.imp id .inr)⟩
theorem K_take (h : Kin w0 W qa qb cb rm ena enb ga gb xa xb cs) (hm : xa.length ≤ 65536) (n : Int) :
    Calls Try.prog 15 #[.pointer (some ⟨qa, 0, none⟩), .int .i64 n] W fun e w' => ∃ At ct gt ga', e = .returned (.slice At (xa.take n.toNat).length ct) ∧ Hid (Kin w0 w' qa qb cb rm ena enb ga' gb (xa.drop n.toNat) xb cs ∧ Row w' 3 gt (.slice At (xa.take n.toNat).length ct) (iv (xa.take n.toNat))) ∧ w'.cell? ⟨cb, 1, none⟩ = cs[1]? := by
  refine (Take_at h.a (by rw [List.length_map]; exact hm) n).mono ?_
  rintro e w' ⟨v, gt, g', rfl, hrow, hq, ho, hf, hg⟩
  obtain ⟨At, ct, rfl⟩ := hrow.form
  rw [← List.map_take] at hrow ⊢
  rw [List.length_map] at hrow ⊢
  rw [← List.map_drop] at hq
  have hA := h.turnA hq ho (hg.imp id .inl)
  exact ⟨At, ct, gt, g', rfl, ⟨hA, hrow⟩, hA.act.cell 1⟩
theorem K_stake (h : Kin w0 W qa qb cb rm ena enb ga gb xa xb cs) (hm : xb.length ≤ 65536) (n : Int) {gt : Option Nat} {v : Value} {ys : List Int} (hrow : Row W 3 gt v (iv ys)) :
    Calls Try.prog 31 #[.pointer (some ⟨qb, 0, none⟩), .int .i64 n] W fun e w' => ∃ As ct gs gb', e = .returned (.slice As (xb.take n.toNat).length ct) ∧ Hid (Kin w0 w' qa qb cb rm ena enb ga gb' xa (xb.drop n.toNat) cs ∧ Row w' 9 gs (.slice As (xb.take n.toNat).length ct) (sv (xb.take n.toNat)) ∧ Row w' 3 gt v (iv ys)) := by
  refine (Str.Take_at h.b (by rw [List.length_map]; exact hm) n).mono ?_
  rintro e w' ⟨v', gs, g', rfl, hrow', hq, ho, hf, hg⟩
  obtain ⟨As, ct, rfl⟩ := hrow'.form
  rw [← List.map_take] at hrow' ⊢
  rw [List.length_map] at hrow' ⊢
  rw [← List.map_drop] at hq
  obtain ⟨v2, b2, r2⟩ := h.b
  refine ⟨As, ct, gs, g', rfl, h.turnB hq ho (hg.imp id .inl), hrow', hrow.only ho ?_⟩
  rintro b e (rfl | e')
  · exact hrow.ne_ b2 (by decide) e
  · exact r2.ne_row hrow (by decide) b e'.symm e
theorem K_end (h : Kin w0 W qa qb cb rm ena enb ga gb xa xb cs) :
    Calls Try.prog 19 #[.pointer (some ⟨qa, 0, none⟩)] W fun e w' => e = .returned (.tuple #[]) ∧ Hid (Kin w0 w' qa qb cb rm true enb ga gb xa xb cs) := by
  refine (End_at h.a).mono ?_
  rintro e w' ⟨rfl, hq, ho⟩
  exact ⟨rfl, h.turnA hq (ho.mono (fun i _ e => .inl e)) (.inl rfl)⟩
theorem K_send (h : Kin w0 W qa qb cb rm ena enb ga gb xa xb cs) :
    Calls Try.prog 32 #[.pointer (some ⟨qb, 0, none⟩)] W fun e w' => e = .returned (.tuple #[]) ∧ Hid (Kin w0 w' qa qb cb rm ena true ga gb xa xb cs) := by
  refine (Str.End_at h.b).mono ?_
  rintro e w' ⟨rfl, hq, ho⟩
  exact ⟨rfl, h.turnB hq (ho.mono (fun i _ e => .inl e)) (.inl rfl)⟩
end

/-- Both queues, in the same state. -/
structure Kins (w0 W : World) (qa qb rm : Nat) (en : Bool) (ga gb : Option Nat) (xs : List Int) : Prop where
  a : QAt W qa ga rm en (iv xs)
  b : Str.QAt W qb gb rm en (sv xs)
  ba : w0.heap.size ≤ qa
  bb : w0.heap.size ≤ qb
  bga : ∀ b, ga = some b → w0.heap.size ≤ b
  bgb : ∀ b, gb = some b → w0.heap.size ≤ b
  below : Below w0.heap.size w0 W
  le : xs.length ≤ rm

section
variable {w0 W : World} {qa qb cb rm : Nat} {en : Bool} {ga gb : Option Nat} {xs : List Int} {cs : Array Value}
theorem Kins.kin (h : Kins w0 W qa qb rm en ga gb xs) (cs : Array Value) : Kin w0 (W.alloc (.cells cs 34)) qa qb W.heap.size rm en en ga gb xs xs cs :=
  ⟨h.a.alloc _, h.b.alloc _, Blk.new W _ _, h.ba, h.bb, h.bga, h.bgb, h.below.alloc h.below.size _⟩
theorem Kin.kins (h : Kin w0 W qa qb cb rm en en ga gb xs xs cs) (hle : xs.length ≤ rm) : Kins w0 W qa qb rm en ga gb xs :=
  ⟨h.a, h.b, h.ba, h.bb, h.bga, h.bgb, h.below, hle⟩
end

/-- What is read of a row of texts that holds any. -/
theorem Row.texts {w : World} {g : Option Nat} {A : Option Addr} {n c : Nat} {zs : List Int} (h : Row w 9 g (.slice A n c) (sv zs)) (hp : 0 < zs.length) :
    ∃ b o, A = some ⟨b, o, none⟩ ∧ ∀ j, j < zs.length → w.cell? ⟨b, o + j, none⟩ = some (.string (txt (zs[j]?.getD 0))) := by
  obtain ⟨A', c', hv, hle, _, hr⟩ := h.rd
  injection hv with e1 e2 e3
  subst e1 e2 e3
  rw [List.length_map] at hr
  obtain ⟨b, o, rfl, hx⟩ := hr hp
  refine ⟨b, o, rfl, fun j hj => hx j _ ?_⟩
  simp [hj]
theorem str_info : (Try.prog.info? 9).map (fun i => (i.zero, i.size, i.bytes)) = some (some (.string ByteArray.empty), 1, 16) := by kernel_rfl
end Go.Proofs.Ytdlcilhgpnlhjaa
