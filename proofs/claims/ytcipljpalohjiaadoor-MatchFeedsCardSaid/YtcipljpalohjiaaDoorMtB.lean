/-
  A matcher's places in memory: TrailingZeros64, add, least.
  Conditions: those of each theorem.
-/
import Derived.Lib.TrailingZeros
import Derived.Test.YtcipljpalohjiaaDoorBy
import Derived.Test.YtcipljpalohjiaaDoorSep
import Derived.Test.YtcipljpalohjiaaDoorSlI
import Derived.Test.YtcipljpalohjiaaDoorRVs
import Derived.Laws.Bits64b
import Derived.Laws.BitsAllLaws
import Derived.WalkKit
import Derived.BigQuiet
import Derived.Deep.DeepCutAuto
import Derived.Deep.CutBlock
import Derived.Deep.Slices
namespace Go.Proofs.YtcipljpalohjiaaDoor

theorem bit_or (x k i : Nat) : (x ||| 2 ^ k).testBit i = (x.testBit i || decide (k = i)) := by rw [Nat.testBit_or, Nat.testBit_two_pow]
/-- 1<<k - 1 as a word. -/
def maskS (k : Nat) : Nat := if k < 64 then 2 ^ k - 1 else 18446744073709551615
def cutS (x k : Nat) : Nat := x &&& (18446744073709551615 - maskS k)
theorem mask_lt (k : Nat) : maskS k < 18446744073709551616 := by
  unfold maskS
  split
  · rename_i h
    have := Nat.pow_lt_pow_right (a := 2) (by decide) h
    omega
  · decide
theorem cut_bit (x k i : Nat) (hi : i < 64) : (cutS x k).testBit i = (x.testBit i && decide (k ≤ i)) := by
  unfold cutS
  rw [Nat.testBit_and]
  congr 1
  unfold maskS
  split
  · rename_i h
    have hp := Nat.pow_lt_pow_right (a := 2) (by decide) h
    have h0 : 0 < 2 ^ k := Nat.two_pow_pos k
    rw [show (18446744073709551615 : Nat) - (2 ^ k - 1) = 2 ^ 64 - ((2 ^ k - 1) + 1) by omega, Nat.testBit_two_pow_sub_succ (by omega), Nat.testBit_two_pow_sub_one, decide_eq_true hi, Bool.true_and]
    by_cases hk : k ≤ i
    · rw [decide_eq_true hk, decide_eq_false (by omega)]; rfl
    · rw [decide_eq_false hk, decide_eq_true (by omega)]; rfl
  · rw [decide_eq_false (by omega)]; simp
theorem cut_lt {x : Nat} (hx : x < 18446744073709551616) (k : Nat) : cutS x k < 18446744073709551616 := Nat.lt_of_le_of_lt Nat.and_le_left hx
theorem or_lt {x k : Nat} (hx : x < 18446744073709551616) (hk : k < 64) : x ||| 2 ^ k < 18446744073709551616 := Nat.or_lt_two_pow (n := 64) hx (Nat.pow_lt_pow_right (by decide) hk)
/-- The lowest bit. -/
theorem low_bit {x : Nat} (h0 : x ≠ 0) (h : x < 18446744073709551616) : Lib.ctz 64 x < 64 ∧ x.testBit (Lib.ctz 64 x) = true ∧ ∀ i, i < Lib.ctz 64 x → x.testBit i = false := by
  obtain ⟨m, hm, hk⟩ := Lib.ctzFrom_spec 64 x (by omega) h
  have e : Lib.ctz 64 x = Lib.ctzFrom 64 x := by simp [Lib.ctz, h0]
  rw [e]
  generalize Lib.ctzFrom 64 x = k at *
  subst hm
  refine ⟨hk, ?_, fun i hi => ?_⟩
  · rw [Nat.mul_comm, Nat.testBit_mul_two_pow, decide_eq_true (Nat.le_refl k), Bool.true_and, Nat.sub_self, Nat.testBit_zero]
    simp
  · rw [Nat.mul_comm, Nat.testBit_mul_two_pow, decide_eq_false (by omega), Bool.false_and]

/-- The places that words hold, from the first one's first bit. -/
def memW (ws : List Nat) (B f : Nat) : Prop := B ≤ f ∧ ∃ x, ws[(f - B) / 64]? = some x ∧ x.testBit ((f - B) % 64) = true
section
variable {ws : List Nat} {B f : Nat}
theorem mem_nil : ¬ memW [] B f := by rintro ⟨_, x, h, _⟩; simp at h
theorem mem_zero : memW (ws ++ [0]) B f ↔ memW ws B f := by
  unfold memW
  constructor
  · rintro ⟨h1, x, h2, h3⟩
    refine ⟨h1, x, ?_, h3⟩
    rcases Nat.lt_or_ge ((f - B) / 64) ws.length with h | h
    · rwa [List.getElem?_append_left h] at h2
    · rw [List.getElem?_append_right h] at h2
      have := (List.getElem?_eq_some_iff.1 h2).1
      simp at this
      rw [this] at h2
      simp at h2
      subst h2
      simp at h3
  · rintro ⟨h1, x, h2, h3⟩
    exact ⟨h1, x, by rw [List.getElem?_append_left (List.getElem?_eq_some_iff.1 h2).1]; exact h2, h3⟩
theorem mem_set {p x : Nat} (hp : B ≤ p) (hx : ws[(p - B) / 64]? = some x) : memW (ws.set ((p - B) / 64) (x ||| 2 ^ ((p - B) % 64))) B f ↔ memW ws B f ∨ f = p := by
  have hlt := (List.getElem?_eq_some_iff.1 hx).1
  unfold memW
  rw [List.getElem?_set]
  by_cases hw : (p - B) / 64 = (f - B) / 64
  · rw [if_pos hw, if_pos hlt]
    constructor
    · rintro ⟨h1, y, h2, h3⟩
      cases h2
      rw [bit_or] at h3
      rcases Bool.or_eq_true_iff.1 h3 with h | h
      · exact .inl ⟨h1, x, by rw [← hw]; exact hx, h⟩
      · have := of_decide_eq_true h; right; omega
    · rintro (⟨h1, y, h2, h3⟩ | rfl)
      · rw [← hw, hx] at h2
        cases h2
        exact ⟨h1, _, rfl, by rw [bit_or, h3]; rfl⟩
      · exact ⟨hp, _, rfl, by rw [bit_or, decide_eq_true rfl, Bool.or_true]⟩
  · rw [if_neg hw]
    constructor
    · intro h; exact .inl h
    · rintro (h | rfl)
      · exact h
      · exact absurd rfl hw
theorem mem_tail : memW ws (B + 64) f ↔ memW (0 :: ws) B f := by
  unfold memW
  constructor
  · rintro ⟨h1, x, h2, h3⟩
    refine ⟨by omega, x, ?_, by rwa [show (f - B) % 64 = (f - (B + 64)) % 64 by omega]⟩
    rw [show (f - B) / 64 = (f - (B + 64)) / 64 + 1 by omega, List.getElem?_cons_succ]
    exact h2
  · rintro ⟨h1, x, h2, h3⟩
    rcases Nat.lt_or_ge f (B + 64) with h | h
    · rw [show (f - B) / 64 = 0 by omega] at h2
      simp at h2
      subst h2
      simp at h3
    · rw [show (f - B) / 64 = (f - (B + 64)) / 64 + 1 by omega, List.getElem?_cons_succ] at h2
      exact ⟨h, x, h2, by rwa [show (f - (B + 64)) % 64 = (f - B) % 64 by omega]⟩
theorem mem_cut {x k : Nat} : memW (cutS x k :: ws) B f ↔ memW (x :: ws) B f ∧ (B + k ≤ f ∨ B + 64 ≤ f) := by
  unfold memW
  rcases Nat.lt_or_ge f (B + 64) with h | h
  · by_cases h1 : B ≤ f
    · rw [show (f - B) / 64 = 0 by omega]
      constructor
      · rintro ⟨_, y, h2, h3⟩
        simp at h2
        subst h2
        rw [cut_bit _ _ _ (Nat.mod_lt _ (by decide)), Bool.and_eq_true, decide_eq_true_eq] at h3
        exact ⟨⟨h1, x, rfl, h3.1⟩, by omega⟩
      · rintro ⟨⟨_, y, h2, h3⟩, h4⟩
        simp at h2
        subst h2
        exact ⟨h1, _, rfl, by rw [cut_bit _ _ _ (Nat.mod_lt _ (by decide)), h3, decide_eq_true (by omega)]; rfl⟩
    · constructor
      · rintro ⟨k, _⟩; exact absurd k h1
      · rintro ⟨⟨k, _⟩, _⟩; exact absurd k h1
  · rw [show (f - B) / 64 = (f - B - 64) / 64 + 1 by omega, List.getElem?_cons_succ, List.getElem?_cons_succ]
    constructor
    · rintro ⟨h1, h2⟩; exact ⟨⟨h1, h2⟩, .inr h⟩
    · rintro ⟨h1, _⟩; exact h1
theorem mem_first {x : Nat} (h0 : x ≠ 0) (hx : x < 18446744073709551616) : memW (x :: ws) B (B + Lib.ctz 64 x) ∧ ∀ g, memW (x :: ws) B g → B + Lib.ctz 64 x ≤ g := by
  obtain ⟨h1, h2, h3⟩ := low_bit h0 hx
  generalize Lib.ctz 64 x = k at *
  refine ⟨⟨by omega, x, ?_, ?_⟩, ?_⟩
  · rw [show (B + k - B) / 64 = 0 by omega]; rfl
  · rw [show (B + k - B) % 64 = k by omega]; exact h2
  · rintro g ⟨g1, y, g2, g3⟩
    apply Nat.le_of_not_lt
    intro hlt
    rw [show (g - B) / 64 = 0 by omega] at g2
    simp at g2
    subst g2
    rw [show (g - B) % 64 = g - B by omega, h3 (g - B) (by omega)] at g3
    cases g3
theorem mem_one {x : Nat} (h : memW [x] B f) : f < B + 64 := by
  obtain ⟨h1, y, h2, _⟩ := h
  have := (List.getElem?_eq_some_iff.1 h2).1
  simp at this
  omega
end
end Go.Proofs.YtcipljpalohjiaaDoor
namespace Go.Proofs.YtcipljpalohjiaaDoor
open Go.RowKit

/-- The table, as its initialiser lays it. -/
def Tz (w : World) : Prop := 0 < w.heap.size ∧ ∀ j, j < 64 → w.cell? ⟨0, j, none⟩ = some (.int .u8 (Lib.deBruijn64tab.getD j 0 : Nat))
theorem Tz.below {w w' : World} (h : Tz w) (hb : Below w.heap.size w w') : Tz w' :=
  ⟨Nat.lt_of_lt_of_le h.1 hb.size, fun j hj => (World.cell?_of_block (hb.block _ h.1)).trans (h.2 j hj)⟩
theorem Tz.only {S : Nat → Prop} {w w' : World} (h : Tz w) (ho : Only S w w') (hS : ¬ S 0) : Tz w' :=
  ⟨Nat.lt_of_lt_of_le h.1 ho.size, fun j hj => (ho.cell (p := ⟨0, j, none⟩) h.1 hS).trans (h.2 j hj)⟩

theorem tz_key (x a : Nat) (hx : x < 18446744073709551616) (hx0 : x ≠ 0) (hlow : x &&& (18446744073709551616 - x) = a) :
    IntKind.u64.wrap (bits BinOp.and IntKind.u64 (x : Int) (IntKind.u64.wrap (-(x : Int))) * 285870213051353865) / 288230376151711744 = ((a * 285870213051353865 % 18446744073709551616 / 288230376151711744 : Nat) : Int) := by
  have e1 : IntKind.u64.wrap (-(x : Int)) = ((18446744073709551616 - x : Nat) : Int) := by rw [IntKind.wrap_u64]; omega
  rw [e1, bits_and_u64_nat x _ hx (by omega), hlow, IntKind.wrap_u64]
  omega
set_option maxHeartbeats 1000000 in
theorem tz_core (x k idx : Nat) (w : World) (hx0 : ((x : Int) == 0) = false)
    (key : IntKind.u64.wrap (bits BinOp.and IntKind.u64 (x : Int) (IntKind.u64.wrap (-(x : Int))) * 285870213051353865) / 288230376151711744 = (idx : Int))
    (hi : idx < 64) (hk : k < 64) (hcell : w.cell? ⟨0, idx, none⟩ = some (.int .u8 (k : Nat))) :
    Calls Tryd.prog 58 #[.int .u64 (x : Nat)] w fun e w' => e = .returned (.int .i64 (k : Nat)) ∧ w = w' := by
  go_enter Tryd.func58, Tryd.ntmps58
  go_wp2_with (simp only [key])
  go_ret
  exact ⟨rfl, rfl⟩
theorem tz_is (x : Nat) (hx : x < 18446744073709551616) (h0 : x ≠ 0) (w : World) (hT : Tz w) :
    Calls Tryd.prog 58 #[.int .u64 (x : Nat)] w fun e w' => e = .returned (.int .i64 (Lib.ctz 64 x : Nat)) ∧ w = w' := by
  obtain ⟨hlow, hk⟩ := Lib.lowest_bit 64 x h0 hx
  obtain ⟨hi, htab⟩ := Lib.deBruijn64_at _ hk
  have hcell := hT.2 _ hi
  rw [htab] at hcell
  exact tz_core x _ _ w (by simp; omega) (tz_key x _ hx h0 hlow) hi hk hcell

theorem Turned.then_p {Q : Thing} {F F1 : Nat → Prop} {w w1 w2 : World} (t : Turned Q F1 w1 w2) (ho : Only F w w1) (hF : ∀ b, F1 b → F b ∨ w.heap.size ≤ b) : Turned Q F w w2 := by
  obtain ⟨F2, hq, ho2, hF2⟩ := t
  have h1 := ho.size
  refine ⟨F2, hq, ho.trans ho2 (fun i hi hb => (hF i hb).resolve_right (by omega)), fun b hb => ?_⟩
  rcases hF2 b hb with hb | hb
  · exact hF b hb
  · exact .inr (by omega)
theorem pow_wrap (k : Nat) (h : k < 64) : IntKind.u64.wrap (2 ^ k) = ((2 ^ k : Nat) : Int) := by
  have := Nat.pow_lt_pow_right (a := 2) (by decide) h
  rw [IntKind.wrap_u64, show ((2 : Int) ^ k) = ((2 ^ k : Nat) : Int) from (Int.natCast_pow 2 k).symm]
  generalize 2 ^ k = m at *
  omega
theorem or_key (x k : Nat) (hx : x < 18446744073709551616) (hk : k < 64) : bits BinOp.or IntKind.u64 (x : Int) (IntKind.u64.wrap (2 ^ k)) = ((x ||| 2 ^ k : Nat) : Int) := by
  rw [pow_wrap k hk, bits_or_u64_nat x _ hx (Nat.pow_lt_pow_right (by decide) hk)]

/-! ### Places -/
def uv (l : List Nat) : List Value := l.map fun n => .int .u64 (n : Nat)
theorem uv_len (l : List Nat) : (uv l).length = l.length := List.length_map _
structure PlF (F : Nat → Prop) (W : World) (q top : Nat) (M : Nat → Prop) (g : Option Nat) (A : Option Addr) (c : Nat) (ws : List Nat) (B : Nat) : Prop where
  blk : Blk W q 89 #[.slice A ws.length c, .int .i64 (B : Nat)]
  row : Row W 108 g (.slice A ws.length c) (uv ws)
  own : ∀ b, g = some b → F b
  word : ∀ x ∈ ws, x < 18446744073709551616
  top_ : B + 64 * ws.length ≤ top + 64
  mem : ∀ f, M f ↔ memW ws B f
/-- Places in memory: their struct is block q, all of them are at most top. -/
def PlT (q top : Nat) (M : Nat → Prop) : Thing := fun F W => (∀ b, F b → b < W.heap.size) ∧ F q ∧ ∃ g A c ws B, PlF F W q top M g A c ws B
theorem pl_framed (q top : Nat) (M : Nat → Prop) : Framed (PlT q top M) := by
  constructor
  · rintro F S w w' ⟨hl, hq, g, A, c, ws, B, h⟩ ho hd
    exact ⟨fun b hb => Nat.lt_of_lt_of_le (hl b hb) ho.size, hq, g, A, c, ws, B, { h with blk := h.blk.only ho (hd q hq), row := h.row.only ho fun b e => hd b (h.own b e) }⟩
  · rintro F w ⟨hl, _⟩; exact hl
theorem u64_info : (Tryd.prog.info? 108).map (fun i => (i.zero, i.size, i.bytes)) = some (some (.int .u64 0), 1, 8) := by kernel_rfl

/-- Places of so many words from so far on. -/
def PlW (q top : Nat) (M : Nat → Prop) (n B : Nat) : Thing := fun F W => (∀ b, F b → b < W.heap.size) ∧ F q ∧ ∃ g A c ws, PlF F W q top M g A c ws B ∧ ws.length = n
theorem plW_framed (q top : Nat) (M : Nat → Prop) (n B : Nat) : Framed (PlW q top M n B) := by
  constructor
  · rintro F S w w' ⟨hl, hq, g, A, c, ws, h, hn⟩ ho hd
    exact ⟨fun b hb => Nat.lt_of_lt_of_le (hl b hb) ho.size, hq, g, A, c, ws, { h with blk := h.blk.only ho (hd q hq), row := h.row.only ho fun b e => hd b (h.own b e) }, hn⟩
  · rintro F w ⟨hl, _⟩; exact hl
section
variable {F : Nat → Prop} {W W' : World} {q top B c : Nat} {M : Nat → Prop} {g g' : Option Nat} {A : Option Addr} {ws : List Nat}
theorem PlF.ne_ (h : PlF F W q top M g A c ws B) : g ≠ some q := h.row.ne_ h.blk (by decide)
/-- One word more, of no bits. -/
theorem PlF.grow (h : PlF F W q top M g A c ws B) (hq : F q) (hl : ∀ b, F b → b < W.heap.size) (ht : B + 64 * (ws.length + 1) ≤ top + 64) (o : Obj) {A' : Option Addr} {c' : Nat}
    (hr : Row W' 108 g' (.slice A' (ws.length + 1) c') (uv ws ++ [.int .u64 0])) (hgr : (W.alloc o).grownBy W' g) (hg' : g' = g ∨ g' = some (W.alloc o).heap.size) :
    Turned (PlW q top M (ws.length + 1) B) F W (W'.setCell ⟨q, 0, none⟩ (.slice A' (ws.length + 1) c')) := by
  have ho1 : Only F W W' := ((Only.refl F W).alloc o).grown hgr (fun k hk => .inl (h.own k hk))
  have ho2 : Only (fun b => g = some b) W W' := ((Only.refl _ W).alloc o).grown hgr (fun k hk => .inl hk)
  have hb := h.blk.only ho2 h.ne_
  have hs := ho1.size
  have hlt := h.blk.lt
  have hgq : g' ≠ some q := by
    rcases hg' with rfl | rfl
    · exact h.ne_
    · intro e; simp at e; omega
  have e : uv ws ++ [.int .u64 0] = uv (ws ++ [0]) := by simp [uv]
  rw [e] at hr
  have ho3 : Only F W (W'.setCell ⟨q, 0, none⟩ (.slice A' (ws.length + 1) c')) := ho1.setCell (p := ⟨q, 0, none⟩) (.inl hq) _
  refine ⟨fun b => F b ∨ (W.heap.size ≤ b ∧ b < W'.heap.size), ⟨fun b hb => ?_, .inl hq, g', A', c', ws ++ [0], ⟨?_, ?_, fun b e => ?_, fun x hx => ?_, ?_, fun f => ?_⟩, by simp⟩, ho3, fun b hb => hb.imp id fun k => k.1⟩
  · rw [World.size_setCell]
    rcases hb with k | k
    · have := hl b k; omega
    · exact k.2
  · have := hb.set_ 0 (.slice A' (ws.length + 1) c')
    rw [List.length_append, List.length_singleton]
    simpa using this
  · have := hr.far (p := ⟨q, 0, none⟩) hgq (.slice A' (ws.length + 1) c')
    rw [List.length_append, List.length_singleton]
    exact this
  · rcases hg' with rfl | rfl
    · exact .inl (h.own b e)
    · have := hr.lt e
      simp at e
      exact .inr ⟨by omega, this⟩
  · rcases List.mem_append.1 hx with hx | hx
    · exact h.word x hx
    · simp at hx; omega
  · rw [List.length_append, List.length_singleton]; exact ht
  · rw [mem_zero]; exact h.mem f
/-- A word's bits turn. -/
theorem PlF.put (h : PlF F W q top M g A c ws B) (hq : F q) (hl : ∀ b, F b → b < W.heap.size) {i x y b o : Nat} {M' : Nat → Prop} (hx : ws[i]? = some x) (hA : A = some ⟨b, o, none⟩) (hy : y < 18446744073709551616) (hM : ∀ f, M' f ↔ memW (ws.set i y) B f) :
    Turned (PlW q top M' ws.length B) F W (W.setCell ⟨b, o + i, none⟩ (.int .u64 (y : Nat))) := by
  have hi := (List.getElem?_eq_some_iff.1 hx).1
  obtain ⟨A0, c0, e1, hle, hm, h1, hg⟩ := h.row
  injection e1 with e1 e2 e3
  subst e1 e3 hA
  rcases hg with ⟨e, _⟩ | ⟨b0, o0, cs, hc, hgb, eA, hb, hoc, hcell⟩
  · rw [uv_len] at hle; omega
  · injection eA with eA
    cases eA
    have hbq : b ≠ q := fun e => h.ne_ (by rw [hgb, e])
    have ho : Only F W (W.setCell ⟨b, o + i, none⟩ (.int .u64 (y : Nat))) := (Only.refl F W).setCell (p := ⟨b, o + i, none⟩) (.inl (h.own b hgb)) _
    refine ⟨F, ⟨fun b hb => Nat.lt_of_lt_of_le (hl b hb) ho.size, hq, g, some ⟨b, o, none⟩, c, ws.set i y, ⟨?_, ?_, h.own, fun z hz => ?_, by rw [List.length_set]; exact h.top_, hM⟩, List.length_set⟩, ho, fun _ => .inl⟩
    · rw [List.length_set]
      exact h.blk.far (p := ⟨b, o + i, none⟩) (fun e => hbq e.symm) _
    · have hb2 : (W.setCell ⟨b, o + i, none⟩ (.int .u64 (y : Nat))).heap[b]? = some (.cells (cs.setIfInBounds (o + i) (.int .u64 (y : Nat))) 108 (0, 0)) := Blk.set_ (w := W) hb (o + i) (.int .u64 (y : Nat))
      rw [List.length_set]
      refine ⟨_, c, by rw [uv_len, List.length_set], by rw [uv_len, List.length_set]; rw [uv_len] at hle; exact hle, hm, fun u hu => ?_, .inr ⟨b, o, _, hc, hgb, rfl, hb2, by simpa using hoc, fun j u hu => ?_⟩⟩
      · obtain ⟨z, _, rfl⟩ := List.mem_map.1 hu; rfl
      · unfold uv at hu
        rw [List.getElem?_map, List.getElem?_set] at hu
        rw [Array.getElem?_setIfInBounds]
        by_cases hj : i = j
        · subst hj
          rw [if_pos rfl, if_pos hi] at hu
          rw [if_pos rfl, if_pos (by rw [uv_len] at hle; omega)]
          exact hu
        · rw [if_neg hj] at hu
          rw [if_neg (by omega)]
          exact hcell j u (by unfold uv; rw [List.getElem?_map]; exact hu)
    · rcases List.mem_or_eq_of_mem_set hz with k | rfl
      · exact h.word z k
      · exact hy
theorem PlF.at_ (h : PlF F W q top M g A c ws B) {i x : Nat} (hx : ws[i]? = some x) : ∃ b o, A = some ⟨b, o, none⟩ ∧ W.cell? ⟨b, o + i, none⟩ = some (.int .u64 (x : Nat)) ∧ W.frozen? ⟨b, o + i, none⟩ = false := by
  have hi := (List.getElem?_eq_some_iff.1 hx).1
  obtain ⟨A0, c0, e1, hle, hm, h1, hg⟩ := h.row
  injection e1 with e1 e2 e3
  subst e1 e3
  rcases hg with ⟨e, _⟩ | ⟨b0, o0, cs, hc, hgb, eA, hb, hoc, hcell⟩
  · rw [uv_len] at hle; omega
  · exact ⟨b0, o0, eA, (cell_of_row W b0 (o0 + i) cs 108 (0, 0) hb).trans (hcell i _ (by unfold uv; rw [List.getElem?_map, hx]; rfl)), Blk.frozen hb (o0 + i)⟩
theorem PlW.out (h : PlW q top M c B F W) : PlT q top M F W := by
  obtain ⟨hl, hq, g, A, d, ws, h, _⟩ := h
  exact ⟨hl, hq, g, A, d, ws, B, h⟩
end

set_option maxRecDepth 100000 in
set_option maxHeartbeats 4000000 in
theorem add_is {q top : Nat} {M : Nat → Prop} {F : Nat → Prop} {w : World} (h : PlT q top M F w) (p : Nat) (hp : top ≤ p) (hm : p ≤ 1099511627776) :
    Calls Tryd.prog 45 #[.pointer (some ⟨q, 0, none⟩), .int .i64 (p : Nat)] w fun e w' => e = .returned (.tuple #[]) ∧ Turned (PlT q p (fun f => M f ∨ f = p)) F w w' := by
  obtain ⟨i0, hi0, hz0, hz1, hz2⟩ := info_parts u64_info
  obtain ⟨hl, hq, g, A, c, ws, B, h⟩ := h
  have c0 : w.cell? ⟨q, 0, none⟩ = some (.slice A ws.length c) := h.blk.cell 0
  have c1 : w.cell? ⟨q, 1, none⟩ = some (.int .i64 (B : Nat)) := h.blk.cell 1
  have f1 := h.blk.frozen 1
  have ht := h.top_
  have HH := Lib.hid (And.intro hl (And.intro hq h))
  clear h hl hq
  by_cases h0 : ws.length = 0
  · have k0 : ((ws.length : Int) == 0) = true := by rw [h0]; rfl
    have hne := HH.out.2.2.ne_
    have T0' : Turned (PlW q p M ws.length p) F w (w.setCell ⟨q, 1, none⟩ (.int .i64 (p : Nat))) := by
      have h := HH.out.2.2
      have hw : ws = [] := List.eq_nil_of_length_eq_zero h0
      have ho : Only F w (w.setCell ⟨q, 1, none⟩ (.int .i64 (p : Nat))) := (Only.refl F w).setCell (p := ⟨q, 1, none⟩) (.inl HH.out.2.1) _
      refine ⟨F, ⟨fun b hb => Nat.lt_of_lt_of_le (HH.out.1 b hb) ho.size, HH.out.2.1, g, A, c, ws, ⟨?_, h.row.far (p := ⟨q, 1, none⟩) hne _, h.own, h.word, by omega, fun f => ?_⟩, rfl⟩, ho, fun _ => .inl⟩
      · have := h.blk.set_ 1 (.int .i64 (p : Nat))
        simpa using this
      · rw [h.mem f, hw]
        exact ⟨fun k => absurd k mem_nil, fun k => absurd k mem_nil⟩
    have c0' : (w.setCell ⟨q, 1, none⟩ (.int .i64 (p : Nat))).cell? ⟨q, 0, none⟩ = some (.slice A ws.length c) := (HH.out.2.2.blk.set_ 1 _).cell 0
    have c1' : (w.setCell ⟨q, 1, none⟩ (.int .i64 (p : Nat))).cell? ⟨q, 1, none⟩ = some (.int .i64 (p : Nat)) := (HH.out.2.2.blk.set_ 1 _).cell 1
    obtain ⟨B0, hB0⟩ : ∃ B0, B0 = p := ⟨_, rfl⟩
    have hBp : B0 ≤ p := by omega
    have hTB : B0 + 64 * ws.length ≤ p + 64 := by omega
    have T0'' : Hid (Turned (PlW q p M ws.length B0) F w (w.setCell ⟨q, 1, none⟩ (.int .i64 (p : Nat)))) := Lib.hid (by rw [hB0]; exact T0')
    replace c1' : (w.setCell ⟨q, 1, none⟩ (.int .i64 (p : Nat))).cell? ⟨q, 1, none⟩ = some (.int .i64 (B0 : Nat)) := by rw [hB0]; exact c1'
    have T0 := T0''
    clear T0' T0'' hB0 hne
    go_enter Tryd.func45, Tryd.ntmps45
    go_upto_region 2 with (fail)
    clear c0 c1 f1
    generalize w.setCell ⟨q, 1, none⟩ (.int .i64 (p : Nat)) = w2 at *
    have c0 := c0'
    have c1 := c1'
    clear c0' c1'
    obtain ⟨wd, hwd⟩ : ∃ wd : Nat, ((p : Int) - (B0 : Int)) / 64 = wd := ⟨(p - B0) / 64, by omega⟩
    obtain ⟨bt, hbt⟩ : ∃ bt : Nat, ((p : Int) - (B0 : Int)) % 64 = bt := ⟨(p - B0) % 64, by omega⟩
    have hw1 : wd = (p - B0) / 64 := by omega
    have hw2 : bt = (p - B0) % 64 := by omega
    have hw3 : wd ≤ 17179869184 := by omega
    have hw4 : bt < 64 := by omega
    have HW1 := Lib.hid (And.intro hw1 hw2)
    have hle : ws.length ≤ wd + 1 := by omega
    clear hw1 hw2
    go_wp2_with fail
    go_quiet (fail)
    simp only [hwd, hbt]
    have T1 := Lib.hid (T0.out.keep (plW_framed _ _ _ _ _) ⟨rfl, rfl, rfl, Nat.le_refl _, fun _ _ => rfl⟩ : Turned (PlW q p M ws.length B0) F w (w2.drewN nq))
    clear T0 c0 c1
    generalize World.drewN w2 _ = w3 at *
    have HB0 := Lib.hid (And.intro hBp (And.intro hwd hbt))
    clear hwd hbt hBp
    go_wp2_with fail
    go_loopw [] (fun wr => ∃ n : Nat, n ≤ wd + 1 ∧ Hid (Turned (PlW q p M n B0) F w wr)) (fun wr => match wr.cell? ⟨q, 0, none⟩ with | some (.slice _ n _) => wd + 1 - n | _ => 0)
    case atStart => exact ⟨ws.length, hle, T1⟩
    case round =>
      obtain ⟨n, hn, HT⟩ := hrel
      clear T1 hle
      obtain ⟨F1, ⟨hl1, hq1, g1, A1, d1, ws1, h1, rfl⟩, ho1, hF1⟩ := HT.out
      have c0 : wr.cell? ⟨q, 0, none⟩ = some (.slice A1 ws1.length d1) := h1.blk.cell 0
      have f0 := h1.blk.frozen 0
      have HH1 := Lib.hid (And.intro hl1 (And.intro hq1 (And.intro h1 (And.intro ho1 hF1))))
      by_cases hlt : ws1.length ≤ wd
      · have r1 : decide ((ws1.length : Int) ≤ (wd : Int)) = true := decide_eq_true (by omega)
        have hgq := h1.ne_
        have c0a : ∀ o, (wr.alloc o).cell? ⟨q, 0, none⟩ = some (.slice A1 ws1.length d1) := fun o => (h1.blk.alloc o).cell 0
        have HQ : Hid (∀ o (W' : World), (wr.alloc o).grownBy W' g1 → W'.frozen? ⟨q, 0, none⟩ = false ∧ (∃ v, W'.cell? ⟨q, 0, none⟩ = some v) ∧ Blk W' q 89 #[.slice A1 ws1.length d1, .int .i64 (B0 : Nat)]) := Lib.hid fun o W' hgr => by
          have := (h1.blk.alloc o).only (((Only.refl (fun b => g1 = some b) _).grown hgr (fun k hk => .inl hk))) hgq
          exact ⟨this.frozen 0, ⟨_, this.cell 0⟩, this⟩
        have LL : Hid ((uv ws1).length = ws1.length) := Lib.hid (uv_len ws1)
        clear hl1 hq1 h1 ho1 hF1 hgq
        go_wp2_with (at_builtin; refine wpList_append_row _ rfl (.tmp 41) (.tmp 42) _ rfl 108 i0 _ 8 Tryd.underlying87 hi0 hz0 hz1 hz2 rfl g1 _ (uv ws1) rfl (HH1.out.2.2.1.row.alloc _) _ [.int .u64 0] rfl (Rd.single wr 108 (.int .u64 0) rfl) (by rw [LL.out]; simp only [maxLen, List.length_singleton]; omega) (by rw [LL.out]; simp only [List.length_singleton]; omega) ?_; intro A' c' w7 gn hrow hgr hgn; rw [LL.out] at hrow ⊢; have Y := Lib.hid (And.intro hrow (And.intro hgr hgn)); obtain ⟨f7, ⟨v7, c7⟩, b7⟩ := HQ.out _ _ hgr; have B7 := Lib.hid b7; clear b7; clear hrow hgr hgn)
        go_roundw
        case rel =>
          obtain ⟨e1, e2⟩ := HW1.out
          refine ⟨ws1.length + 1, by omega, Lib.hid ?_⟩
          exact (HH1.out.2.2.1.grow HH1.out.2.1 HH1.out.1 (by have := HB0.out.1; omega) _ Y.out.1 Y.out.2.1 Y.out.2.2).then_p HH1.out.2.2.2.1 HH1.out.2.2.2.2
        case measure =>
          have e := (B7.out.set_ 0 (.slice A' (ws1.length + 1) c')).cell 0
          simp at e
          rw [e, c0]
          show wd + 1 - (ws1.length + 1) < wd + 1 - ws1.length
          omega
      · obtain ⟨x, hx⟩ : ∃ x, ws1[wd]? = some x := ⟨_, List.getElem?_eq_getElem (by omega)⟩
        have r1 : decide ((ws1.length : Int) ≤ (wd : Int)) = false := decide_eq_false (by omega)
        have r2 : (wd : Int) < (ws1.length : Int) := by omega
        obtain ⟨b, o, hA, cx, fx⟩ := h1.at_ hx
        subst hA
        have hx64 := h1.word x (List.mem_of_getElem? hx)
        have HX := Lib.hid hx
        clear hl1 hq1 h1 ho1 hF1 hx
        go_wp2_with fail
        go_region
        go_end0
        obtain ⟨e1, e2⟩ := HW1.out
        have hB := HB0.out.1
        obtain ⟨hl1, hq1, h1, ho1, hF1⟩ := HH1.out
        rw [or_key x bt hx64 hw4]
        refine ⟨rfl, ((((h1.put (M' := fun f => M f ∨ f = p) hq1 hl1 HX.out rfl (or_lt hx64 hw4) (fun f => ?_)).then_p ho1 hF1).imp fun _ h => h.out).keep (pl_framed _ _ _) ⟨rfl, rfl, rfl, Nat.le_refl _, fun _ _ => rfl⟩)⟩
        have hx2 := HX.out
        rw [e1] at hx2 ⊢
        rw [e2, mem_set hB hx2, ← h1.mem f]
  · have hBp : B ≤ p := by omega
    have k0 : ((ws.length : Int) == 0) = false := beq_eq_false_iff_ne.2 (by omega)
    obtain ⟨B0, hB0⟩ : ∃ B0, B0 = B := ⟨_, rfl⟩
    subst hB0
    have T0 : Hid (Turned (PlW q p M ws.length B0) F w w) := Lib.hid ⟨F, ⟨HH.out.1, HH.out.2.1, g, A, c, ws, { HH.out.2.2 with top_ := by omega }, rfl⟩, Only.refl F w, fun _ => .inl⟩
    go_enter Tryd.func45, Tryd.ntmps45
    obtain ⟨wd, hwd⟩ : ∃ wd : Nat, ((p : Int) - (B0 : Int)) / 64 = wd := ⟨(p - B0) / 64, by omega⟩
    obtain ⟨bt, hbt⟩ : ∃ bt : Nat, ((p : Int) - (B0 : Int)) % 64 = bt := ⟨(p - B0) % 64, by omega⟩
    have hw1 : wd = (p - B0) / 64 := by omega
    have hw2 : bt = (p - B0) % 64 := by omega
    have hw3 : wd ≤ 17179869184 := by omega
    have hw4 : bt < 64 := by omega
    have HW1 := Lib.hid (And.intro hw1 hw2)
    have hle : ws.length ≤ wd + 1 := by omega
    clear hw1 hw2
    go_wp2_with fail
    go_quiet (fail)
    simp only [hwd, hbt]
    have T1 := Lib.hid (T0.out.keep (plW_framed _ _ _ _ _) ⟨rfl, rfl, rfl, Nat.le_refl _, fun _ _ => rfl⟩ : Turned (PlW q p M ws.length B0) F w (w.drewN nq))
    clear T0 c0 c1
    generalize World.drewN w _ = w3 at *
    have HB0 := Lib.hid (And.intro hBp (And.intro hwd hbt))
    clear hwd hbt hBp
    go_wp2_with fail
    go_loopw [] (fun wr => ∃ n : Nat, n ≤ wd + 1 ∧ Hid (Turned (PlW q p M n B0) F w wr)) (fun wr => match wr.cell? ⟨q, 0, none⟩ with | some (.slice _ n _) => wd + 1 - n | _ => 0)
    case atStart => exact ⟨ws.length, hle, T1⟩
    case round =>
      obtain ⟨n, hn, HT⟩ := hrel
      clear T1 hle
      obtain ⟨F1, ⟨hl1, hq1, g1, A1, d1, ws1, h1, rfl⟩, ho1, hF1⟩ := HT.out
      have c0 : wr.cell? ⟨q, 0, none⟩ = some (.slice A1 ws1.length d1) := h1.blk.cell 0
      have f0 := h1.blk.frozen 0
      have HH1 := Lib.hid (And.intro hl1 (And.intro hq1 (And.intro h1 (And.intro ho1 hF1))))
      by_cases hlt : ws1.length ≤ wd
      · have r1 : decide ((ws1.length : Int) ≤ (wd : Int)) = true := decide_eq_true (by omega)
        have hgq := h1.ne_
        have c0a : ∀ o, (wr.alloc o).cell? ⟨q, 0, none⟩ = some (.slice A1 ws1.length d1) := fun o => (h1.blk.alloc o).cell 0
        have HQ : Hid (∀ o (W' : World), (wr.alloc o).grownBy W' g1 → W'.frozen? ⟨q, 0, none⟩ = false ∧ (∃ v, W'.cell? ⟨q, 0, none⟩ = some v) ∧ Blk W' q 89 #[.slice A1 ws1.length d1, .int .i64 (B0 : Nat)]) := Lib.hid fun o W' hgr => by
          have := (h1.blk.alloc o).only (((Only.refl (fun b => g1 = some b) _).grown hgr (fun k hk => .inl hk))) hgq
          exact ⟨this.frozen 0, ⟨_, this.cell 0⟩, this⟩
        have LL : Hid ((uv ws1).length = ws1.length) := Lib.hid (uv_len ws1)
        clear hl1 hq1 h1 ho1 hF1 hgq
        go_wp2_with (at_builtin; refine wpList_append_row _ rfl (.tmp 41) (.tmp 42) _ rfl 108 i0 _ 8 Tryd.underlying87 hi0 hz0 hz1 hz2 rfl g1 _ (uv ws1) rfl (HH1.out.2.2.1.row.alloc _) _ [.int .u64 0] rfl (Rd.single wr 108 (.int .u64 0) rfl) (by rw [LL.out]; simp only [maxLen, List.length_singleton]; omega) (by rw [LL.out]; simp only [List.length_singleton]; omega) ?_; intro A' c' w7 gn hrow hgr hgn; rw [LL.out] at hrow ⊢; have Y := Lib.hid (And.intro hrow (And.intro hgr hgn)); obtain ⟨f7, ⟨v7, c7⟩, b7⟩ := HQ.out _ _ hgr; have B7 := Lib.hid b7; clear b7; clear hrow hgr hgn)
        go_roundw
        case rel =>
          obtain ⟨e1, e2⟩ := HW1.out
          refine ⟨ws1.length + 1, by omega, Lib.hid ?_⟩
          exact (HH1.out.2.2.1.grow HH1.out.2.1 HH1.out.1 (by have := HB0.out.1; omega) _ Y.out.1 Y.out.2.1 Y.out.2.2).then_p HH1.out.2.2.2.1 HH1.out.2.2.2.2
        case measure =>
          have e := (B7.out.set_ 0 (.slice A' (ws1.length + 1) c')).cell 0
          simp at e
          rw [e, c0]
          show wd + 1 - (ws1.length + 1) < wd + 1 - ws1.length
          omega
      · obtain ⟨x, hx⟩ : ∃ x, ws1[wd]? = some x := ⟨_, List.getElem?_eq_getElem (by omega)⟩
        have r1 : decide ((ws1.length : Int) ≤ (wd : Int)) = false := decide_eq_false (by omega)
        have r2 : (wd : Int) < (ws1.length : Int) := by omega
        obtain ⟨b, o, hA, cx, fx⟩ := h1.at_ hx
        subst hA
        have hx64 := h1.word x (List.mem_of_getElem? hx)
        have HX := Lib.hid hx
        clear hl1 hq1 h1 ho1 hF1 hx
        go_wp2_with fail
        go_region
        go_end0
        obtain ⟨e1, e2⟩ := HW1.out
        have hB := HB0.out.1
        obtain ⟨hl1, hq1, h1, ho1, hF1⟩ := HH1.out
        rw [or_key x bt hx64 hw4]
        refine ⟨rfl, ((((h1.put (M' := fun f => M f ∨ f = p) hq1 hl1 HX.out rfl (or_lt hx64 hw4) (fun f => ?_)).then_p ho1 hF1).imp fun _ h => h.out).keep (pl_framed _ _ _) ⟨rfl, rfl, rfl, Nat.le_refl _, fun _ _ => rfl⟩)⟩
        have hx2 := HX.out
        rw [e1] at hx2 ⊢
        rw [e2, mem_set hB hx2, ← h1.mem f]
/-! ### The least place -/
theorem cut_key0 (x k : Nat) (hx : x < 18446744073709551616) : bits BinOp.andNot IntKind.u64 (x : Int) (IntKind.u64.wrap (IntKind.u64.wrap (2 ^ k) - 1)) = ((cutS x k : Nat) : Int) := by
  have e : IntKind.u64.wrap (IntKind.u64.wrap (2 ^ k) - 1) = ((maskS k : Nat) : Int) := by
    unfold maskS
    split
    · rename_i h
      have h0 : 0 < 2 ^ k := Nat.two_pow_pos k
      have hp := Nat.pow_lt_pow_right (a := 2) (by decide) h
      rw [pow_wrap k h]
      generalize 2 ^ k = m at *
      rw [IntKind.wrap_u64]
      omega
    · rename_i h
      obtain ⟨d, rfl⟩ : ∃ d, k = 64 + d := ⟨k - 64, by omega⟩
      have e2 : IntKind.u64.wrap ((2 : Int) ^ (64 + d)) = 0 := by
        rw [IntKind.wrap_u64, Int.pow_add]
        exact Int.mul_emod_right _ _
      rw [e2, IntKind.wrap_u64]
      rfl
  rw [e, u64_andNot_nat x _ hx (mask_lt k)]
  rfl
theorem cut_key (x k : Nat) (hx : x < 18446744073709551616) : bits BinOp.andNot IntKind.u64 (x : Int) (IntKind.u64.wrap (IntKind.u64.wrap (2 ^ min k 64) - 1)) = ((cutS x k : Nat) : Int) := by
  rw [cut_key0 x _ hx]
  unfold cutS maskS
  by_cases h : k < 64
  · rw [Nat.min_eq_left (by omega)]
  · rw [Nat.min_eq_right (by omega), if_neg (by omega), if_neg h]
section
variable {F : Nat → Prop} {W : World} {q top B c : Nat} {M : Nat → Prop} {g : Option Nat} {A : Option Addr} {ws : List Nat}
theorem Row.tail {e : TypeId} {b o n : Nat} {x : Value} {xs : List Value} (h : Row W e g (.slice (some ⟨b, o, none⟩) n c) (x :: xs)) : Row W e (if c = 1 then none else g) (.slice (if c = 1 then some ⟨b, o, none⟩ else some ⟨b, o + 1, none⟩) xs.length (c - 1)) xs := by
  obtain ⟨A0, c0, e1, hle, hm, h1, hg⟩ := h
  injection e1 with e1 e2 e3
  subst e1 e3
  rw [List.length_cons] at hle
  refine ⟨_, _, rfl, by omega, by omega, fun u hu => h1 u (by simp [hu]), ?_⟩
  by_cases h1c : c = 1
  · exact .inl ⟨by omega, by rw [if_pos h1c]⟩
  · rcases hg with ⟨e, _⟩ | ⟨b0, o0, cs, hc, hgb, eA, hb, hoc, hcell⟩
    · omega
    · injection eA with eA
      cases eA
      refine .inr ⟨b, o + 1, cs, by omega, by rw [if_neg h1c, hgb], by rw [if_neg h1c], hb, by omega, fun j u hu => ?_⟩
      have := hcell (j + 1) u (by simpa using hu)
      rwa [show o + 1 + j = o + (j + 1) by omega]
theorem PlF.tail {y : Nat} (h : PlF F W q top M g A c (y :: ws) B) (hq : F q) (hl : ∀ b, F b → b < W.heap.size) (hy : y = 0) :
    ∃ A' c', (∀ V, (Instr.slice 87 (.slice A (ws.length + 1) c) (some (.int .i64 1)) none none).run Tryd.prog V = .ok (.slice A' ws.length c') V) ∧
      Turned (PlW q top M ws.length (B + 64)) F W ((W.setCell ⟨q, 0, none⟩ (.slice A' ws.length c')).setCell ⟨q, 1, none⟩ (.int .i64 ((B + 64 : Nat) : Int))) := by
  subst hy
  obtain ⟨b, o, rfl, -, -⟩ := h.at_ (i := 0) rfl
  have hr := h.row.tail
  rw [show (List.map (fun n : Nat => Value.int .u64 (n : Nat)) ws).length = ws.length from List.length_map _] at hr
  refine ⟨(if c = 1 then some ⟨b, o, none⟩ else some ⟨b, o + 1, none⟩), c - 1, fun V => ?_, ?_⟩
  rotate_left
  · have hne := h.ne_
    have hgq : (if c = 1 then none else g) ≠ some q := by
      split
      · simp
      · exact hne
    have ho : Only F W ((W.setCell ⟨q, 0, none⟩ (.slice (if c = 1 then some ⟨b, o, none⟩ else some ⟨b, o + 1, none⟩) ws.length (c - 1))).setCell ⟨q, 1, none⟩ (.int .i64 ((B + 64 : Nat) : Int))) := ((Only.refl F W).setCell (p := ⟨q, 0, none⟩) (.inl hq) _).setCell (p := ⟨q, 1, none⟩) (.inl hq) _
    have htop := h.top_
    rw [List.length_cons] at htop
    refine ⟨F, ⟨fun b hb => Nat.lt_of_lt_of_le (hl b hb) ho.size, hq, _, _, c - 1, ws, ⟨?_, (hr.far (p := ⟨q, 0, none⟩) hgq _).far (p := ⟨q, 1, none⟩) hgq _, fun b e => ?_, fun x hx => h.word x (by simp [hx]), by omega, fun f => ?_⟩, rfl⟩, ho, fun _ => .inl⟩
    · have := (h.blk.set_ 0 (.slice (if c = 1 then some ⟨b, o, none⟩ else some ⟨b, o + 1, none⟩) ws.length (c - 1))).set_ 1 (.int .i64 ((B + 64 : Nat) : Int))
      simpa using this
    · split at e
      · cases e
      · exact h.own b e
    · rw [h.mem f, mem_tail]
  · have hle : ws.length + 1 ≤ c := by
      obtain ⟨_, _, e1, h2, _⟩ := h.row
      injection e1 with _ _ e3
      subst e3
      simpa [uv] using h2
    obtain ⟨i0, hi0, hz0, hz1, hz2⟩ := info_parts u64_info
    have hs : (sizeOf (Tryd.prog.elem 87)).run Tryd.prog V = .ok 1 V := by
      rw [show Tryd.prog.elem 87 = 108 by kernel_rfl]
      simp [sizeOf, typeInfo, hi0, hz1]
    rw [run_slice_l V 87 (some ⟨b, o, none⟩) (ws.length + 1) c (by kernel_rfl) .i64 1 (by omega) (by omega), hs]
    simp only [Result.andThen, sliced]
    by_cases h1c : c = 1
    · simp [h1c]
    · simp [h1c, Addr.add]
end

set_option maxRecDepth 100000 in
set_option maxHeartbeats 4000000 in
theorem least_is {q top : Nat} {M : Nat → Prop} {F : Nat → Prop} {w : World} (h : PlT q top M F w) (hT : Tz w) (hF : ¬ F 0) (z : Int) (hz : -1099511627776 ≤ z ∧ z ≤ 1099511627776) (hm : top ≤ 1099511627776) :
    Calls Tryd.prog 46 #[.pointer (some ⟨q, 0, none⟩), .int .i64 z] w fun e w' => ∃ (k : Option Nat) (M' : Nat → Prop), e = .returned (.tuple #[.int .i64 (k.getD 0 : Nat), .bool k.isSome]) ∧ Turned (PlT q top M') F w w' ∧
      (∀ f, k = some f → M f ∧ z ≤ f ∧ ∀ j : Nat, j < f → z ≤ j → ¬ M j) ∧ (k = none → ∀ j : Nat, z ≤ j → ¬ M j) ∧ (∀ j : Nat, z ≤ j → (M' j ↔ M j)) := by
  obtain ⟨hl, hq, g, A, c, ws, B, h⟩ := h
  have T0 : Hid (Turned (PlW q top M ws.length B) F w w) := Lib.hid ⟨F, ⟨hl, hq, g, A, c, ws, h, rfl⟩, Only.refl F w, fun _ => .inl⟩
  have hTz := Lib.hid (And.intro hT hF)
  have hB : B + 64 * ws.length ≤ top + 64 := h.top_
  clear h hl hq hT hF
  go_enter Tryd.func46, Tryd.ntmps46
  go_wp2_with fail
  go_loopw [] (fun wr => ∃ (n B : Nat) (M1 : Nat → Prop), B + 64 * n ≤ top + 64 ∧ Hid (Turned (PlW q top M1 n B) F w wr) ∧ Hid (∀ j : Nat, z ≤ j → (M1 j ↔ M j))) (fun wr => match wr.cell? ⟨q, 0, none⟩ with | some (.slice _ n _) => n | _ => 0)
  case atStart => exact ⟨ws.length, B, M, hB, T0, Lib.hid fun _ _ => Iff.rfl⟩
  case round =>
    obtain ⟨n, B, M1, hBn, HT, HM1⟩ := hrel
    clear T0 hB
    obtain ⟨F1, ⟨hl1, hq1, g1, A1, d1, ws1, h1, rfl⟩, ho1, hF1⟩ := HT.out
    have c0 : wr.cell? ⟨q, 0, none⟩ = some (.slice A1 ws1.length d1) := h1.blk.cell 0
    have c1 : wr.cell? ⟨q, 1, none⟩ = some (.int .i64 (B : Nat)) := h1.blk.cell 1
    have hTr : Tz wr := hTz.out.1.only ho1 hTz.out.2
    cases ws1 with
    | nil =>
      rw [List.length_nil] at c0
      have HE := Lib.hid (And.intro HT.out h1.mem)
      clear h1 hl1 hq1 ho1 hF1
      go_wp2_with fail
      go_ret2
      refine ⟨none, M1, rfl, HE.out.1.imp fun _ h => h.out, (fun f e => by cases e), fun _ j hj hM => ?_, HM1.out⟩
      exact mem_nil ((HE.out.2 j).1 ((HM1.out j hj).2 hM))
    | cons x ws =>
      rw [List.length_cons] at c0 hBn
      obtain ⟨b, o, hA, cx, fx⟩ := h1.at_ (i := 0) rfl
      subst hA
      rw [Nat.add_zero] at cx fx
      have hx64 := h1.word x (by simp)
      have r0 : decide ((0 : Int) < ((ws.length + 1 : Nat) : Int)) = true := decide_eq_true (by omega)
      have r0b : decide ((0 : Int) < (ws.length : Int) + 1) = true := decide_eq_true (by omega)
      by_cases hzB : (B : Int) < z
      · obtain ⟨k, hk⟩ : ∃ k : Nat, z - (B : Int) = k := ⟨(z - B).toNat, by omega⟩
        have hk0 : 1 ≤ k := by omega
        have r1 : decide ((B : Int) < z) = true := decide_eq_true hzB
        obtain ⟨y, hy⟩ : ∃ y, y = cutS x k := ⟨_, rfl⟩
        have hy64 : y < 18446744073709551616 := by rw [hy]; exact cut_lt hx64 k
        have hput := h1.put (M' := fun f => memW (y :: ws) B f) hq1 hl1 (i := 0) (x := x) (y := y) rfl rfl hy64 (fun f => Iff.rfl)
        rw [Nat.add_zero] at hput
        have key := cut_key x k hx64
        rw [← hy] at key
        have HP := Lib.hid (And.intro hl1 (And.intro hq1 (And.intro h1 (And.intro ho1 hF1))))
        have KY := Lib.hid key
        have HPUT := Lib.hid hput
        have kz0 : (z - (B : Int)).toNat = k := by omega
        clear h1 hl1 hq1 ho1 hF1 key hput
        have hyh := Lib.hid hy
        clear hy
        go_wp2_with fail
        go_region
        simp only [KY.out]
        have T2 := Lib.hid ((HPUT.out.then_p HP.out.2.2.2.1 HP.out.2.2.2.2).keep (plW_framed _ _ _ _ _) ⟨rfl, rfl, rfl, Nat.le_refl _, fun _ _ => rfl⟩ : Turned (PlW q top (fun f => memW (y :: ws) B f) (x :: ws).length B) F w (wr.setCell ⟨b, o, none⟩ (.int .u64 (y : Nat))).drew)
        have HMO := Lib.hid HP.out.2.2.1.mem
        generalize (wr.setCell ⟨b, o, none⟩ (.int .u64 (y : Nat))).drew = w2 at *
        have CW := Lib.hid c0
        clear c0 c1 cx fx HP HPUT hTr KY HT
        obtain ⟨F2, ⟨hl2, hq2, g2, A2, d2, ws2, h2, hn2⟩, ho2, hF2⟩ := T2.out
        rw [List.length_cons] at hn2
        obtain ⟨y2, ws3, rfl⟩ : ∃ y2 ws3, ws2 = y2 :: ws3 := by
          cases ws2 with
          | nil => simp at hn2
          | cons a l => exact ⟨a, l, rfl⟩
        have c0 : w2.cell? ⟨q, 0, none⟩ = some (.slice A2 (ws3.length + 1) d2) := h2.blk.cell 0
        have c1 : w2.cell? ⟨q, 1, none⟩ = some (.int .i64 (B : Nat)) := h2.blk.cell 1
        obtain ⟨b2, o2, hA2, cx, fx⟩ := h2.at_ (i := 0) rfl
        subst hA2
        rw [Nat.add_zero] at cx fx
        have hTr : Tz w2 := hTz.out.1.only ho2 hTz.out.2
        have PL := Lib.hid (And.intro hl2 (And.intro hq2 (And.intro h2 (And.intro ho2 hF2))))
        have PL2 := Lib.hid hTr
        have PL3 := T2
        have HY := Lib.hid (h2.word y2 (by simp))
        have HYX := hyh
        have HM2 : Hid (∀ j : Nat, z ≤ j → (memW (y :: ws) B j ↔ M j)) := Lib.hid fun j hj => by
          rw [← HM1.out j hj, HMO.out j, HYX.out, mem_cut]
          exact ⟨fun h => h.1, fun h => ⟨h, .inl (by omega)⟩⟩
        have HG : Hid (∀ j : Nat, memW (y :: ws) B j → j < B + 64 → z ≤ j) := Lib.hid fun j hj hlt => by
          rw [HYX.out, mem_cut] at hj
          have := hj.2
          omega
        have hl3 : ws3.length = ws.length := by rw [List.length_cons] at hn2; omega
        have r0 : decide ((0 : Int) < ((ws3.length + 1 : Nat) : Int)) = true := decide_eq_true (by omega)
        have r0b : decide ((0 : Int) < (ws3.length : Int) + 1) = true := decide_eq_true (by omega)
        have HL3 := Lib.hid hl3
        have hBn3 : B + 64 * (ws3.length + 1) ≤ top + 64 := by omega
        obtain ⟨M2, hMM⟩ : ∃ M2, M2 = fun f => memW (y :: ws) B f := ⟨_, rfl⟩
        change Hid (Turned (PlW q top (fun f => memW (y :: ws) B f) _ B) F w w2) at PL3
        rw [← hMM] at PL PL3
        replace HM2 : Hid (∀ j : Nat, z ≤ j → (M2 j ↔ M j)) := Lib.hid (by rw [hMM]; exact HM2.out)
        replace HG : Hid (∀ j : Nat, M2 j → j < B + 64 → z ≤ j) := Lib.hid (by rw [hMM]; exact HG.out)
        clear h2 hl2 hq2 ho2 hF2 hTr hMM HYX HM1 HMO hTz T2 hn2 hl3 hy64 hx64
        by_cases hy20 : y2 = 0
        · have ky : ((y2 : Int) != 0) = false := by rw [hy20]; rfl
          obtain ⟨A', c', hsl, ht⟩ := PL.out.2.2.1.tail PL.out.2.1 PL.out.1 hy20
          have T3 := Lib.hid (ht.then_p PL.out.2.2.2.1 PL.out.2.2.2.2)
          have q1 : B + 64 ≤ 2199023255552 := by omega
          rw [show ((B + 64 : Nat) : Int) = (B : Int) + 64 by omega] at T3
          have c1b : (w2.setCell ⟨q, 0, none⟩ (.slice A' ws3.length c')).cell? ⟨q, 1, none⟩ = some (.int .i64 (B : Nat)) := (PL.out.2.2.1.blk.set_ 0 _).cell 1
          have f0b := PL.out.2.2.1.blk.frozen 0
          have f1b : (w2.setCell ⟨q, 0, none⟩ (.slice A' ws3.length c')).frozen? ⟨q, 1, none⟩ = false := (PL.out.2.2.1.blk.set_ 0 _).frozen 1
          clear ht
          go_wp2_with fail
          go_roundw
          case rel => exact ⟨ws3.length, B + 64, M2, by omega, Lib.hid (by have := T3.out; exact this.keep (plW_framed _ _ _ _ _) ⟨rfl, rfl, rfl, Nat.le_refl _, fun _ _ => rfl⟩), HM2⟩
          case measure =>
            have e := ((PL.out.2.2.1.blk.set_ 0 (.slice A' ws3.length c')).set_ 1 (.int .i64 ((B : Int) + 64))).cell 0
            simp at e
            rw [e, CW.out]
            show ws3.length < ws.length + 1
            have := HL3.out; omega
        · have ky : ((y2 : Int) != 0) = true := by simpa using hy20
          have HTZ : Hid (∀ n, Calls Tryd.prog 58 #[.int .u64 (y2 : Nat)] (w2.drewN n) fun e w' => e = .returned (.int .i64 (Lib.ctz 64 y2 : Nat)) ∧ ∃ m, w' = w2.drewN m) := Lib.hid fun n => (tz_is y2 HY.out hy20 (w2.drewN n) (PL2.out.below ⟨rfl, rfl, rfl, Nat.le_refl _, fun _ _ => rfl⟩)).mono fun e w' h => ⟨h.1, n, h.2.symm⟩
          obtain ⟨kz, hkz⟩ : ∃ kz, Lib.ctz 64 y2 = kz := ⟨_, rfl⟩
          have hk64 : kz < 64 := by rw [← hkz]; exact (low_bit hy20 HY.out).1
          rw [hkz] at HTZ
          have HF := Lib.hid (mem_first (ws := ws3) (B := B) hy20 HY.out)
          rw [hkz] at HF
          clear hkz hy20
          go_wp2_with fail
          go_quiet ((go_at_call 58; exact HTZ.out _))
          go_wp2_with fail
          go_ret2
          have hTW := PL.out.2.2.1
          have hMk := fun j => hTW.mem j
          refine ⟨some (B + kz), M2, rfl, ?_, (fun f e => ?_), (fun e => by cases e), HM2.out⟩
          · exact ((PL3.out.imp fun _ h => h.out).keep (pl_framed _ _ _) ⟨rfl, rfl, rfl, Nat.le_refl _, fun _ _ => rfl⟩)
          · cases e
            obtain ⟨k1, k2⟩ := HF.out
            have hge : z ≤ ((B + kz : Nat) : Int) := HG.out _ ((hMk _).2 k1) (by omega)
            refine ⟨(HM2.out _ hge).1 ((hMk _).2 k1), hge, fun j hj hzj hMj => ?_⟩
            have := k2 j ((hMk j).1 ((HM2.out j hzj).2 hMj))
            omega
      · obtain ⟨y, hy⟩ : ∃ y, y = x := ⟨_, rfl⟩
        subst hy
        have PL := Lib.hid (And.intro hl1 (And.intro hq1 (And.intro h1 (And.intro ho1 hF1))))
        have PL2 := Lib.hid hTr
        have CW := Lib.hid c0
        have PL3 := HT
        have HG : Hid (∀ j : Nat, M1 j → j < B + 64 → z ≤ j) := Lib.hid fun j hj _ => by have := ((h1.mem j).1 hj).1; omega
        have HY := Lib.hid hx64
        obtain ⟨M2, hM2⟩ : ∃ M2, M2 = M1 := ⟨_, rfl⟩
        subst hM2
        have HM2 := HM1
        have r1 : decide ((B : Int) < z) = false := decide_eq_false hzB
        clear h1 hl1 hq1 ho1 hF1 hTr hx64 HM1 HT hTz
        by_cases hy0 : y = 0
        · have ky : ((y : Int) != 0) = false := by rw [hy0]; rfl
          obtain ⟨A', c', hsl, ht⟩ := PL.out.2.2.1.tail PL.out.2.1 PL.out.1 hy0
          have T3 := Lib.hid (ht.then_p PL.out.2.2.2.1 PL.out.2.2.2.2)
          have q1 : B + 64 ≤ 2199023255552 := by omega
          rw [show ((B + 64 : Nat) : Int) = (B : Int) + 64 by omega] at T3
          have c1b : (wr.setCell ⟨q, 0, none⟩ (.slice A' ws.length c')).cell? ⟨q, 1, none⟩ = some (.int .i64 (B : Nat)) := (PL.out.2.2.1.blk.set_ 0 _).cell 1
          have f0b := PL.out.2.2.1.blk.frozen 0
          have f1b : (wr.setCell ⟨q, 0, none⟩ (.slice A' ws.length c')).frozen? ⟨q, 1, none⟩ = false := (PL.out.2.2.1.blk.set_ 0 _).frozen 1
          clear ht
          go_wp2_with fail
          go_roundw
          case rel => exact ⟨ws.length, B + 64, M2, by omega, Lib.hid (by have := T3.out; exact this.keep (plW_framed _ _ _ _ _) ⟨rfl, rfl, rfl, Nat.le_refl _, fun _ _ => rfl⟩), HM2⟩
          case measure =>
            have e := ((PL.out.2.2.1.blk.set_ 0 (.slice A' ws.length c')).set_ 1 (.int .i64 ((B : Int) + 64))).cell 0
            simp at e
            rw [e, CW.out]
            show ws.length < ws.length + 1
            omega
        · have ky : ((y : Int) != 0) = true := by simpa using hy0
          have HTZ : Hid (∀ n, Calls Tryd.prog 58 #[.int .u64 (y : Nat)] (wr.drewN n) fun e w' => e = .returned (.int .i64 (Lib.ctz 64 y : Nat)) ∧ ∃ m, w' = wr.drewN m) := Lib.hid fun n => (tz_is y HY.out hy0 (wr.drewN n) (PL2.out.below ⟨rfl, rfl, rfl, Nat.le_refl _, fun _ _ => rfl⟩)).mono fun e w' h => ⟨h.1, n, h.2.symm⟩
          obtain ⟨kz, hkz⟩ : ∃ kz, Lib.ctz 64 y = kz := ⟨_, rfl⟩
          have hk64 : kz < 64 := by rw [← hkz]; exact (low_bit hy0 HY.out).1
          rw [hkz] at HTZ
          have HF := Lib.hid (mem_first (ws := ws) (B := B) hy0 HY.out)
          rw [hkz] at HF
          clear hkz hy0
          go_wp2_with fail
          go_quiet ((go_at_call 58; exact HTZ.out _))
          go_wp2_with fail
          go_ret2
          have hTW := PL.out.2.2.1
          have hMk := fun j => hTW.mem j
          refine ⟨some (B + kz), M2, rfl, ?_, (fun f e => ?_), (fun e => by cases e), HM2.out⟩
          · exact ((PL3.out.imp fun _ h => h.out).keep (pl_framed _ _ _) ⟨rfl, rfl, rfl, Nat.le_refl _, fun _ _ => rfl⟩)
          · cases e
            obtain ⟨k1, k2⟩ := HF.out
            have hge : z ≤ ((B + kz : Nat) : Int) := HG.out _ ((hMk _).2 k1) (by omega)
            refine ⟨(HM2.out _ hge).1 ((hMk _).2 k1), hge, fun j hj hzj hMj => ?_⟩
            have := k2 j ((hMk j).1 ((HM2.out j hzj).2 hMj))
            omega
end Go.Proofs.YtcipljpalohjiaaDoor
