/-
  What a relay is in memory (Rly), and a line (Ln); what reading a line leaves of its blocks (PRead_own).
  Conditions: none but that both were made by New.
-/
import Derived.Test.YtfmmomdfmmoklaaDoorSep
import Derived.Test.YtfmmomdfmmoklaaDoorSys
import Derived.Test.YtfmmomdfmmoklaaDoorClone
import Derived.Test.YtfmmomdfmmoklaaDoorEvSame
namespace Go.Proofs.YtfmmomdfmmoklaaDoor
open Go.RowKit

/-- One way has turned, in the same blocks. -/
theorem Both.turn0 {F : Nat → Prop} {w w' : World} {p room : Nat} {f : Nat → Way} {q : Nat → Nat} {g : Nat → Option Nat} (h : PAt F w p room f) (hB : Both w p room f q g) (hF : F p ∧ ∀ s, s < 2 → F (q s) ∧ ∀ b, g s = some b → F b) {s : Nat} (hs : s < 2) {y : Way} {g' : Option Nat} (hy : y.xs.length ≤ room)
    (hq : QAt w' (q s) g' room y.en (bv y.xs)) (ho : Only (fun b => b = q s ∨ some b = g s) w w') (hg : g' = g s ∨ g' = none) : PAt F w' p room (upd f s y) ∧ Only F w w' := by
  have hoF : Only F w w' := ho.mono (by
    rintro i _ (rfl | e)
    · exact (hF.2 s hs).1
    · exact (hF.2 s hs).2 i e.symm)
  have hne : ∀ k, k < 2 → k ≠ s → q k ≠ q s ∧ (∀ b, g k = some b → g s ≠ some b) := by
    intro k hk hks
    rcases two_ne hs hk hks with ⟨rfl, rfl⟩ | ⟨rfl, rfl⟩
    · exact ⟨Ne.symm hB.ne_, fun b e1 e2 => hB.apart b e2 e1⟩
    · exact ⟨hB.ne_, hB.apart⟩
  have hsz := ho.size
  refine ⟨⟨⟨q, fun k => if k = s then g' else g k, ⟨?_, ?_, hB.ne_, ?_⟩, hF.1, ?_⟩, fun b hb => Nat.lt_of_lt_of_le (h.lt b hb) hsz, h.room_le, ?_⟩, hoF⟩
  · refine hB.blk.only ho ?_
    rintro (e | e)
    · obtain ⟨v, hb, _⟩ := hB.que s hs
      exact hB.blk.ne_ hb (by decide) e
    · obtain ⟨v, _, hr⟩ := hB.que s hs
      exact hr.ne_ hB.blk (by decide) e.symm
  · intro k hk
    by_cases hks : k = s
    · subst hks; simp only [upd_at, if_pos]; exact hq
    · rw [upd_far _ _ hks]
      simp only [if_neg hks]
      obtain ⟨n1, n2⟩ := hne k hk hks
      refine (hB.que k hk).only ho ?_ ?_
      · rintro (e | e)
        · exact n1 e
        · obtain ⟨v, hb, _⟩ := hB.que k hk
          obtain ⟨v', _, hr⟩ := hB.que s hs
          exact hr.ne_ hb (by decide) e.symm
      · rintro b e (rfl | e')
        · obtain ⟨v, _, hr⟩ := hB.que k hk
          obtain ⟨v', hb, _⟩ := hB.que s hs
          exact hr.ne_ hb (by decide) e
        · exact n2 b e e'.symm
  · have key : ∀ k, k < 2 → k ≠ s → ∀ b, g' = some b → g k ≠ some b := by
      intro k hk hks b e e2
      rcases hg with rfl | rfl
      · exact (hne k hk hks).2 b e2 e
      · cases e
    intro b e e2
    rcases (show s = 0 ∨ s = 1 by omega) with rfl | rfl
    · simp at e e2; exact key 1 (by omega) (by omega) b e e2
    · simp at e e2; exact key 0 (by omega) (by omega) b e2 e
  · intro k hk
    refine ⟨(hF.2 k hk).1, fun b e => ?_⟩
    by_cases hks : k = s
    · subst hks
      simp only [if_pos] at e
      rcases hg with rfl | rfl
      · exact (hF.2 k hk).2 b e
      · cases e
    · simp only [if_neg hks] at e
      exact (hF.2 k hk).2 b e
  · intro k hk
    by_cases hks : k = s
    · subst hks; rw [upd_at]; exact hy
    · rw [upd_far _ _ hks]; exact h.le k hk

/-- Read: the first n that wait, in memory of their own; the others wait, in the same blocks. -/
theorem PRead_own {F : Nat → Prop} {w : World} {p room : Nat} {f : Nat → Way} (h : PAt F w p room f) (ho : Oth w) (s : Nat) (hs : s < 2) (n : Int) :
    Calls Tryd.prog 32 #[.pointer (some ⟨p, 0, none⟩), .int .i64 s, .int .i64 n] w fun e w' => ∃ A c gt, e = .returned (.slice A ((f (1 - s)).xs.take n.toNat).length c) ∧ Row w' 5 gt (.slice A ((f (1 - s)).xs.take n.toNat).length c) (bv ((f (1 - s)).xs.take n.toNat)) ∧ (∀ b, gt = some b → w.heap.size ≤ b) ∧ PAt F w' p room (upd f (1 - s) ⟨(f (1 - s)).en, (f (1 - s)).xs.drop n.toNat⟩) ∧ Only F w w' := by
  obtain ⟨q, g, hB, hF⟩ := id h.ex
  have ht : 1 - s < 2 := by omega
  have hle := h.le (1 - s) ht
  have hput := Take_at (hB.que (1 - s) ht) (by rw [bv_len]; have := h.room_le; omega) n
  rw [bv_take, bv_drop] at hput
  have HP := Lib.hid hput
  have HF := Lib.hid (to_at hB.blk ho s hs)
  have H := Lib.hid (And.intro h (And.intro hB hF))
  have HL : Hid ((Way.mk (f (1 - s)).en ((f (1 - s)).xs.drop n.toNat)).xs.length ≤ room) := by
    show ((f (1 - s)).xs.drop n.toNat).length ≤ room
    rw [List.length_drop]; omega
  clear h hB hF hput hle ho hs
  generalize 1 - s = k at *
  go_enter Tryd.func32, Tryd.ntmps32
  go_wp2_with (first
    | (go_at_call 38; refine HF.out.mono ?_; rintro e w' ⟨rfl, rfl⟩)
    | (go_at_call 48; refine HP.out.mono ?_; rintro e w1 ⟨v1, gt, g1, rfl, hrow, hq, ho, hf, hg⟩; have X := Lib.hid (And.intro hq (And.intro ho (And.intro hg (And.intro hrow hf)))); clear hq ho hg hrow hf))
  go_ret
  obtain ⟨h, hB, hF⟩ := H.out
  obtain ⟨hq, ho, hg, hrow, hf⟩ := X.out
  obtain ⟨A, c, rfl⟩ := hrow.form
  rw [bv_len] at hrow ⊢
  exact ⟨A, c, gt, rfl, hrow, hf, hB.turn0 h hF ht HL.out hq ho hg⟩

/-- A line. -/
def Ln (p rm : Nat) (f : Nat → Way) : Thing := fun F w => PAt F w p rm f
theorem Ln.framed (p rm : Nat) (f : Nat → Way) : Framed (Ln p rm f) := ⟨fun h ho hd => PAt.only h ho hd, fun h => h.lt⟩

/-- Blocks of bytes among those of F. -/
def Byts (F : Nat → Prop) (W : World) : Nat → Prop := fun b => (fun _ => False) b ∨ (F b ∧ ∃ cs, W.heap[b]? = some (.cells cs 5 (0, 0)))

/-- The relay's struct. -/
def relCells (L : Nat → Nat) (A : Nat → Option Addr) (c : Nat → Nat) (x : Sys) (q : Nat) (v : Value) : Array Value :=
  #[.pointer (some ⟨L 0, 0, none⟩), .int .i64 0, .pointer (some ⟨L 1, 0, none⟩), .int .i64 1, .slice (A 0) (x.ws 0).length (c 0), .bool (x.ov 0),
    .pointer (some ⟨L 1, 0, none⟩), .int .i64 1, .pointer (some ⟨L 0, 0, none⟩), .int .i64 0, .slice (A 1) (x.ws 1).length (c 1), .bool (x.ov 1),
    .pointer (some ⟨q, 0, none⟩), v, .int .i64 (whole x.ev : Nat)]

structure RlyF (L : Nat → Nat) (r : Nat) (x : Sys) (A : Nat → Option Addr) (c : Nat → Nat) (q : Nat) (g : Option Nat) (v : Value) (l : List Ev) (F : Nat → Prop) (w : World) : Prop where
  blk : Blk w r 84 (relCells L A c x q v)
  clk : CAt w q x.ck
  el : EL (fun _ => False) F w g v l
  pe : pes l = x.ev
  wt : ∀ d, d < 2 → EvOk (Byts F w) w ⟨0, 0, A d, c d, x.ws d⟩
  fr : F r
  fq : F q
  lt : ∀ b, F b → b < w.heap.size
/-- A relay: its lines lie at L 0 (the child's), L 1 (the user's). -/
def Rly (L : Nat → Nat) (r : Nat) (x : Sys) : Thing := fun F w => ∃ A c q g v l, RlyF L r x A c q g v l F w

section
variable {L : Nat → Nat} {r q : Nat} {x : Sys} {A : Nat → Option Addr} {c : Nat → Nat} {g : Option Nat} {v : Value} {l : List Ev} {F F' S : Nat → Prop} {w w' : World}
theorem EL.grow (h : EL (fun _ => False) F w g v l) (hF : ∀ b, b < w.heap.size → F b → F' b) : EL (fun _ => False) F' w g v l :=
  ⟨h.row, fun b e => ⟨hF b (h.row.lt e) (h.fresh b e).1, id⟩, fun a ha => (h.ok a ha).mono fun b hlt hb => hb.imp id fun k => ⟨hF b hlt k.1, k.2⟩⟩
theorem Byts.grow {a : Ev} (h : EvOk (Byts F w) w a) (hF : ∀ b, b < w.heap.size → F b → F' b) : EvOk (Byts F' w) w a := h.mono fun b hlt hb => hb.imp id fun k => ⟨hF b hlt k.1, k.2⟩
/-- What hangs on blocks of bytes is as it was. -/
theorem Byts.keep {a : Ev} (h : EvOk (Byts F w) w a) (hk : ∀ b, b < w.heap.size → F b → (∃ cs, w.heap[b]? = some (.cells cs 5 (0, 0))) → w'.heap[b]? = w.heap[b]?) : EvOk (Byts F w') w' a :=
  EvOk.tkeep (D := fun _ => False) (T := F) h fun b hb hlt => hb.elim (fun e => e.elim) fun k => hk b hlt k.1 k.2
theorem RlyF.only (h : RlyF L r x A c q g v l F w) (ho : Only S w w') (hd : ∀ b, F b → ¬ S b) : RlyF L r x A c q g v l F w' :=
  ⟨h.blk.only ho (hd r h.fr), h.clk.only ho (hd q h.fq), h.el.keep fun b hlt hb => ho.block b hlt (hd b (hb.elim (fun e => e.elim) (fun k => k.1))), h.pe,
    fun d hd' => Byts.keep (h.wt d hd') fun b hlt hF _ => ho.block b hlt (hd b hF), h.fr, h.fq, fun b hb => Nat.lt_of_lt_of_le (h.lt b hb) ho.size⟩
theorem Rly.framed (L : Nat → Nat) (r : Nat) (x : Sys) : Framed (Rly L r x) :=
  ⟨fun ⟨A, c, q, g, v, l, h⟩ ho hd => ⟨A, c, q, g, v, l, h.only ho hd⟩, fun ⟨_, _, _, _, _, _, h⟩ => h.lt⟩
theorem RlyF.ne_q (h : RlyF L r x A c q g v l F w) : r ≠ q := h.blk.ne_ (t' := 106) h.clk (by decide)
theorem RlyF.g_r (h : RlyF L r x A c q g v l F w) : g ≠ some r := h.el.row.ne_ h.blk (by decide)
theorem RlyF.g_q (h : RlyF L r x A c q g v l F w) : g ≠ some q := h.el.row.ne_ (t := 106) h.clk (by decide)
theorem byte_ne {b b' : Nat} {t : TypeId} {cs cs' : Array Value} (h : w.heap[b]? = some (.cells cs 5 (0, 0))) (h' : Blk w b' t cs') (ht : t ≠ 5) : b ≠ b' := by
  rintro rfl
  unfold Blk at h'
  rw [h] at h'
  injection h' with h'
  injection h' with _ e
  exact ht e.symm
theorem EL.farR {T : Nat → Prop} {u : Value} {q : Nat} {t : TypeId} {cs : Array Value} (h : EL (fun _ => False) T w g u l) (hq : Blk w q t cs) (h1 : t ≠ 5) (h2 : t ≠ 69) (hk : ∀ b, b < w.heap.size → b ≠ q → w'.heap[b]? = w.heap[b]?) : EL (fun _ => False) T w' g u l := by
  refine h.keep fun b hlt hb => hk b hlt fun e => ?_
  rcases hb with hb | ⟨_, cs', t', ht, hc⟩
  · exact hb
  · unfold Blk at hq
    rw [e, hq] at hc
    injection hc with hc
    injection hc with _ hc
    rcases ht with ht | ht
    · exact h1 (hc.trans ht)
    · exact h2 (hc.trans ht)
/-- Stores into the relay's struct. -/
theorem RlyF.store {x' : Sys} {A' : Nat → Option Addr} {c' : Nat → Nat} (h : RlyF L r x A c q g v l F w) (ho : Only (fun b => b = r) w w') (hb : Blk w' r 84 (relCells L A' c' x' q v)) (h1 : x'.ck = x.ck) (h2 : x'.ev = x.ev) (hF : ∀ b, F b → F' b) (hlt : ∀ b, F' b → b < w'.heap.size)
    (hw : ∀ d, d < 2 → (A' d = A d ∧ c' d = c d ∧ x'.ws d = x.ws d) ∨ EvOk (Byts F' w') w' ⟨0, 0, A' d, c' d, x'.ws d⟩) : RlyF L r x' A' c' q g v l F' w' := by
  refine ⟨hb, by rw [h1]; exact h.clk.only ho (Ne.symm h.ne_q), (h.el.farR h.blk (by decide) (by decide) fun b hlt hne => ho.block b hlt hne).grow (fun b _ => hF b), by rw [h2]; exact h.pe, fun d hd => ?_, hF r h.fr, hF q h.fq, hlt⟩
  rcases hw d hd with ⟨e1, e2, e3⟩ | k
  · rw [e1, e2, e3]
    exact Byts.grow (Byts.keep (h.wt d hd) fun b hlt _ ⟨cs, hc⟩ => ho.block b hlt (byte_ne hc h.blk (by decide))) (fun b _ => hF b)
  · exact k
end
end Go.Proofs.YtfmmomdfmmoklaaDoor
