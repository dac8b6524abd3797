/-
  The document's relay in memory (DSys), what its calls leave of it, and both worlds side by side.
  Conditions: those of each theorem.
-/
import Derived.Test.YtfmmomdfmmoklaaDoorPDoc
import Derived.Test.YtfmmomdfmmoklaaDoorRlyWr
import Derived.Test.YtfmmomdfmmoklaaDoorEvRef
import Derived.Test.YtfmmomdfmmoklaaDoorTimes
import Derived.Test.YtfmmomdfmmoklaaDoorUptoLast
import Derived.Deep.DeepCutAuto
import Derived.Deep.CutBlock
import Derived.Test.YtfmmomdfmmoklaaDoorAppRun
import Derived.Test.YtfmmomdfmmoklaaDoorROwn
namespace Go.Proofs.YtfmmomdfmmoklaaDoor
open Go.RowKit

section
variable {F : Nat → Prop} {w : World} {m room : Nat} {t : Nat → Way}
/-- What a call leaves of a line that makes a row (gt) besides. -/
def DOwn (F : Nat → Prop) (w w' : World) (m room : Nat) (t : Nat → Way) (gt : Option Nat) : Prop :=
  ∃ F', DAt F' w' m room t ∧ Only F w w' ∧ (∀ b, F' b → F b ∨ w.heap.size ≤ b) ∧ ∀ b, gt = some b → ¬ F' b
theorem DOwn.of {w1 w' : World} {gt : Option Nat} (h : DTurns F w w1 m room t) (hb : Below w1.heap.size w1 w') (hg : ∀ b, gt = some b → w1.heap.size ≤ b) : DOwn F w w' m room t gt := by
  obtain ⟨F', h, ho, hF⟩ := h
  exact ⟨F', h.keep hb, ho.trans (Only.of_below hb (Nat.le_refl _) F) (fun i _ e => e), fun b hb' => (hF b hb').imp id id, fun b e hb' => by have := h.lt b hb'; have := hg b e; omega⟩

set_option maxHeartbeats 1000000 in
theorem DRead_own (h : DAt F w m room t) (s : Nat) (hs : s < 2) (n : Int) :
    Calls Tryd.prog 14 #[.pointer (some ⟨m, 0, none⟩), .int .i64 s, .int .i64 n] w fun e w' => ∃ A c gt, e = .returned (.slice A ((t s).xs.take n.toNat).length c) ∧ Row w' 5 gt (.slice A ((t s).xs.take n.toNat).length c) (bv ((t s).xs.take n.toNat)) ∧ (∀ b, gt = some b → w.heap.size ≤ b) ∧ DOwn F w w' m room (upd t s ⟨(t s).en, (t s).xs.drop n.toNat⟩) gt := by
  obtain ⟨i0, hi0, hz0, hz1, hz2⟩ := info_parts byte_info
  have HO := Lib.hid h
  obtain ⟨q, gq, hB, hF⟩ := id h.ex
  have hle := h.le s hs
  have hrl := h.room_le
  have hput := RTake_at (hB.que s hs) (by rw [dn_len]; omega) n
  rw [dn_take, dn_drop] at hput
  have cm : w.cell? ⟨m, s, none⟩ = some (.pointer (some ⟨q s, 0, none⟩)) := by
    rw [hB.blk.cell s]
    rcases (show s = 0 ∨ s = 1 by omega) with rfl | rfl <;> rfl
  have hs0 : (0 : Int) ≤ (s : Int) := by omega
  have hs1 : (s : Int) < 2 := by omega
  have HL : Hid ((Way.mk (t s).en ((t s).xs.drop n.toNat)).xs.length ≤ room ∧ ∀ d ∈ (Way.mk (t s).en ((t s).xs.drop n.toNat)).xs, d < 256) := by
    refine ⟨?_, fun d hd => h.byte s hs d (List.mem_of_mem_drop hd)⟩
    show ((t s).xs.drop n.toNat).length ≤ room
    rw [List.length_drop]; omega
  have HY : Hid (∀ d ∈ (t s).xs.take n.toNat, d < 256) := fun d hd => h.byte s hs d (List.mem_of_mem_take hd)
  have hyl : ((t s).xs.take n.toNat).length ≤ 65536 := by rw [List.length_take]; omega
  have HT := Lib.hid (And.intro hB hF)
  clear h hB hF
  generalize (t s).xs.take n.toNat = ys at *
  generalize (t s).xs.drop n.toNat = rs at *
  have HP := Lib.hid hput
  clear hput hle hrl
  go_enter Tryd.func14, Tryd.ntmps14
  go_wp2_with fail
  refine HP.out.mono ?_
  rintro e w1 ⟨A1, c1, gt, g1, rfl, hrow1, hq1, ho1, hn1, hm1⟩
  rw [dn_len] at hrow1 ⊢
  have X := Lib.hid (And.intro hrow1 (And.intro hq1 (And.intro ho1 (And.intro hn1 hm1))))
  clear hrow1 hq1 ho1 hn1 hm1 cm HP
  go_wp2_with fail
  go_loopw [8, 9] (fun v8 i wr => ∃ (k : Nat) (g : Option Nat), k ≤ ys.length ∧ i = .int .i64 k ∧ Hid (Row wr 5 g v8 (bv (ys.take k)) ∧ Below w1.heap.size w1 wr ∧ ∀ b, g = some b → w1.heap.size ≤ b)) (fun _ i _ => ys.length - (intOf i).toNat)
  case atStart => exact ⟨0, none, Nat.zero_le _, rfl, Row.nil w1 _, Below.refl _ _, by simp⟩
  case round =>
    obtain ⟨k, g, hk, rfl, HS⟩ := hrel
    obtain ⟨A8, c8, rfl⟩ := HS.out.1.form
    rw [bv_len] at HS ⊢
    have hzl : (ys.take k).length = k := by rw [List.length_take]; omega
    rw [hzl] at HS ⊢
    by_cases hlt : k < ys.length
    · obtain ⟨b, o, d, rfl, hc, hd⟩ := (Row.below X.out.1 HS.out.2.1 (fun b e => X.out.1.lt e)).rd.dnAt hlt
      have HX := Lib.hid (hd_next hd)
      have hdb := HY.out d (List.mem_of_getElem? hd)
      have hw8 : IntKind.u8.wrap (d : Int) = (d : Int) := by rw [IntKind.wrap_u8]; omega
      clear hd hzl
      go_wp2_with (at_builtin; refine wpList_append_row _ rfl (.tmp 24) (.tmp 30) _ rfl 5 i0 _ 1 Tryd.underlying31 hi0 hz0 hz1 hz2 rfl g _ (bv (ys.take k)) rfl (HS.out.1.alloc _) _ [.int .u8 d] rfl (Rd.lit wr 5 #[.int .u8 d] 1 rfl (by omega) (by omega) (by simp [Value.oneCell'])) (by simp only [maxLen, bv_len, List.length_take]; simp; omega) (by simp only [bv_len, List.length_take]; simp; omega) ?_; intro A' c' w2 gn hrow' hgr hgn; simp only [List.length_cons, List.length_nil, Nat.zero_add] at hrow'; have Y := Lib.hid (And.intro hrow' (And.intro hgr hgn)); clear hrow' hgr hgn)
      go_roundw
      case rel =>
        obtain ⟨hrow', hgr, hgn⟩ := Y.out
        obtain ⟨hr, hb, hg⟩ := HS.out
        refine ⟨k + 1, gn, by omega, by go_num, ?_, (hb.alloc hb.size _).grown hgr (by have := hb.size; simp; omega) hg, ?_⟩
        · rw [HX.out, bv_snoc]
          exact hrow'
        · intro b' e
          rcases hgn with rfl | rfl
          · exact hg b' e
          · have := hb.size; simp at e; omega
      case measure => simp [intOf]; omega
    · obtain rfl : k = ys.length := by omega
      have hk : ys.take ys.length = ys := List.take_of_length_le (by omega)
      rw [hk] at HS
      clear hk hzl
      go_wp2
      go_ret
      obtain ⟨hrow, hb, hg⟩ := HS.out
      obtain ⟨_, hq1, ho1, _, hm1⟩ := X.out
      obtain ⟨hB, hF⟩ := HT.out
      have hsz := ho1.size
      refine ⟨A8, c8, g, rfl, hrow, fun b e => by have := hg b e; omega, DOwn.of (hB.turn HO.out hF hs HL.out.1 HL.out.2 hq1 (ho1.mono fun _ _ e => .inl e) ?_) hb hg⟩
      cases g1 with
      | none => exact .inr (.inl rfl)
      | some b => exact .inr (.inr ⟨b, rfl, hm1 b rfl⟩)
end
end Go.Proofs.YtfmmomdfmmoklaaDoor
namespace Go.Proofs.YtfmmomdfmmoklaaDoor
open Go.RowKit

/-- Of the document's line k the ways to the sides. -/
def dways (x : Sys) (k : Nat) : Nat → Way := fun s => x.f k (1 - s)
theorem DAt.congr {F : Nat → Prop} {w : World} {p room : Nat} {t t' : Nat → Way} (h : DAt F w p room t) (e : ∀ s, s < 2 → t s = t' s) : DAt F w p room t' := by
  obtain ⟨⟨q, g, hB, hF⟩, h1, h2, h3, h4⟩ := h
  exact ⟨⟨q, g, ⟨hB.blk, fun s hs => by rw [← e s hs]; exact hB.que s hs, hB.ne_, hB.apart⟩, hF⟩, h1, h2, fun s hs => by rw [← e s hs]; exact h3 s hs, fun s hs => by rw [← e s hs]; exact h4 s hs⟩
theorem dways_line (x : Sys) (k s : Nat) (hs : s < 2) (z : Way) : ∀ j, j < 2 → upd (dways x k) (1 - s) z j = dways (x.line k s z) k j := by
  intro j hj
  unfold dways
  rw [Sys.line_at]
  by_cases h : j = 1 - s
  · subst h
    rw [upd_at, show 1 - (1 - s) = s by omega, upd_at]
  · rw [upd_far _ _ h, upd_far _ _ (show 1 - j ≠ s by omega)]
theorem dways_far (x : Sys) {k j : Nat} (s : Nat) (z : Way) (h : j ≠ k) : dways (x.line k s z) j = dways x j := by
  unfold dways
  rw [Sys.line_far _ _ _ h]

def DLn (p rm : Nat) (t : Nat → Way) : Thing := fun F w => DAt F w p rm t
theorem DLn.framed (p rm : Nat) (t : Nat → Way) : Framed (DLn p rm t) := ⟨fun h ho hd => DAt.only h ho hd, fun h => h.lt⟩
/-- Both of the document's lines. -/
def DLines (L : Nat → Nat) (x : Sys) : Thing := Star (DLn (L 0) x.rm (dways x 0)) (DLn (L 1) x.rm (dways x 1))
theorem DLines.framed (L : Nat → Nat) (x : Sys) : Framed (DLines L x) := Star.framed (DLn.framed ..) (DLn.framed ..)

/-- One of the lines. -/
theorem DLines.at {L : Nat → Nat} {x : Sys} {F : Nat → Prop} {w : World} (h : DLines L x F w) (k : Nat) (hk : k < 2) : ∃ G, DAt G w (L k) x.rm (dways x k) ∧ (∀ b, G b → F b) ∧
    (∀ s z w', s < 2 → DTurns G w w' (L k) x.rm (upd (dways x k) (1 - s) z) → Turned (DLines L (x.line k s z)) F w w') ∧
    (∀ s z w' gt, s < 2 → DOwn G w w' (L k) x.rm (upd (dways x k) (1 - s) z) gt → (∀ b, gt = some b → w.heap.size ≤ b) → ∃ F', DLines L (x.line k s z) F' w' ∧ Only F w w' ∧ (∀ b, F' b → F b ∨ w.heap.size ≤ b) ∧ ∀ b, gt = some b → ¬ F' b) := by
  obtain ⟨A, B, h⟩ := h
  rcases (show k = 0 ∨ k = 1 by omega) with rfl | rfl
  · refine ⟨A, h.fst, fun b hb => (h.un b).2 (.inl hb), fun s z w' hs t => ?_, fun s z w' gt hs t hgt => ?_⟩
    · have t' : Turned (DLn (L 0) x.rm (dways (x.line 0 s z) 0)) A w w' := Turned.imp (P := DLn (L 0) x.rm (upd (dways x 0) (1 - s) z)) t fun G hG => DAt.congr hG (dways_line x 0 s hs z)
      have := h.left (DLn.framed ..) t'
      refine this.imp fun G hG => ?_
      unfold DLines
      rw [dways_far x s z (show 1 ≠ 0 by omega)]
      exact hG
    · obtain ⟨A', hA', ho, hAA, hg⟩ := t
      obtain ⟨F', hp, ho2, hF⟩ := h.left (P' := DLn (L 0) x.rm (dways (x.line 0 s z) 0)) (DLn.framed ..) ⟨A', DAt.congr hA' (dways_line x 0 s hs z), ho, hAA⟩
      have hs' : StarF (DLn (L 0) x.rm (dways (x.line 0 s z) 0)) (DLn (L 1) x.rm (dways x 1)) A' B (fun b => A' b ∨ B b) w' := ⟨DAt.congr hA' (dways_line x 0 s hs z), (DLn.framed ..).only h.snd ho (fun b hb ha => h.ap b ha hb), fun b ha hb => by
        rcases hAA b ha with k | k
        · exact h.ap b k hb
        · have := (DLn.framed ..).lt h.snd b hb; omega, fun _ => Iff.rfl⟩
      refine ⟨fun b => A' b ∨ B b, ?_, ho2, fun b hb => ?_, fun b e hb => ?_⟩
      · unfold DLines
        rw [dways_far x s z (show 1 ≠ 0 by omega)]
        exact ⟨A', B, hs'⟩
      · rcases hb with hb | hb
        · exact (hAA b hb).imp (fun k => (h.un b).2 (.inl k)) id
        · exact .inl ((h.un b).2 (.inr hb))
      · rcases hb with hb | hb
        · exact hg b e hb
        · have := (DLn.framed ..).lt h.snd b hb; have := hgt b e; omega
  · refine ⟨B, h.snd, fun b hb => (h.un b).2 (.inr hb), fun s z w' hs t => ?_, fun s z w' gt hs t hgt => ?_⟩
    · have t' : Turned (DLn (L 1) x.rm (dways (x.line 1 s z) 1)) B w w' := Turned.imp (P := DLn (L 1) x.rm (upd (dways x 1) (1 - s) z)) t fun G hG => DAt.congr hG (dways_line x 1 s hs z)
      have := h.right (DLn.framed ..) t'
      refine this.imp fun G hG => ?_
      unfold DLines
      rw [dways_far x s z (show 0 ≠ 1 by omega)]
      exact hG
    · obtain ⟨B', hB', ho, hBB, hg⟩ := t
      obtain ⟨F', hp, ho2, hF⟩ := h.right (Q' := DLn (L 1) x.rm (dways (x.line 1 s z) 1)) (DLn.framed ..) ⟨B', DAt.congr hB' (dways_line x 1 s hs z), ho, hBB⟩
      have hs' : StarF (DLn (L 0) x.rm (dways x 0)) (DLn (L 1) x.rm (dways (x.line 1 s z) 1)) A B' (fun b => A b ∨ B' b) w' := ⟨(DLn.framed ..).only h.fst ho (fun b ha hb => h.ap b ha hb), DAt.congr hB' (dways_line x 1 s hs z), fun b ha hb => by
        rcases hBB b hb with k | k
        · exact h.ap b ha k
        · have := (DLn.framed ..).lt h.fst b ha; omega, fun _ => Iff.rfl⟩
      refine ⟨fun b => A b ∨ B' b, ?_, ho2, fun b hb => ?_, fun b e hb => ?_⟩
      · unfold DLines
        rw [dways_far x s z (show 0 ≠ 1 by omega)]
        exact ⟨A, B', hs'⟩
      · rcases hb with hb | hb
        · exact .inl ((h.un b).2 (.inl hb))
        · exact (hBB b hb).imp (fun k => (h.un b).2 (.inr k)) id
      · rcases hb with hb | hb
        · have := (DLn.framed ..).lt h.fst b hb; have := hgt b e; omega
        · exact hg b e hb

/-- The document's relay's struct. -/
def drlCells (L : Nat → Nat) (A : Nat → Option Addr) (c : Nat → Nat) (x : Sys) (v vt : Value) : Array Value :=
  #[.pointer (some ⟨L 1, 0, none⟩), .pointer (some ⟨L 0, 0, none⟩), v, .bool (x.ov 0), .bool (x.ov 1), .slice (A 0) (x.ws 0).length (c 0), .slice (A 1) (x.ws 1).length (c 1), vt]
structure DRlF (L : Nat → Nat) (m : Nat) (x : Sys) (A : Nat → Option Addr) (c : Nat → Nat) (g : Option Nat) (v : Value) (l : List Ev) (gT : Option Nat) (vt : Value) (ts : List Int) (F : Nat → Prop) (w : World) : Prop where
  blk : Blk w m 35 (drlCells L A c x v vt)
  el : EL (fun _ => False) F w g v l
  pe : pes l = x.ev
  wt : ∀ d, d < 2 → EvOk (Byts F w) w ⟨0, 0, A d, c d, x.ws d⟩
  tm : Row w 2 gT vt (tv ts)
  tF : ∀ b, gT = some b → F b
  sn : seen ts = x.ck
  tl : ts.length = x.ev.length
  fr : F m
  lt : ∀ b, F b → b < w.heap.size
def DRl (L : Nat → Nat) (m : Nat) (x : Sys) : Thing := fun F w => ∃ A c g v l gT vt ts, DRlF L m x A c g v l gT vt ts F w

section
variable {L : Nat → Nat} {m : Nat} {x : Sys} {A : Nat → Option Addr} {c : Nat → Nat} {g gT : Option Nat} {v vt : Value} {l : List Ev} {ts : List Int} {F F' S : Nat → Prop} {w w' : World}
theorem DRlF.only (h : DRlF L m x A c g v l gT vt ts F w) (ho : Only S w w') (hd : ∀ b, F b → ¬ S b) : DRlF L m x A c g v l gT vt ts F w' :=
  ⟨h.blk.only ho (hd m h.fr), h.el.keep fun b hlt hb => ho.block b hlt (hd b (hb.elim (fun e => e.elim) (fun k => k.1))), h.pe,
    fun d hd' => Byts.keep (h.wt d hd') fun b hlt hF _ => ho.block b hlt (hd b hF), h.tm.only ho (fun b e => hd b (h.tF b e)), h.tF, h.sn, h.tl, h.fr, fun b hb => Nat.lt_of_lt_of_le (h.lt b hb) ho.size⟩
theorem DRl.framed (L : Nat → Nat) (m : Nat) (x : Sys) : Framed (DRl L m x) :=
  ⟨fun ⟨A, c, g, v, l, gT, vt, ts, h⟩ ho hd => ⟨A, c, g, v, l, gT, vt, ts, h.only ho hd⟩, fun ⟨_, _, _, _, _, _, _, _, h⟩ => h.lt⟩
/-- Stores into its struct alone. -/
theorem DRlF.store {x' : Sys} {A' : Nat → Option Addr} {c' : Nat → Nat} (h : DRlF L m x A c g v l gT vt ts F w) (ho : Only (fun b => b = m) w w') (hb : Blk w' m 35 (drlCells L A' c' x' v vt)) (h1 : x'.ck = x.ck) (h2 : x'.ev = x.ev) (hF : ∀ b, F b → F' b) (hlt : ∀ b, F' b → b < w'.heap.size)
    (hw : ∀ d, d < 2 → (A' d = A d ∧ c' d = c d ∧ x'.ws d = x.ws d) ∨ EvOk (Byts F' w') w' ⟨0, 0, A' d, c' d, x'.ws d⟩) : DRlF L m x' A' c' g v l gT vt ts F' w' := by
  refine ⟨hb, (h.el.farR h.blk (by decide) (by decide) fun b hlt hne => ho.block b hlt hne).grow (fun b _ => hF b), by rw [h2]; exact h.pe, fun d hd => ?_, h.tm.only ho (fun b e e2 => h.tm.ne_ h.blk (by decide) (e2 ▸ e)), fun b e => hF b (h.tF b e), by rw [h1]; exact h.sn, by rw [h2]; exact h.tl, hF m h.fr, hlt⟩
  rcases hw d hd with ⟨e1, e2, e3⟩ | k
  · rw [e1, e2, e3]
    exact Byts.grow (Byts.keep (h.wt d hd) fun b hlt _ ⟨cs, hc⟩ => ho.block b hlt (byte_ne hc h.blk (by decide))) (fun b _ => hF b)
  · exact k
end

/-- All of the document's. -/
def DSys (L : Nat → Nat) (m : Nat) (x : Sys) : Thing := Star (DLines L x) (DRl L m x)
theorem DSys.framed (L : Nat → Nat) (m : Nat) (x : Sys) : Framed (DSys L m x) := Star.framed (DLines.framed ..) (DRl.framed ..)
/-- What a step leaves. -/
def DDid (L : Nat → Nat) (m : Nat) (F : Nat → Prop) (w : World) (y : Bool × Sys) (e : Ending) (w' : World) : Prop := e = .returned (.bool y.1) ∧ Turned (DSys L m y.2) F w w'
end Go.Proofs.YtfmmomdfmmoklaaDoor
namespace Go.Proofs.YtfmmomdfmmoklaaDoor
open Go.RowKit

theorem byts_both {l : List PE} (h : ∀ a ∈ l, a.dir = 0 ∨ a.dir = 1) : (byts 0 l).length + (byts 1 l).length = whole l := by
  induction l with
  | nil => rfl
  | cons a l ih =>
    have := ih (fun b hb => h b (by simp [hb]))
    rw [byts_cons, byts_cons, whole_cons, List.length_append, List.length_append]
    rcases h a (by simp) with e | e <;> rw [e] <;> simp <;> omega

section
variable {L : Nat → Nat} {m : Nat} {x : Sys} {F : Nat → Prop} {w : World}

set_option maxHeartbeats 1000000 in
set_option maxRecDepth 100000 in
theorem D_room (h : DRl L m x F w) (hx : x.Ok) (n : Int) : Calls Tryd.prog 51 #[.pointer (some ⟨m, 0, none⟩), .int .i64 n] w fun e w' => e = .returned (.int .i64 (x.room n)) ∧ Below w.heap.size w w' := by
  obtain ⟨A, c, g, v, l, gT, vt, ts, h⟩ := h
  have hev : Evs w v l := (h.el.evsIn (S := fun _ => True) (by have := hx.len; rw [← h.pe, pes_len] at this; omega) (fun _ _ => trivial) (fun _ _ => trivial))
  have c2 : w.cell? ⟨m, 2, none⟩ = some v := h.blk.cell 2
  have hlt := h.blk.lt
  have hall := hx.all
  have hwh : whole (pes l) ≤ 1048576 := by rw [h.pe]; omega
  have hbb := byts_both hx.dir
  have h0 : (byts 0 (pes l)).length = (byts 0 x.ev).length := by rw [h.pe]
  have h1 : (byts 1 (pes l)).length = (byts 1 x.ev).length := by rw [h.pe]
  have hroom : x.room n = min (min n 65536) (262144 - (whole x.ev : Int)) := rfl
  have HE := Lib.hid (And.intro hev hwh)
  obtain ⟨p0, hp0⟩ : ∃ p, (byts 0 (pes l)).length = p := ⟨_, rfl⟩
  obtain ⟨p1, hp1⟩ : ∃ p, (byts 1 (pes l)).length = p := ⟨_, rfl⟩
  obtain ⟨r, hr⟩ : ∃ r, x.room n = r := ⟨_, rfl⟩
  have hsum : p0 + p1 = whole x.ev := by omega
  rw [hr]
  rw [hr, ← hsum] at hroom
  have hle : p0 + p1 ≤ 262144 := by omega
  have HP := Lib.hid (And.intro hp0 hp1)
  have w1' : IntKind.i64.wrap (262144 - (p0 : Int)) = 262144 - (p0 : Int) := IntWalk.i64_in _ (by omega)
  have w2' : IntKind.i64.wrap (262144 - (p0 : Int) - (p1 : Int)) = 262144 - (p0 : Int) - (p1 : Int) := IntWalk.i64_in _ (by omega)
  obtain ⟨lf, hlf⟩ : ∃ lf : Int, 262144 - (p0 : Int) - (p1 : Int) = lf := ⟨_, rfl⟩
  rw [hlf] at w2'
  have hroom' : r = min (min n 65536) lf := by rw [hroom]; congr 1; omega
  have HR := Lib.hid hroom'
  have HLF := Lib.hid (And.intro hlf (show lf ≤ 262144 by omega))
  clear h hev hall hwh hbb h0 h1 hroom hp0 hp1 hr hsum hle hx hroom'
  go_enter Tryd.func51, Tryd.ntmps51
  go_upto_region 1 with (fail)
  go_cut [5] (fun v5 wc => v5 = .int .i64 lf ∧ Hid (Below w.heap.size w wc))
  case first =>
    go_wp2_with fail
    refine wp_region_noPanic ?_
    refine wp_region_upto (fun V => V.cell? ⟨m, 2, none⟩ = some v) 14 (by kernel_rfl) ?_ (fun hHeld => ?_)
    · exact c2
    refine wpUpto.take 0 (by kernel_rfl) (by kernel_rfl) (by kernel_rfl) (by kernel_rfl) (by assumption) ?_
    intro o ho
    simp only [List.getElem?_toArray, List.getElem?_cons_zero, Option.some.injEq] at ho
    subst ho
    refine ⟨?_, fun _ _ _ h => h, Or.inl ⟨by rfl, ?_⟩, ?_⟩
    rotate_left
    · intro w hSw
      go_simp
      try with_reducible rfl
    simp only [Act.put, List.setIfInBounds_toArray, List.set_cons_zero, List.set_cons_succ]
    refine wpUpto.take 1 (by kernel_rfl) (by kernel_rfl) (by kernel_rfl) (by kernel_rfl) (by assumption) ?_
    intro o ho
    simp only [List.getElem?_toArray, List.getElem?_cons_succ, List.getElem?_cons_zero, Option.some.injEq] at ho
    subst ho
    refine ⟨?_, fun _ _ _ h => h, Or.inl ⟨by rfl, ?_⟩, ?_⟩
    rotate_left
    · intro w hSw
      go_simp
      try with_reducible rfl
    simp only [Act.put, List.setIfInBounds_toArray, List.set_cons_zero, List.set_cons_succ]
    refine wpUpto.take 2 (by kernel_rfl) (by kernel_rfl) (by kernel_rfl) (by kernel_rfl) (by assumption) ?_
    intro o ho
    simp only [List.getElem?_toArray, List.getElem?_cons_succ, List.getElem?_cons_zero, Option.some.injEq] at ho
    subst ho
    refine ⟨?_, fun _ _ _ h => h, Or.inl ⟨by rfl, ?_⟩, ?_⟩
    rotate_left
    · intro w hSw
      go_simp
      try with_reducible rfl
    simp only [Act.put, List.setIfInBounds_toArray, List.set_cons_zero, List.set_cons_succ]
    refine wpUpto.take 3 (by kernel_rfl) (by kernel_rfl) (by kernel_rfl) (by kernel_rfl) (by assumption) ?_
    intro o ho
    simp only [List.getElem?_toArray, List.getElem?_cons_succ, List.getElem?_cons_zero, Option.some.injEq] at ho
    subst ho
    refine ⟨?_, fun _ _ _ h => h, Or.inl ⟨by rfl, ?_⟩, ?_⟩
    rotate_left
    · intro w hSw
      go_simp
      try with_reducible rfl
    simp only [Act.put, List.setIfInBounds_toArray, List.set_cons_zero, List.set_cons_succ]
    refine wpUpto.take 7 (by kernel_rfl) (by kernel_rfl) (by kernel_rfl) (by kernel_rfl) (by assumption) ?_
    intro o ho
    simp only [List.getElem?_toArray, List.getElem?_cons_succ, List.getElem?_cons_zero, Option.some.injEq] at ho
    subst ho
    refine ⟨?_, fun _ _ _ h => h, Or.inl ⟨by rfl, ?_⟩, ?_⟩
    rotate_left
    · intro w hSw
      go_simp
      try with_reducible rfl
    simp only [Act.put, List.setIfInBounds_toArray, List.set_cons_zero, List.set_cons_succ]
    refine wpUpto.take 8 (by kernel_rfl) (by kernel_rfl) (by kernel_rfl) (by kernel_rfl) (by assumption) ?_
    intro o ho
    simp only [List.getElem?_toArray, List.getElem?_cons_succ, List.getElem?_cons_zero, Option.some.injEq] at ho
    subst ho
    refine ⟨?_, fun _ _ _ h => h, Or.inl ⟨by rfl, ?_⟩, ?_⟩
    rotate_left
    · intro w hSw
      go_simp
      try with_reducible rfl
    simp only [Act.put, List.setIfInBounds_toArray, List.set_cons_zero, List.set_cons_succ]
    refine wpUpto.take 9 (by kernel_rfl) (by kernel_rfl) (by kernel_rfl) (by kernel_rfl) (by assumption) ?_
    intro o ho
    simp only [List.getElem?_toArray, List.getElem?_cons_succ, List.getElem?_cons_zero, Option.some.injEq] at ho
    subst ho
    refine ⟨?_, fun _ _ _ h => h, Or.inl ⟨by rfl, ?_⟩, ?_⟩
    rotate_left
    · intro w hSw
      go_simp
      try with_reducible rfl
    simp only [Act.put, List.setIfInBounds_toArray, List.set_cons_zero, List.set_cons_succ]
    refine wpUpto.take 10 (by kernel_rfl) (by kernel_rfl) (by kernel_rfl) (by kernel_rfl) (by assumption) ?_
    intro o ho
    simp only [List.getElem?_toArray, List.getElem?_cons_succ, List.getElem?_cons_zero, Option.some.injEq] at ho
    subst ho
    refine ⟨?_, fun _ _ _ h => h, Or.inl ⟨by rfl, ?_⟩, ?_⟩
    rotate_left
    · intro w hSw
      go_simp
      try with_reducible rfl
    simp only [Act.put, List.setIfInBounds_toArray, List.set_cons_zero, List.set_cons_succ]
    refine wpUpto.one 4 (by kernel_rfl) ?_
    intro o ho K hK
    simp only [List.getElem?_toArray, List.getElem?_cons_succ, List.getElem?_cons_zero, Option.some.injEq] at ho
    subst ho
    go_simp
    go_at_call 27
    refine (RBytes_any 0 v l w.drew (HE.out.1.below ⟨rfl, rfl, rfl, Nat.le_refl _, fun _ _ => rfl⟩) HE.out.2).mono ?_
    rintro e w1 ⟨A1, c1, g1, rfl, -, -, hb1⟩
    rw [HP.out.1]
    have m2 : w1.cell? ⟨m, 2, none⟩ = some v := (hb1.cell (p := ⟨m, 2, none⟩) hlt).trans c2
    have HB1 := Lib.hid (show Below w.heap.size w w1 from ⟨hb1.os, hb1.tape, hb1.output, hb1.size, hb1.block⟩)
    clear hb1
    refine hK.out _ _ ?_ (fun hHeld => ?_)
    · exact m2
    clear hK K
    try simp only [Act.put, List.setIfInBounds_toArray, List.set_cons_zero, List.set_cons_succ]
    refine wpUpto.take 5 (by kernel_rfl) (by kernel_rfl) (by kernel_rfl) (by kernel_rfl) (by assumption) ?_
    intro o ho
    simp only [List.getElem?_toArray, List.getElem?_cons_succ, List.getElem?_cons_zero, Option.some.injEq] at ho
    subst ho
    refine ⟨?_, fun _ _ _ h => h, Or.inl ⟨by rfl, ?_⟩, ?_⟩
    rotate_left
    · intro w hSw
      go_simp
      try with_reducible rfl
    simp only [Act.put, List.setIfInBounds_toArray, List.set_cons_zero, List.set_cons_succ]
    refine wpUpto.take 6 (by kernel_rfl) (by kernel_rfl) (by kernel_rfl) (by kernel_rfl) (by assumption) ?_
    intro o ho
    simp only [List.getElem?_toArray, List.getElem?_cons_succ, List.getElem?_cons_zero, Option.some.injEq] at ho
    subst ho
    refine ⟨?_, fun _ _ _ h => h, Or.inl ⟨by rfl, ?_⟩, ?_⟩
    rotate_left
    · intro w hSw
      go_simp
      try with_reducible rfl
    simp only [Act.put, List.setIfInBounds_toArray, List.set_cons_zero, List.set_cons_succ]
    refine wpUpto.one 11 (by kernel_rfl) ?_
    intro o ho K hK
    simp only [List.getElem?_toArray, List.getElem?_cons_succ, List.getElem?_cons_zero, Option.some.injEq] at ho
    subst ho
    go_simp
    go_at_call 27
    refine (RBytes_any 1 v l w1 (HE.out.1.below HB1.out) HE.out.2).mono ?_
    rintro e w2 ⟨A2, c2', g2, rfl, -, -, hb2⟩
    rw [HP.out.2]
    have n2 : w2.cell? ⟨m, 2, none⟩ = some v := (hb2.cell (p := ⟨m, 2, none⟩) (Nat.lt_of_lt_of_le hlt HB1.out.size)).trans m2
    have HB2 := Lib.hid (show Below w.heap.size w w2 from HB1.out.trans (hb2.mono HB1.out.size))
    clear hb2
    refine hK.out _ _ ?_ (fun hHeld => ?_)
    · exact n2
    clear hK K
    try simp only [Act.put, List.setIfInBounds_toArray, List.set_cons_zero, List.set_cons_succ]
    refine wpUpto.take 12 (by kernel_rfl) (by kernel_rfl) (by kernel_rfl) (by kernel_rfl) (by assumption) ?_
    intro o ho
    simp only [List.getElem?_toArray, List.getElem?_cons_succ, List.getElem?_cons_zero, Option.some.injEq] at ho
    subst ho
    refine ⟨?_, fun _ _ _ h => h, Or.inl ⟨by rfl, ?_⟩, ?_⟩
    rotate_left
    · intro w hSw
      go_simp
      try with_reducible rfl
    simp only [Act.put, List.setIfInBounds_toArray, List.set_cons_zero, List.set_cons_succ]
    refine wpUpto.take 13 (by kernel_rfl) (by kernel_rfl) (by kernel_rfl) (by kernel_rfl) (by assumption) ?_
    intro o ho
    simp only [List.getElem?_toArray, List.getElem?_cons_succ, List.getElem?_cons_zero, Option.some.injEq] at ho
    subst ho
    refine ⟨?_, fun _ _ _ h => h, Or.inl ⟨by rfl, ?_⟩, ?_⟩
    rotate_left
    · intro w hSw
      go_simp
      try with_reducible rfl
    simp only [Act.put, List.setIfInBounds_toArray, List.set_cons_zero, List.set_cons_succ]
    refine wpUpto.last (by kernel_rfl) ?_
    intro o ho K hK
    simp only [List.getElem?_toArray, List.getElem?_cons_succ, List.getElem?_cons_zero, Option.some.injEq] at ho
    subst ho
    go_simp
    refine hK.out _ _ ?_
    clear hK K
    refine wpUpto.done (by kernel_rfl) ?_ _
    refine NoPanic.normal ?_
    try simp only [Act.put, List.setIfInBounds_toArray, List.set_cons_zero, List.set_cons_succ]
    go_wp2_with fail
    go_meet
    case rel => exact ⟨rfl, HB2.out⟩
  case rest =>
    obtain ⟨rfl, HC⟩ := hcut
    have hl2 := HLF.out.2
    clear c2 hlt w1' w2'
    by_cases k1 : lf < n
    · have k2 : ¬ (65536 : Int) < lf ∨ (65536 : Int) < lf := by omega
      rcases k2 with k2 | k2
      · go_wp2_with fail
        go_ret
        exact ⟨ret_int (by rw [HR.out]; omega), HC.out⟩
      · go_wp2_with fail
        go_ret
        exact ⟨ret_int (by rw [HR.out]; omega), HC.out⟩
    · by_cases k3 : (65536 : Int) < n
      · go_wp2_with fail
        go_ret
        exact ⟨ret_int (by rw [HR.out]; omega), HC.out⟩
      · go_wp2_with fail
        go_ret
        exact ⟨ret_int (by rw [HR.out]; omega), HC.out⟩

set_option maxHeartbeats 1000000 in
set_option maxRecDepth 100000 in
theorem D_write0 (h : DSys L m x F w) (hx : x.Ok) (n : Int) :
    Calls Tryd.prog 36 #[.pointer (some ⟨m, 0, none⟩), .int .i64 0, .int .i64 n] w (DDid L m F w (x.write 0 n)) := by
  obtain ⟨A0, B0, hst⟩ := h
  obtain ⟨A, c, g, v, l, gT, vt, ts, hr⟩ := id hst.snd
  obtain ⟨G, hp, hG, hturn, -⟩ := DLines.at hst.fst 1 (by omega)
  have hwt := hr.wt 0 (by omega)
  have hwl := hx.wle 0 (by omega)
  obtain ⟨ws, hws⟩ : ∃ ws, x.ws 0 = ws := ⟨_, rfl⟩
  have cl : w.cell? ⟨m, 0, none⟩ = some (.pointer (some ⟨L 1, 0, none⟩)) := hr.blk.cell 0
  have c5 : w.cell? ⟨m, 5, none⟩ = some (.slice (A 0) (x.ws 0).length (c 0)) := hr.blk.cell 5
  rw [hws] at hwt hwl c5
  obtain ⟨mm, hmm⟩ : ∃ mm : Nat, (min n (ws.length : Int)).toNat = mm := ⟨_, rfl⟩
  have hml : mm ≤ ws.length := by omega
  obtain ⟨k, hk⟩ : ∃ k, x.many 0 n = k := ⟨_, rfl⟩
  have hk' : putN x.rm (x.f 1 1).en (x.f 1 1).xs.length mm = k := by
    rw [← hk, ← hmm, ← hws]; rfl
  have hkm2 : k ≤ mm := by rw [← hk']; exact putN_le_m ..
  have hkm : k ≤ ws.length := by omega
  have htk : (ws.take mm).take k = ws.take k := by rw [List.take_take, Nat.min_eq_left hkm2]
  have HP : Hid (∀ Ab cb, Rd w (.slice Ab mm cb) (bv (ws.take mm)) → Calls Tryd.prog 13 #[.pointer (some ⟨L 1, 0, none⟩), .int .i64 1, .slice Ab mm cb] w fun e w' => e = .returned (.int .i64 k) ∧ DTurns G w w' (L 1) x.rm (upd (dways x 1) (1 - 1) ⟨(x.f 1 1).en, (x.f 1 1).xs ++ ws.take k⟩)) := by
    intro Ab cb hrd
    have := DWrite_at hp 1 (by omega) hrd (by omega) (fun b hb => hx.wbyte 0 (by omega) b (by rw [hws]; exact List.mem_of_mem_take hb))
    have e : dways x 1 (1 - 1) = x.f 1 1 := rfl
    rw [e, hk', htk] at this
    exact this
  have hsent : x.write 0 n = (decide (0 < k), { x.line 1 1 ⟨(x.f 1 1).en, (x.f 1 1).xs ++ ws.take k⟩ with ws := upn x.ws 0 (ws.drop k) }) := by
    unfold Sys.write Sys.sent; rw [hk, hws]; rfl
  rw [hsent]
  obtain ⟨A3, c3', hfrom, hwt2⟩ := cut_from hwt hkm
  have HL : Hid (∀ w1, Only G w w1 → w1.cell? ⟨m, 5, none⟩ = some (.slice (A 0) ws.length (c 0)) ∧ w1.frozen? ⟨m, 5, none⟩ = false) := by
    intro w1 ho1
    have hb := hr.blk.only ho1 (fun k => hst.ap m (hG m k) hr.fr)
    refine ⟨?_, hb.frozen _⟩
    rw [← hws]; exact hb.cell 5
  have HE : Hid (∀ w1, DTurns G w w1 (L 1) x.rm (upd (dways x 1) (1 - 1) ⟨(x.f 1 1).en, (x.f 1 1).xs ++ ws.take k⟩) → Turned (DSys L m { x.line 1 1 ⟨(x.f 1 1).en, (x.f 1 1).xs ++ ws.take k⟩ with ws := upn x.ws 0 (ws.drop k) }) F w (w1.setCell ⟨m, 5, none⟩ (.slice A3 (ws.drop k).length c3'))) := by
    intro w1 ht
    obtain ⟨A1, hl1, hoA, hA1⟩ := hturn 1 _ w1 (by omega) ht
    have hr1 := hr.only hoA (fun b hb ha => hst.ap b ha hb)
    have hoS : Only (fun b => b = m) w1 (w1.setCell ⟨m, 5, none⟩ (.slice A3 (ws.drop k).length c3')) := (Only.refl (fun b => b = m) w1).setCell (p := ⟨m, 5, none⟩) (.inl rfl) _
    have hev : EvOk (Byts B0 (w1.setCell ⟨m, 5, none⟩ (.slice A3 (ws.drop k).length c3'))) (w1.setCell ⟨m, 5, none⟩ (.slice A3 (ws.drop k).length c3')) ⟨0, 0, A3, c3', ws.drop k⟩ := by
      refine Byts.keep (Byts.keep hwt2 (w' := w1) fun b hlt hF _ => hoA.block b hlt (fun ha => hst.ap b ha hF)) fun b hlt _ hc => hoS.block b hlt ?_
      obtain ⟨cs, hc⟩ := hc
      exact byte_ne hc hr1.blk (by decide)
    have hr2 : DRlF L m { x.line 1 1 ⟨(x.f 1 1).en, (x.f 1 1).xs ++ ws.take k⟩ with ws := upn x.ws 0 (ws.drop k) } (upn A 0 A3) (upn c 0 c3') g v l gT vt ts B0 (w1.setCell ⟨m, 5, none⟩ (.slice A3 (ws.drop k).length c3')) := by
      refine hr1.store hoS ?_ rfl rfl (fun _ hb => hb) (fun b hb => Nat.lt_of_lt_of_le (hr1.lt b hb) hoS.size) fun j hj => ?_
      · have hb := hr1.blk.set_ 5 (.slice A3 (ws.drop k).length c3')
        have e : drlCells L (upn A 0 A3) (upn c 0 c3') { x.line 1 1 ⟨(x.f 1 1).en, (x.f 1 1).xs ++ ws.take k⟩ with ws := upn x.ws 0 (ws.drop k) } v vt = (drlCells L A c x v vt).setIfInBounds 5 (.slice A3 (ws.drop k).length c3') := by
          simp [drlCells, Sys.line, upn]
        rw [e]; exact hb
      · by_cases hjd : j = 0
        · subst hjd
          right
          show EvOk _ _ ⟨0, 0, upn A 0 A3 0, upn c 0 c3' 0, upn x.ws 0 (ws.drop k) 0⟩
          rw [upn_at, upn_at, upn_at]; exact hev
        · left
          exact ⟨upn_far _ _ hjd, upn_far _ _ hjd, upn_far _ _ hjd⟩
    exact hst.both (DRl.framed ..) (DLines.framed L { x.line 1 1 ⟨(x.f 1 1).en, (x.f 1 1).xs ++ ws.take k⟩ with ws := upn x.ws 0 (ws.drop k) }) (Q' := DRl L m { x.line 1 1 ⟨(x.f 1 1).en, (x.f 1 1).xs ++ ws.take k⟩ with ws := upn x.ws 0 (ws.drop k) }) hl1 hoA hA1 ⟨_, _, _, _, _, _, _, _, hr2⟩ (hoS.mono fun i _ e => by subst e; exact hr.fr) (fun b hb => .inl hb)
  have hrd := hwt.rd
  simp only at hrd
  have HW := Lib.hid (And.intro hrd hmm)
  obtain ⟨P, hP⟩ : ∃ P, L 1 = P := ⟨_, rfl⟩
  rw [hP] at cl HP HE
  clear hwt hst hr hturn hws hk hwt2 hsent hk' htk hp hG hP hmm hrd
  by_cases h1 : n < (ws.length : Int)
  · by_cases h0 : n < 0
    · obtain rfl : mm = 0 := by have := HW.out.2; omega
      obtain ⟨Ab, hsl, hrb⟩ := run_upto HW.out.1 (Nat.zero_le ws.length)
      simp only [Int.natCast_zero] at hsl
      have HQ := Lib.hid (HP.out Ab _ hrb)
      clear hrb
      go_enter Tryd.func36, Tryd.ntmps36
      go_wp2_with fail
      refine HQ.out.mono ?_
      intro e w1 he
      obtain ⟨rfl, ht⟩ := he
      obtain ⟨G', hG', ho1, hGG⟩ := id ht
      obtain ⟨l4, f4⟩ := HL.out w1 ho1
      have HH := Lib.hid ht
      clear ht hG' ho1 hGG cl c5
      go_wp2_with fail
      go_still_tail 13, (by kernel_rfl)
      change wpList _ _ _ _ _ w1.drew
      go_wp2_with fail
      go_ret
      obtain ⟨F', t1, t2, t3⟩ := HE.out w1 HH.out
      rw [List.length_drop] at t1 t2
      exact ⟨ret_bool (by simp), F', (DSys.framed ..).only t1 ((Only.refl (fun _ => False) _).drew) (fun _ _ e => e), ⟨t2.os, t2.tape, t2.output, t2.size, t2.block⟩, t3⟩
    · obtain rfl : n = (mm : Int) := by have := HW.out.2; omega
      obtain ⟨Ab, hsl, hrb⟩ := run_upto HW.out.1 hml
      have HQ := Lib.hid (HP.out Ab _ hrb)
      clear hrb
      go_enter Tryd.func36, Tryd.ntmps36
      go_wp2_with fail
      refine HQ.out.mono ?_
      intro e w1 he
      obtain ⟨rfl, ht⟩ := he
      obtain ⟨G', hG', ho1, hGG⟩ := id ht
      obtain ⟨l4, f4⟩ := HL.out w1 ho1
      have HH := Lib.hid ht
      clear ht hG' ho1 hGG cl c5
      go_wp2_with fail
      go_still_tail 13, (by kernel_rfl)
      change wpList _ _ _ _ _ w1.drew
      go_wp2_with fail
      go_ret
      obtain ⟨F', t1, t2, t3⟩ := HE.out w1 HH.out
      rw [List.length_drop] at t1 t2
      exact ⟨ret_bool (by simp), F', (DSys.framed ..).only t1 ((Only.refl (fun _ => False) _).drew) (fun _ _ e => e), ⟨t2.os, t2.tape, t2.output, t2.size, t2.block⟩, t3⟩
  · obtain rfl : mm = ws.length := by have := HW.out.2; omega
    have hrb := HW.out.1
    have HQ := Lib.hid (HP.out _ _ (by rw [List.take_length]; exact hrb))
    clear hrb
    go_enter Tryd.func36, Tryd.ntmps36
    go_wp2_with fail
    refine HQ.out.mono ?_
    intro e w1 he
    obtain ⟨rfl, ht⟩ := he
    obtain ⟨G', hG', ho1, hGG⟩ := id ht
    obtain ⟨l4, f4⟩ := HL.out w1 ho1
    have HH := Lib.hid ht
    clear ht hG' ho1 hGG cl c5
    go_wp2_with fail
    go_still_tail 13, (by kernel_rfl)
    change wpList _ _ _ _ _ w1.drew
    go_wp2_with fail
    go_ret
    obtain ⟨F', t1, t2, t3⟩ := HE.out w1 HH.out
    rw [List.length_drop] at t1 t2
    exact ⟨ret_bool (by simp), F', (DSys.framed ..).only t1 ((Only.refl (fun _ => False) _).drew) (fun _ _ e => e), ⟨t2.os, t2.tape, t2.output, t2.size, t2.block⟩, t3⟩

set_option maxHeartbeats 1000000 in
set_option maxRecDepth 100000 in
theorem D_write1 (h : DSys L m x F w) (hx : x.Ok) (n : Int) :
    Calls Tryd.prog 36 #[.pointer (some ⟨m, 0, none⟩), .int .i64 1, .int .i64 n] w (DDid L m F w (x.write 1 n)) := by
  obtain ⟨A0, B0, hst⟩ := h
  obtain ⟨A, c, g, v, l, gT, vt, ts, hr⟩ := id hst.snd
  obtain ⟨G, hp, hG, hturn, -⟩ := DLines.at hst.fst 0 (by omega)
  have hwt := hr.wt 1 (by omega)
  have hwl := hx.wle 1 (by omega)
  obtain ⟨ws, hws⟩ : ∃ ws, x.ws 1 = ws := ⟨_, rfl⟩
  have cl : w.cell? ⟨m, 1, none⟩ = some (.pointer (some ⟨L 0, 0, none⟩)) := hr.blk.cell 1
  have c5 : w.cell? ⟨m, 6, none⟩ = some (.slice (A 1) (x.ws 1).length (c 1)) := hr.blk.cell 6
  rw [hws] at hwt hwl c5
  obtain ⟨mm, hmm⟩ : ∃ mm : Nat, (min n (ws.length : Int)).toNat = mm := ⟨_, rfl⟩
  have hml : mm ≤ ws.length := by omega
  obtain ⟨k, hk⟩ : ∃ k, x.many 1 n = k := ⟨_, rfl⟩
  have hk' : putN x.rm (x.f 0 0).en (x.f 0 0).xs.length mm = k := by
    rw [← hk, ← hmm, ← hws]; rfl
  have hkm2 : k ≤ mm := by rw [← hk']; exact putN_le_m ..
  have hkm : k ≤ ws.length := by omega
  have htk : (ws.take mm).take k = ws.take k := by rw [List.take_take, Nat.min_eq_left hkm2]
  have HP : Hid (∀ Ab cb, Rd w (.slice Ab mm cb) (bv (ws.take mm)) → Calls Tryd.prog 13 #[.pointer (some ⟨L 0, 0, none⟩), .int .i64 0, .slice Ab mm cb] w fun e w' => e = .returned (.int .i64 k) ∧ DTurns G w w' (L 0) x.rm (upd (dways x 0) (1 - 0) ⟨(x.f 0 0).en, (x.f 0 0).xs ++ ws.take k⟩)) := by
    intro Ab cb hrd
    have := DWrite_at hp 0 (by omega) hrd (by omega) (fun b hb => hx.wbyte 1 (by omega) b (by rw [hws]; exact List.mem_of_mem_take hb))
    have e : dways x 0 (1 - 0) = x.f 0 0 := rfl
    rw [e, hk', htk] at this
    exact this
  have hsent : x.write 1 n = (decide (0 < k), { x.line 0 0 ⟨(x.f 0 0).en, (x.f 0 0).xs ++ ws.take k⟩ with ws := upn x.ws 1 (ws.drop k) }) := by
    unfold Sys.write Sys.sent; rw [hk, hws]; rfl
  rw [hsent]
  obtain ⟨A3, c3', hfrom, hwt2⟩ := cut_from hwt hkm
  have HL : Hid (∀ w1, Only G w w1 → w1.cell? ⟨m, 6, none⟩ = some (.slice (A 1) ws.length (c 1)) ∧ w1.frozen? ⟨m, 6, none⟩ = false) := by
    intro w1 ho1
    have hb := hr.blk.only ho1 (fun k => hst.ap m (hG m k) hr.fr)
    refine ⟨?_, hb.frozen _⟩
    rw [← hws]; exact hb.cell 6
  have HE : Hid (∀ w1, DTurns G w w1 (L 0) x.rm (upd (dways x 0) (1 - 0) ⟨(x.f 0 0).en, (x.f 0 0).xs ++ ws.take k⟩) → Turned (DSys L m { x.line 0 0 ⟨(x.f 0 0).en, (x.f 0 0).xs ++ ws.take k⟩ with ws := upn x.ws 1 (ws.drop k) }) F w (w1.setCell ⟨m, 6, none⟩ (.slice A3 (ws.drop k).length c3'))) := by
    intro w1 ht
    obtain ⟨A1, hl1, hoA, hA1⟩ := hturn 0 _ w1 (by omega) ht
    have hr1 := hr.only hoA (fun b hb ha => hst.ap b ha hb)
    have hoS : Only (fun b => b = m) w1 (w1.setCell ⟨m, 6, none⟩ (.slice A3 (ws.drop k).length c3')) := (Only.refl (fun b => b = m) w1).setCell (p := ⟨m, 6, none⟩) (.inl rfl) _
    have hev : EvOk (Byts B0 (w1.setCell ⟨m, 6, none⟩ (.slice A3 (ws.drop k).length c3'))) (w1.setCell ⟨m, 6, none⟩ (.slice A3 (ws.drop k).length c3')) ⟨0, 0, A3, c3', ws.drop k⟩ := by
      refine Byts.keep (Byts.keep hwt2 (w' := w1) fun b hlt hF _ => hoA.block b hlt (fun ha => hst.ap b ha hF)) fun b hlt _ hc => hoS.block b hlt ?_
      obtain ⟨cs, hc⟩ := hc
      exact byte_ne hc hr1.blk (by decide)
    have hr2 : DRlF L m { x.line 0 0 ⟨(x.f 0 0).en, (x.f 0 0).xs ++ ws.take k⟩ with ws := upn x.ws 1 (ws.drop k) } (upn A 1 A3) (upn c 1 c3') g v l gT vt ts B0 (w1.setCell ⟨m, 6, none⟩ (.slice A3 (ws.drop k).length c3')) := by
      refine hr1.store hoS ?_ rfl rfl (fun _ hb => hb) (fun b hb => Nat.lt_of_lt_of_le (hr1.lt b hb) hoS.size) fun j hj => ?_
      · have hb := hr1.blk.set_ 6 (.slice A3 (ws.drop k).length c3')
        have e : drlCells L (upn A 1 A3) (upn c 1 c3') { x.line 0 0 ⟨(x.f 0 0).en, (x.f 0 0).xs ++ ws.take k⟩ with ws := upn x.ws 1 (ws.drop k) } v vt = (drlCells L A c x v vt).setIfInBounds 6 (.slice A3 (ws.drop k).length c3') := by
          simp [drlCells, Sys.line, upn]
        rw [e]; exact hb
      · by_cases hjd : j = 1
        · subst hjd
          right
          show EvOk _ _ ⟨0, 0, upn A 1 A3 1, upn c 1 c3' 1, upn x.ws 1 (ws.drop k) 1⟩
          rw [upn_at, upn_at, upn_at]; exact hev
        · left
          exact ⟨upn_far _ _ hjd, upn_far _ _ hjd, upn_far _ _ hjd⟩
    exact hst.both (DRl.framed ..) (DLines.framed L { x.line 0 0 ⟨(x.f 0 0).en, (x.f 0 0).xs ++ ws.take k⟩ with ws := upn x.ws 1 (ws.drop k) }) (Q' := DRl L m { x.line 0 0 ⟨(x.f 0 0).en, (x.f 0 0).xs ++ ws.take k⟩ with ws := upn x.ws 1 (ws.drop k) }) hl1 hoA hA1 ⟨_, _, _, _, _, _, _, _, hr2⟩ (hoS.mono fun i _ e => by subst e; exact hr.fr) (fun b hb => .inl hb)
  have hrd := hwt.rd
  simp only at hrd
  have HW := Lib.hid (And.intro hrd hmm)
  obtain ⟨P, hP⟩ : ∃ P, L 0 = P := ⟨_, rfl⟩
  rw [hP] at cl HP HE
  clear hwt hst hr hturn hws hk hwt2 hsent hk' htk hp hG hP hmm hrd
  by_cases h1 : n < (ws.length : Int)
  · by_cases h0 : n < 0
    · obtain rfl : mm = 0 := by have := HW.out.2; omega
      obtain ⟨Ab, hsl, hrb⟩ := run_upto HW.out.1 (Nat.zero_le ws.length)
      simp only [Int.natCast_zero] at hsl
      have HQ := Lib.hid (HP.out Ab _ hrb)
      clear hrb
      go_enter Tryd.func36, Tryd.ntmps36
      go_wp2_with fail
      refine HQ.out.mono ?_
      intro e w1 he
      obtain ⟨rfl, ht⟩ := he
      obtain ⟨G', hG', ho1, hGG⟩ := id ht
      obtain ⟨l4, f4⟩ := HL.out w1 ho1
      have HH := Lib.hid ht
      clear ht hG' ho1 hGG cl c5
      go_wp2_with fail
      go_still_tail 13, (by kernel_rfl)
      change wpList _ _ _ _ _ w1.drew
      go_wp2_with fail
      go_ret
      obtain ⟨F', t1, t2, t3⟩ := HE.out w1 HH.out
      rw [List.length_drop] at t1 t2
      exact ⟨ret_bool (by simp), F', (DSys.framed ..).only t1 ((Only.refl (fun _ => False) _).drew) (fun _ _ e => e), ⟨t2.os, t2.tape, t2.output, t2.size, t2.block⟩, t3⟩
    · obtain rfl : n = (mm : Int) := by have := HW.out.2; omega
      obtain ⟨Ab, hsl, hrb⟩ := run_upto HW.out.1 hml
      have HQ := Lib.hid (HP.out Ab _ hrb)
      clear hrb
      go_enter Tryd.func36, Tryd.ntmps36
      go_wp2_with fail
      refine HQ.out.mono ?_
      intro e w1 he
      obtain ⟨rfl, ht⟩ := he
      obtain ⟨G', hG', ho1, hGG⟩ := id ht
      obtain ⟨l4, f4⟩ := HL.out w1 ho1
      have HH := Lib.hid ht
      clear ht hG' ho1 hGG cl c5
      go_wp2_with fail
      go_still_tail 13, (by kernel_rfl)
      change wpList _ _ _ _ _ w1.drew
      go_wp2_with fail
      go_ret
      obtain ⟨F', t1, t2, t3⟩ := HE.out w1 HH.out
      rw [List.length_drop] at t1 t2
      exact ⟨ret_bool (by simp), F', (DSys.framed ..).only t1 ((Only.refl (fun _ => False) _).drew) (fun _ _ e => e), ⟨t2.os, t2.tape, t2.output, t2.size, t2.block⟩, t3⟩
  · obtain rfl : mm = ws.length := by have := HW.out.2; omega
    have hrb := HW.out.1
    have HQ := Lib.hid (HP.out _ _ (by rw [List.take_length]; exact hrb))
    clear hrb
    go_enter Tryd.func36, Tryd.ntmps36
    go_wp2_with fail
    refine HQ.out.mono ?_
    intro e w1 he
    obtain ⟨rfl, ht⟩ := he
    obtain ⟨G', hG', ho1, hGG⟩ := id ht
    obtain ⟨l4, f4⟩ := HL.out w1 ho1
    have HH := Lib.hid ht
    clear ht hG' ho1 hGG cl c5
    go_wp2_with fail
    go_still_tail 13, (by kernel_rfl)
    change wpList _ _ _ _ _ w1.drew
    go_wp2_with fail
    go_ret
    obtain ⟨F', t1, t2, t3⟩ := HE.out w1 HH.out
    rw [List.length_drop] at t1 t2
    exact ⟨ret_bool (by simp), F', (DSys.framed ..).only t1 ((Only.refl (fun _ => False) _).drew) (fun _ _ e => e), ⟨t2.os, t2.tape, t2.output, t2.size, t2.block⟩, t3⟩
end
end Go.Proofs.YtfmmomdfmmoklaaDoor
namespace Go.Proofs.YtfmmomdfmmoklaaDoor
open Go.RowKit

/-- Two may come up: behind each S is shown anew. -/
theorem wpUpto.two {P : Program} {ops : Array Oper} {Q : Exit → Act → World → Prop} {md : Region.Mode} {S : World → Prop} {m : Nat} (i j : Nat) {n : Nat} {l : Array Bool} {a : Act} {w : World} (hr : Region.ready md ops l = [i, j])
    (h1 : ∀ o, ops[i]? = some o → ∀ K : Act → World → Prop, Shut (∀ a w, S w → (S w → wpUpto P md ops Q S m n (l.setIfInBounds i true) a w) → K a w) → if Region.wanted o (yielded ops a.tmps) = true then Oper.wp P o a w K Q else K (a.put o.dst undef) w)
    (h2 : ∀ o, ops[j]? = some o → ∀ K : Act → World → Prop, Shut (∀ a w, S w → (S w → wpUpto P md ops Q S m n (l.setIfInBounds j true) a w) → K a w) → if Region.wanted o (yielded ops a.tmps) = true then Oper.wp P o a w K Q else K (a.put o.dst undef) w) :
    wpUpto P md ops Q S m (n + 1) l a w := by
  refine ⟨fun h0 => absurd (hr ▸ h0) (by simp), fun k hk => ?_⟩
  obtain ⟨_, o, ho, _⟩ := mem_ready.1 hk
  rw [hr] at hk
  simp only [List.mem_cons, List.not_mem_nil, or_false] at hk
  rcases hk with rfl | rfl
  · exact wpOp_step ho fun K hK => h1 o ho K (fun a w hS hx => hK a w ⟨fun _ => hS, hx hS⟩)
  · exact wpOp_step ho fun K hK => h2 o ho K (fun a w hS hx => hK a w ⟨fun _ => hS, hx hS⟩)

/-- The document's queue of a side. -/
theorem DAt.queue {F : Nat → Prop} {w : World} {p room : Nat} {t : Nat → Way} (h : DAt F w p room t) (s : Nat) (hs : s < 2) : ∃ q, w.cell? ⟨p, s, none⟩ = some (.pointer (some ⟨q, 0, none⟩)) ∧ (∃ u, w.cell? ⟨q, 2, none⟩ = some u) ∧ w.frozen? ⟨q, 2, none⟩ = false ∧ F q ∧ DTurns F w (w.setCell ⟨q, 2, none⟩ (.bool true)) p room (upd t s ⟨true, (t s).xs⟩) := by
  obtain ⟨q, g, hB, hF⟩ := h.ex
  have hq0 := hB.que s hs
  obtain ⟨v, hq, hrow⟩ := id hq0
  refine ⟨q s, ?_, ⟨_, hq.cell 2⟩, hq.frozen 2, (hF.2 s hs).1, ?_⟩
  · rw [hB.blk.cell s]
    rcases (show s = 0 ∨ s = 1 by omega) with rfl | rfl <;> rfl
  · have ho : Only (fun b => b = q s ∨ some b = g s) w (w.setCell ⟨q s, 2, none⟩ (.bool true)) := (Only.refl (fun b => b = q s ∨ some b = g s) w).setCell (p := ⟨q s, 2, none⟩) (.inl (.inl rfl)) _
    have hq1 : MAt (w.setCell ⟨q s, 2, none⟩ (.bool true)) (q s) (g s) room true (dv (t s).xs) :=
      ⟨_, hq.set_ 2 _, hrow.far (p := ⟨q s, 2, none⟩) hq0.ne_ _⟩
    exact hB.turn h hF hs (y := ⟨true, (t s).xs⟩) (h.le s hs) (h.byte s hs) hq1 ho (.inl rfl)

/-- append([]byte{}, b...), and the list with that event behind it, as equations. -/
theorem own_new {T : Nat → Prop} {W : World} {g : Option Nat} {l : List Ev} {v : Value} {n0 : Nat} (d t : Int) (A : Option Addr) (c : Nat) (bs : List Nat) (h : EL (fun _ => False) T W g v l) (hrd : Rd W (.slice A bs.length c) (bv bs)) (hby : ∀ x ∈ bs, x < 256) (hx : bs.length ≤ 1048576) (hl : l.length ≤ 1048576)
    (hT : ∀ b, W.heap.size ≤ b → T b) (hT0 : ∀ b, T b → n0 ≤ b) (hn : n0 ≤ W.heap.size) :
    ∃ A5 c5 w5 A7 c7 w7 g7, (Builtin.append_ #[31, 31] 31 #[.slice (some ⟨W.heap.size, 0, none⟩) 0 0, .slice A bs.length c]).run Tryd.prog (W.drew.alloc (.cells #[] 5)) = .ok (.slice A5 bs.length c5) w5 ∧
      (Builtin.append_ #[30, 30] 30 #[v, .slice (some ⟨w5.heap.size, 0, none⟩) 1 1]).run Tryd.prog (w5.alloc (.cells #[.int .i64 d, .int .i64 t, .slice A5 bs.length c5] 69)) = .ok (.slice A7 (l.length + 1) c7) w7 ∧
      Below W.heap.size W w5 ∧ (∀ k, k < W.heap.size → g ≠ some k → w7.heap[k]? = W.heap[k]?) ∧ Below n0 W w7 ∧ EL (fun _ => False) T w7 g7 (.slice A7 (l.length + 1) c7) (l ++ [⟨d, t, A5, c5, bs⟩]) := by
  obtain ⟨i0, hi0, hz0, hz1, hz2⟩ := info_parts byte_info
  obtain ⟨v', w5, g5, hrun, hr, hgr, hg'⟩ := run_append_row (P := Tryd.prog) (W.drew.alloc (.cells #[] 5)) 31 31 31 5 i0 _ 1 Tryd.underlying31 hi0 hz0 hz1 hz2 rfl (Row.empty _ _ (some ⟨W.heap.size, 0, none⟩)) _ bs.length (bv bs) (by have := (Rd.alloc (w := W.drew) hrd (.cells #[] 5)).src (P := Tryd.prog) Tryd.underlying31; rwa [bv_len] at this) (by simp only [maxLen, List.length_nil]; omega) (by simp only [List.length_nil]; omega)
  obtain ⟨A5, c5, rfl⟩ := hr.form
  rw [List.nil_append] at hr hrun
  rw [bv_len] at hr hrun
  have hb5 : Below W.heap.size W w5 := ((Below.refl W.heap.size W).drew.alloc (Nat.le_refl _) _).grown hgr (by simp) (by simp)
  have hf5 : ∀ b, g5 = some b → W.heap.size ≤ b := by
    intro b e
    rcases hg' with e' | e'
    · rw [e'] at e; cases e
    · rw [e] at e'; simp at e'; omega
  have h5 := h.below hb5
  obtain ⟨A7, c7, w7, g7, hrun7, hr7, hgr7, hg7⟩ := append_ev (w := w5) 30 ⟨d, t, A5, c5, bs⟩ (h5.row.alloc _) (by omega)
  have hoa : EvOk (fun b => False ∨ (T b ∧ ∃ cs, (w5.alloc (.cells #[.int .i64 d, .int .i64 t, .slice A5 bs.length c5] 69)).heap[b]? = some (.cells cs 5 (0, 0)))) (w5.alloc (.cells #[.int .i64 d, .int .i64 t, .slice A5 bs.length c5] 69)) ⟨d, t, A5, c5, bs⟩ :=
    EvOk.ofRow (hr.alloc _) hby (by omega) fun b e hc => .inr ⟨hT b (hf5 b e), hc⟩
  have hn5 : n0 ≤ w5.heap.size := Nat.le_trans hn hb5.size
  refine ⟨A5, c5, w5, A7, c7, w7, g7, hrun, hrun7, hb5, fun k hk hgk => ?_, (((hb5.mono hn).alloc hn5 _).grown hgr7 (by simp; omega) (fun b e => hT0 b (h.fresh b e).1)), (h5.alloc _).snoc hoa hr7 hgr7 (by rw [World.size_alloc]; exact hg7) ⟨hT _ (by have := hb5.size; simp; omega), fun h => h⟩⟩
  have h1 := hb5.size
  exact (hgr7.block k (by simp; omega) (fun e => hgk e.symm)).trans ((Below.heap_alloc w5 _ k (by omega)).trans (hb5.block k hk))

section
variable {L : Nat → Nat} {m : Nat} {x : Sys} {A : Nat → Option Addr} {c : Nat → Nat} {g gT : Option Nat} {v vt : Value} {l : List Ev} {ts : List Int} {F A0 A1 B0 : Nat → Prop} {w w2 : World}

/-- A row's block. -/
theorem Row.obj8 {W : World} {e : TypeId} {g : Option Nat} {v : Value} {xs : List Value} (h : Row W e g v xs) {b : Nat} (hb : g = some b) : ∃ cs, W.heap[b]? = some (.cells cs e (0, 0)) := by
  obtain ⟨A, c, rfl, _, _, _, hg⟩ := h
  rcases hg with ⟨_, rfl⟩ | ⟨b', o, cs, _, rfl, _, hh, _⟩
  · cases hb
  · cases hb; exact ⟨cs, hh⟩

/-- What was read is noted, and waits. -/
theorem DRlF.took (hst : StarF (DLines L x) (DRl L m x) A0 B0 F w) (hr : DRlF L m x A c g v l gT vt ts B0 w2) {d : Nat} (hd : d < 2) {n t : Int} {ys : List Nat} (hys : x.got d n = ys) (hby : ∀ b ∈ ys, b < 256) (hn : ys.length ≤ 65536)
    (hl : DLines L (x.took d n t) A1 w2) (ho : Only A0 w w2) (hA1 : ∀ b, A1 b → A0 b ∨ w.heap.size ≤ b) {A9 : Option Addr} {c9 : Nat} {gt : Option Nat} (hrow : Row w2 5 gt (.slice A9 ys.length c9) (bv ys)) (hgt : ∀ b, gt = some b → w.heap.size ≤ b) (hgA : ∀ b, gt = some b → ¬ A1 b)
    {w3a w3 w7 w8 w9 : World} {gT' g7 : Option Nat} {vt' : Value} {A7 : Option Addr} {c7 : Nat} {T : Int} {A5 : Option Addr} {c5 : Nat}
    (h3 : (w2.alloc (.cells #[.int .i64 t] 2)).grownBy w3a gT) (rowT : Row w3a 2 gT' vt' (tv (ts ++ [t]))) (hT' : gT' = gT ∨ gT' = some (w2.alloc (.cells #[.int .i64 t] 2)).heap.size)
    (o3 : Only (fun b => b = m) w3a w3) (b3 : Blk w3 m 35 (drlCells L A c x v vt')) (hk7 : ∀ k, k < w3.heap.size → g ≠ some k → w7.heap[k]? = w3.heap[k]?) (hb7 : Below 0 w3 w7) (e7 : EL (fun _ => False) (fun b => B0 b ∨ w2.heap.size ≤ b) w7 g7 (.slice A7 (l.length + 1) c7) (l ++ [⟨d, T, A5, c5, ys⟩]))
    (hT : top x.ck t = T) (o8 : Only (fun b => b = m) w7 w8) (b8 : ∃ cs, Blk w8 m 35 cs) (o9 : Only (fun b => b = m) w8 w9) (b9 : Blk w9 m 35 (drlCells L (upn A d A9) (upn c d c9) (x.took d n t) (.slice A7 (l.length + 1) c7) vt')) :
    Turned (DSys L m (x.took d n t)) F w w9 := by
  have s2 := ho.size
  have s3 := h3.size
  simp only [World.size_alloc] at s3
  have s3' := o3.size
  have s7 := hb7.size
  have s8 := o8.size
  have s9 := o9.size
  have hmlt := hr.blk.lt
  have hgm : g ≠ some m := hr.el.row.ne_ hr.blk (by decide)
  have hTm : gT ≠ some m := hr.tm.ne_ hr.blk (by decide)
  have old3 : ∀ b, b < w2.heap.size → gT ≠ some b → w3a.heap[b]? = w2.heap[b]? := fun b hlt hne => (h3.block b (by simp; omega) (fun e => hne e.symm)).trans (Below.heap_alloc w2 _ b hlt)
  have old9 : ∀ b, b < w3a.heap.size → b ≠ m → g ≠ some b → w9.heap[b]? = w3a.heap[b]? := fun b hlt hne hg => (o9.block b (by omega) hne).trans ((o8.block b (by omega) hne).trans ((hk7 b (by omega) hg).trans (o3.block b hlt hne)))
  have oldb : ∀ b, b < w2.heap.size → (∃ cs, w2.heap[b]? = some (.cells cs 5 (0, 0))) → w9.heap[b]? = w2.heap[b]? := by
    rintro b hlt ⟨cs, hc⟩
    have n1 := byte_ne hc hr.blk (by decide)
    have n2 : g ≠ some b := fun e => by
      obtain ⟨cs', hh⟩ := hr.el.row.obj e
      rw [hh] at hc
      injection hc with hc
      injection hc with _ hc
      cases hc
    have n3 : gT ≠ some b := hr.tm.ne_ (q := b) (t := 5) (cs := cs) hc (by decide)
    rw [old9 b (by omega) n1 n2, old3 b hlt n3]
  have hTlt : ∀ b, gT' = some b → b < w3a.heap.size ∧ b ≠ m ∧ g ≠ some b := by
    intro b e
    refine ⟨rowT.lt e, ?_, fun eg => ?_⟩
    · rcases hT' with k | k
      · intro em; exact hTm (by rw [← k, e, em])
      · intro em; rw [e] at k; simp at k; omega
    · rcases hT' with k | k
      · have hgT : gT = some b := by rw [← k, e]
        obtain ⟨cs', hh⟩ := hr.el.row.obj eg
        exact hr.tm.ne_ (q := b) (t := 69) (cs := cs') hh (by decide) hgT
      · rw [e] at k; simp at k
        have := hr.el.row.lt eg; omega
  have hB2 : ∀ b, B0 b → b < w2.heap.size := hr.lt
  have hA2 : ∀ b, A1 b → b < w2.heap.size := fun b hb => (DLines.framed L (x.took d n t)).lt hl b hb
  have hA0 : ∀ b, A0 b → b < w.heap.size := fun b hb => (DLines.framed L x).lt hst.fst b hb
  have hB0 : ∀ b, B0 b → b < w.heap.size := fun b hb => (DRl.framed L m x).lt hst.snd b hb
  have hfin : DRlF L m (x.took d n t) (upn A d A9) (upn c d c9) g7 (.slice A7 (l.length + 1) c7) (l ++ [⟨d, T, A5, c5, ys⟩]) gT' vt' (ts ++ [t]) (fun b => (B0 b ∨ (w2.heap.size ≤ b ∧ b < w9.heap.size)) ∨ gt = some b) w9 := by
    have b7 : Blk w7 m 35 (drlCells L A c x v vt') := b3.keep (hk7 m b3.lt hgm)
    obtain ⟨cs8, b8⟩ := b8
    refine ⟨b9, ?_, ?_, fun j hj => ?_, rowT.keep (fun b e => old9 b (hTlt b e).1 (hTlt b e).2.1 (hTlt b e).2.2), fun b e => ?_, ?_, ?_, .inl (.inl hr.fr), ?_⟩
    · refine ((e7.farR b7 (by decide) (by decide) fun b hlt hne => o8.block b hlt hne).farR b8 (by decide) (by decide) fun b hlt hne => o9.block b hlt hne).grow fun b hlt hb => ?_
      rcases hb with hb | hb
      · exact .inl (.inl hb)
      · exact .inl (.inr ⟨hb, hlt⟩)
    · show pes (l ++ [_]) = x.ev ++ [_]
      rw [pes_snoc, hr.pe, hys, hT]; rfl
    · by_cases hjd : j = d
      · subst hjd
        show EvOk _ _ ⟨0, 0, upn A j A9 j, upn c j c9 j, upn x.ws j (x.got j n) j⟩
        rw [upn_at, upn_at, upn_at, hys]
        have hrow9 : Row w9 5 gt (.slice A9 ys.length c9) (bv ys) := hrow.keep fun b e => oldb b (hrow.lt e) (Row.obj8 hrow e)
        exact EvOk.ofRow hrow9 hby (by omega) fun b e hc => .inr ⟨.inr e, hc⟩
      · show EvOk _ _ ⟨0, 0, upn A d A9 j, upn c d c9 j, upn x.ws d (x.got d n) j⟩
        rw [upn_far _ _ hjd, upn_far _ _ hjd, upn_far _ _ hjd]
        exact Byts.grow (Byts.keep (hr.wt j hj) fun b hlt _ hc => oldb b hlt hc) fun b _ hb => .inl (.inl hb)
    · rcases hT' with k | k
      · exact .inl (.inl (hr.tF b (by rw [← k]; exact e)))
      · have := (hTlt b e).1
        rw [e] at k; simp at k
        exact .inl (.inr ⟨by omega, by omega⟩)
    · show seen (ts ++ [t]) = some (top x.ck t)
      unfold seen
      rw [List.foldl_append]
      show some (top (seen ts) t) = _
      rw [hr.sn]
    · show (ts ++ [t]).length = (x.ev ++ [_]).length
      rw [List.length_append, List.length_append, hr.tl]; rfl
    · rintro b ((hb | ⟨_, hb⟩) | hb)
      · have := hB2 b hb; omega
      · exact hb
      · have := hrow.lt hb; omega
  refine hst.both (DRl.framed ..) (DLines.framed L (x.took d n t)) (Q' := DRl L m (x.took d n t)) hl ho hA1 ⟨_, _, _, _, _, _, _, _, hfin⟩ ⟨?_, ?_, ?_, by omega, fun i hlt hB => ?_⟩ fun b hb => ?_
  · exact o9.os.trans (o8.os.trans (hb7.os.trans (o3.os.trans h3.os)))
  · exact o9.tape.trans (o8.tape.trans (hb7.tape.trans (o3.tape.trans h3.tape)))
  · exact o9.output.trans (o8.output.trans (hb7.output.trans (o3.output.trans h3.output)))
  · have n1 : i ≠ m := fun e => hB (e ▸ hr.fr)
    have n2 : g ≠ some i := fun e => hB (hr.el.fresh i e).1
    have n3 : gT ≠ some i := fun e => hB (hr.tF i e)
    rw [old9 i (by omega) n1 n2, old3 i hlt n3]
  · rcases hb with (hb | ⟨hb, _⟩) | hb
    · exact .inl hb
    · exact .inr ⟨by omega, fun ha => by have := hA2 b ha; omega⟩
    · exact .inr ⟨hgt b hb, hgA b hb⟩
end
end Go.Proofs.YtfmmomdfmmoklaaDoor
namespace Go.Proofs.YtfmmomdfmmoklaaDoor
open Go.RowKit

section
variable {L : Nat → Nat} {m : Nat} {x : Sys} {F : Nat → Prop} {w : World}

theorem Turned.before {P : Thing} {w1 w' : World} (t : Turned P F w1 w') (hb : Below w.heap.size w w1) : Turned P F w w' := by
  obtain ⟨F', h, ho, hF⟩ := t
  have hs := hb.size
  exact ⟨F', h, ⟨ho.os.trans hb.os, ho.tape.trans hb.tape, ho.output.trans hb.output, Nat.le_trans hs ho.size, fun i hi hFi => (ho.block i (by omega) hFi).trans (hb.block i hi)⟩, fun b hb' => (hF b hb').imp id (fun k => Nat.le_trans hs k)⟩

/-- Nothing was read: all is as it was. -/
theorem D_none {A0 B0 A1 : Nat → Prop} {w2 : World} (hst : StarF (DLines L x) (DRl L m x) A0 B0 F w) (hl : DLines L x A1 w2) (ho : Only A0 w w2) (hA1 : ∀ b, A1 b → A0 b ∨ w.heap.size ≤ b) : ∃ F2, StarF (DLines L x) (DRl L m x) A1 B0 F2 w2 ∧ Only F w w2 ∧ ∀ b, F2 b → F b ∨ w.heap.size ≤ b := by
  have hB0 : ∀ b, B0 b → b < w.heap.size := fun b hb => (DRl.framed L m x).lt hst.snd b hb
  refine ⟨fun b => A1 b ∨ B0 b, ⟨hl, (DRl.framed ..).only hst.snd ho (fun b hb ha => hst.ap b ha hb), fun b ha hb => ?_, fun _ => Iff.rfl⟩, ho.mono fun i _ hi => (hst.un i).2 (.inl hi), fun b hb => ?_⟩
  · rcases hA1 b ha with k | k
    · exact hst.ap b k hb
    · have := hB0 b hb; omega
  · rcases hb with hb | hb
    · exact (hA1 b hb).imp (fun k => (hst.un b).2 (.inl k)) id
    · exact .inl ((hst.un b).2 (.inr hb))

/-- The end was seen: it is kept, and handed on. -/
theorem D_ended {A0 B0 : Nat → Prop} (hst : StarF (DLines L x) (DRl L m x) A0 B0 F w) {d : Nat} (hd : d < 2) :
    w.frozen? ⟨m, 3 + d, none⟩ = false ∧ (∃ u, w.cell? ⟨m, 3 + d, none⟩ = some u) ∧ (w.setCell ⟨m, 3 + d, none⟩ (.bool true)).cell? ⟨m, d, none⟩ = some (.pointer (some ⟨L (1 - d), 0, none⟩)) ∧
    ∃ q, (w.setCell ⟨m, 3 + d, none⟩ (.bool true)).cell? ⟨L (1 - d), d, none⟩ = some (.pointer (some ⟨q, 0, none⟩)) ∧ (w.setCell ⟨m, 3 + d, none⟩ (.bool true)).frozen? ⟨q, 2, none⟩ = false ∧ (∃ u, (w.setCell ⟨m, 3 + d, none⟩ (.bool true)).cell? ⟨q, 2, none⟩ = some u) ∧
      Turned (DSys L m (x.ended d)) F w ((w.setCell ⟨m, 3 + d, none⟩ (.bool true)).setCell ⟨q, 2, none⟩ (.bool true)) := by
  obtain ⟨A, c, g, v, l, gT, vt, ts, hr⟩ := id hst.snd
  have hoS : Only (fun b => b = m) w (w.setCell ⟨m, 3 + d, none⟩ (.bool true)) := (Only.refl (fun b => b = m) w).setCell (p := ⟨m, 3 + d, none⟩) (.inl rfl) _
  have hb := hr.blk.set_ (3 + d) (.bool true)
  have hr2 : DRlF L m (x.ended d) A c g v l gT vt ts B0 (w.setCell ⟨m, 3 + d, none⟩ (.bool true)) := by
    refine hr.store (x' := x.ended d) hoS ?_ rfl rfl (fun _ hb => hb) (fun b hb => Nat.lt_of_lt_of_le (hr.lt b hb) hoS.size) fun j hj => .inl ⟨rfl, rfl, rfl⟩
    have e : drlCells L A c (x.ended d) v vt = (drlCells L A c x v vt).setIfInBounds (3 + d) (.bool true) := by
      rcases (show d = 0 ∨ d = 1 by omega) with rfl | rfl <;> simp [drlCells, Sys.ended, Sys.line, upn]
    rw [e]; exact hb
  have hl1 : DLines L x A0 (w.setCell ⟨m, 3 + d, none⟩ (.bool true)) := (DLines.framed ..).only hst.fst hoS (fun b ha e => by subst e; exact hst.ap _ ha hr.fr)
  obtain ⟨G, hp, hG, hturn, -⟩ := DLines.at hl1 (1 - d) (by omega)
  obtain ⟨q, q1, q2, q3, q4, q5⟩ := hp.queue d hd
  refine ⟨hr.blk.frozen _, ?_, ?_, q, q1, q3, q2, ?_⟩
  · rcases (show d = 0 ∨ d = 1 by omega) with rfl | rfl
    · exact ⟨_, hr.blk.cell 3⟩
    · exact ⟨_, hr.blk.cell 4⟩
  · rw [hr2.blk.cell d]
    rcases (show d = 0 ∨ d = 1 by omega) with rfl | rfl <;> rfl
  · have hdd : (1 - (1 - d)) = d := by omega
    have q5' : DTurns G (w.setCell ⟨m, 3 + d, none⟩ (.bool true)) ((w.setCell ⟨m, 3 + d, none⟩ (.bool true)).setCell ⟨q, 2, none⟩ (.bool true)) (L (1 - d)) x.rm (upd (dways x (1 - d)) (1 - (1 - d)) ⟨true, (x.out d).xs⟩) := by rw [hdd]; exact q5
    obtain ⟨A1, hl2, o2, hA1⟩ := hturn (1 - d) _ _ (by omega) q5'
    have hl2' : DLines L (x.ended d) A1 ((w.setCell ⟨m, 3 + d, none⟩ (.bool true)).setCell ⟨q, 2, none⟩ (.bool true)) := hl2
    have hsz := hoS.size
    refine (hst.swap.both (DLines.framed ..) (DRl.framed L m (x.ended d)) (P' := DRl L m (x.ended d)) (Q' := DLines L (x.ended d)) ⟨_, _, _, _, _, _, _, _, hr2⟩ (hoS.mono fun i _ e => by subst e; exact hr.fr) (fun b hb => .inl hb) hl2' o2 fun b hb => ?_).imp fun _ k => k.swap
    rcases hA1 b hb with k | k
    · exact .inl k
    · exact .inr ⟨by omega, fun hb' => by have := hr.lt b hb'; omega⟩

set_option maxHeartbeats 1000000 in
set_option maxRecDepth 100000 in
theorem D_shut0 (h : DSys L m x F w) (n t : Int) (hs : x.ov 0 = true ∨ x.shut 0 n = true) :
    Calls Tryd.prog 35 #[.pointer (some ⟨m, 0, none⟩), .int .i64 0, .int .i64 n, .int .i64 t] w (DDid L m F w (false, x)) := by
  have H := Lib.hid h
  obtain ⟨A0, B0, hst⟩ := h
  obtain ⟨A, c, g, v, l, gT, vt, ts, hr⟩ := id hst.snd
  obtain ⟨Ae, ce', rfl, -⟩ := hr.el.row.form
  have c0 : w.cell? ⟨m, 0, none⟩ = some (.pointer (some ⟨L 1, 0, none⟩)) := hr.blk.cell 0
  have c1 : w.cell? ⟨m, 1, none⟩ = some (.pointer (some ⟨L 0, 0, none⟩)) := hr.blk.cell 1
  have c2 : w.cell? ⟨m, 2, none⟩ = some (.slice Ae l.length ce') := hr.blk.cell 2
  have c3 : w.cell? ⟨m, 3, none⟩ = some (.bool (x.ov 0)) := hr.blk.cell 3
  have c4 : w.cell? ⟨m, 4, none⟩ = some (.bool (x.ov 1)) := hr.blk.cell 4
  have c5 : w.cell? ⟨m, 5, none⟩ = some (.slice (A 0) (x.ws 0).length (c 0)) := hr.blk.cell 5
  have hne : l.length = x.ev.length := by rw [← hr.pe, pes_len]
  rw [hne] at c2
  obtain ⟨k0, hk0⟩ : ∃ k0, (x.ws 0).length = k0 := ⟨_, rfl⟩
  obtain ⟨o0, ho0⟩ : ∃ o0, x.ov 0 = o0 := ⟨_, rfl⟩
  obtain ⟨o1, ho1⟩ : ∃ o1, x.ov 1 = o1 := ⟨_, rfl⟩
  obtain ⟨ne, hne'⟩ : ∃ ne, x.ev.length = ne := ⟨_, rfl⟩
  unfold Sys.shut at hs
  rw [hk0, hne'] at hs
  rw [ho0] at hs c3
  rw [ho1] at c4
  rw [hk0] at c5
  rw [hne'] at c2
  clear hst hr hne hk0 ho0 ho1 hne'
  simp only [Bool.or_eq_true, decide_eq_true_eq] at hs
  by_cases h1 : 0 < k0
  · clear hs
    go_enter Tryd.func35, Tryd.ntmps35
    go_wp2_with fail
    go_ret
    exact ⟨rfl, Turned.refl H.out⟩
  · obtain rfl : k0 = 0 := by omega
    clear h1
    cases o0 with
    | true =>
      clear hs
      go_enter Tryd.func35, Tryd.ntmps35
      go_wp2_with fail
      go_ret
      exact ⟨rfl, Turned.refl H.out⟩
    | false =>
      by_cases h3 : n < 1
      · clear hs
        go_enter Tryd.func35, Tryd.ntmps35
        go_wp2_with fail
        go_ret
        exact ⟨rfl, Turned.refl H.out⟩
      · have h4 : (4096 : Int) ≤ (ne : Int) := by
          simp [h3] at hs
          omega
        clear hs
        go_enter Tryd.func35, Tryd.ntmps35
        go_wp2_with fail
        go_ret
        exact ⟨rfl, Turned.refl H.out⟩

set_option maxHeartbeats 1000000 in
set_option maxRecDepth 100000 in
theorem D_shut1 (h : DSys L m x F w) (n t : Int) (hs : x.ov 0 = true ∨ x.shut 1 n = true) :
    Calls Tryd.prog 35 #[.pointer (some ⟨m, 0, none⟩), .int .i64 1, .int .i64 n, .int .i64 t] w (DDid L m F w (false, x)) := by
  have H := Lib.hid h
  obtain ⟨A0, B0, hst⟩ := h
  obtain ⟨A, c, g, v, l, gT, vt, ts, hr⟩ := id hst.snd
  obtain ⟨Ae, ce', rfl, -⟩ := hr.el.row.form
  have c0 : w.cell? ⟨m, 0, none⟩ = some (.pointer (some ⟨L 1, 0, none⟩)) := hr.blk.cell 0
  have c1 : w.cell? ⟨m, 1, none⟩ = some (.pointer (some ⟨L 0, 0, none⟩)) := hr.blk.cell 1
  have c2 : w.cell? ⟨m, 2, none⟩ = some (.slice Ae l.length ce') := hr.blk.cell 2
  have c3 : w.cell? ⟨m, 3, none⟩ = some (.bool (x.ov 0)) := hr.blk.cell 3
  have c4 : w.cell? ⟨m, 4, none⟩ = some (.bool (x.ov 1)) := hr.blk.cell 4
  have c5 : w.cell? ⟨m, 6, none⟩ = some (.slice (A 1) (x.ws 1).length (c 1)) := hr.blk.cell 6
  have hne : l.length = x.ev.length := by rw [← hr.pe, pes_len]
  rw [hne] at c2
  obtain ⟨k0, hk0⟩ : ∃ k0, (x.ws 1).length = k0 := ⟨_, rfl⟩
  obtain ⟨o0, ho0⟩ : ∃ o0, x.ov 0 = o0 := ⟨_, rfl⟩
  obtain ⟨o1, ho1⟩ : ∃ o1, x.ov 1 = o1 := ⟨_, rfl⟩
  obtain ⟨ne, hne'⟩ : ∃ ne, x.ev.length = ne := ⟨_, rfl⟩
  unfold Sys.shut at hs
  rw [hk0, hne'] at hs
  rw [ho0] at hs c3
  rw [ho1] at hs c4
  rw [hk0] at c5
  rw [hne'] at c2
  clear hst hr hne hk0 ho0 ho1 hne'
  simp only [Bool.or_eq_true, decide_eq_true_eq] at hs
  by_cases h1 : 0 < k0
  · clear hs
    go_enter Tryd.func35, Tryd.ntmps35
    go_wp2_with fail
    go_ret
    exact ⟨rfl, Turned.refl H.out⟩
  · obtain rfl : k0 = 0 := by omega
    clear h1
    cases o0 with
    | true =>
      clear hs
      go_enter Tryd.func35, Tryd.ntmps35
      go_wp2_with fail
      go_ret
      exact ⟨rfl, Turned.refl H.out⟩
    | false =>
      cases o1 with
      | true =>
        clear hs
        go_enter Tryd.func35, Tryd.ntmps35
        go_wp2_with fail
        go_ret
        exact ⟨rfl, Turned.refl H.out⟩
      | false =>
        by_cases h3 : n < 1
        · clear hs
          go_enter Tryd.func35, Tryd.ntmps35
          go_wp2_with fail
          go_ret
          exact ⟨rfl, Turned.refl H.out⟩
        · have h4 : (4096 : Int) ≤ (ne : Int) := by
            simp [h3] at hs
            omega
          clear hs
          go_enter Tryd.func35, Tryd.ntmps35
          go_wp2_with fail
          go_ret
          exact ⟨rfl, Turned.refl H.out⟩

set_option maxHeartbeats 2000000 in
set_option maxRecDepth 100000 in
theorem D_open0 (h : DSys L m x F w) (hx : x.Ok) (n t : Int) (h0 : x.ov 0 = false) (hs : x.shut 0 n = false) :
    Calls Tryd.prog 35 #[.pointer (some ⟨m, 0, none⟩), .int .i64 0, .int .i64 n, .int .i64 t] w (DDid L m F w (x.read 0 n t)) := by
  have hsh := hs
  obtain ⟨A0, B0, hst⟩ := h
  obtain ⟨A, c, g, v, l, gT, vt, ts, hr⟩ := id hst.snd
  obtain ⟨Ae, ce', rfl, -⟩ := hr.el.row.form
  have c0 : w.cell? ⟨m, 0, none⟩ = some (.pointer (some ⟨L 1, 0, none⟩)) := hr.blk.cell 0
  have c1 : w.cell? ⟨m, 1, none⟩ = some (.pointer (some ⟨L 0, 0, none⟩)) := hr.blk.cell 1
  have c2 : w.cell? ⟨m, 2, none⟩ = some (.slice Ae l.length ce') := hr.blk.cell 2
  have c3 : w.cell? ⟨m, 3, none⟩ = some (.bool (x.ov 0)) := hr.blk.cell 3
  have c4 : w.cell? ⟨m, 4, none⟩ = some (.bool (x.ov 1)) := hr.blk.cell 4
  have c5 : w.cell? ⟨m, 5, none⟩ = some (.slice (A 0) (x.ws 0).length (c 0)) := hr.blk.cell 5
  have hne : l.length = x.ev.length := by rw [← hr.pe, pes_len]
  simp only [Sys.shut, Bool.or_eq_false_iff, decide_eq_false_iff_not] at hs
  obtain ⟨⟨⟨h1, h2⟩, h3⟩, h4⟩ := hs
  have hk0 : (x.ws 0).length = 0 := by omega
  have hlen := hx.len
  obtain ⟨ne, hne'⟩ : ∃ ne, l.length = ne := ⟨_, rfl⟩
  have h4' : ¬ ((4096 : Int) ≤ (ne : Int)) := by omega
  have hne4 : ne < 4096 := by omega
  rw [hk0] at c5
  rw [h0] at c3
  skip
  rw [hne'] at c2
  obtain ⟨n2, hn2⟩ : ∃ n2 : Int, x.room n = n2 := ⟨_, rfl⟩
  have hroom := D_room hst.snd hx n
  rw [hn2] at hroom
  obtain ⟨ys, hys⟩ : ∃ ys, x.got 0 n = ys := ⟨_, rfl⟩
  have hyb : ∀ b ∈ ys, b < 256 := fun b hb => hx.byte 0 (by omega) 1 (by omega) b (by rw [← hys] at hb; exact List.mem_of_mem_take hb)
  have hyl : ys.length ≤ 65536 := by rw [← hys]; have := x.got_le 0 n; have := x.room_le n; omega
  obtain ⟨ov, hov⟩ : ∃ ov, ((x.inc 0).en && (x.inc 0).xs.isEmpty) = ov := ⟨_, rfl⟩
  have HR := Lib.hid hroom
  have HL := Lib.hid (And.intro hst (And.intro hr (And.intro hx (And.intro hsh (And.intro h0 (And.intro hys (And.intro hn2 (And.intro hov (And.intro hk0 hne')))))))))
  obtain ⟨P, hP⟩ : ∃ P, L 0 = P := ⟨_, rfl⟩
  obtain ⟨P2, hP2⟩ : ∃ P, L 1 = P := ⟨_, rfl⟩
  have HPP := Lib.hid (And.intro hP hP2)
  rw [hP2] at c0
  rw [hP] at c1
  have hlt := hr.blk.lt
  clear hst hr hx hsh h0 hys hn2 hov hk0 hne hroom hP hP2 h1 h2 h4 hlen hne'
  go_enter Tryd.func35, Tryd.ntmps35
  go_wp2_with fail
  refine HR.out.mono ?_
  rintro e w1 ⟨rfl, hb1⟩
  have H1 : Hid (StarF (DLines L x) (DRl L m x) A0 B0 F w1 ∧ DRlF L m x A c g (.slice Ae l.length ce') l gT vt ts B0 w1 ∧ Below w.heap.size w w1) := by
    have hoB : Only (fun _ => False) w w1 := Only.of_below hb1 (Nat.le_refl _) _
    exact ⟨⟨(DLines.framed ..).only HL.out.1.fst hoB (fun _ _ e => e), (DRl.framed ..).only HL.out.1.snd hoB (fun _ _ e => e), HL.out.1.ap, HL.out.1.un⟩, HL.out.2.1.only hoB (fun _ _ e => e), hb1⟩
  have HRD : Hid (Calls Tryd.prog 14 #[.pointer (some ⟨P, 0, none⟩), .int .i64 0, .int .i64 n2] w1 fun e w2 => ∃ A9 c9 gt A1, e = .returned (.slice A9 ys.length c9) ∧ Row w2 5 gt (.slice A9 ys.length c9) (bv ys) ∧ (∀ b, gt = some b → w1.heap.size ≤ b) ∧
      DLines L (x.line 0 1 ⟨(x.inc 0).en, (x.inc 0).xs.drop n2.toNat⟩) A1 w2 ∧ Only A0 w1 w2 ∧ (∀ b, A1 b → A0 b ∨ w1.heap.size ≤ b) ∧ ∀ b, gt = some b → ¬ A1 b) := by
    obtain ⟨G, hp, hG, -, hown⟩ := DLines.at H1.out.1.fst 0 (by omega)
    have := DRead_own hp 0 (by omega) n2
    rw [HPP.out.1] at this
    have e1 : ((dways x 0) 0).xs.take n2.toNat = ys := by rw [← HL.out.2.2.2.2.2.1, ← HL.out.2.2.2.2.2.2.1]; rfl
    rw [e1] at this
    refine this.mono ?_
    rintro e w2 ⟨A9, c9, gt, rfl, hrow, hgt, hd⟩
    rw [← HPP.out.1] at hd
    obtain ⟨A1, k1, k2, k3, k4⟩ := hown 1 _ w2 gt (by omega) hd hgt
    exact ⟨A9, c9, gt, A1, rfl, hrow, hgt, k1, k2, k3, k4⟩
  clear hb1 c2 c3 c4 c5
  go_wp2_with fail
  refine HRD.out.mono ?_
  rintro e w2 ⟨A9, c9, gt, A1, rfl, hrow, hgt, hl2, ho2, hA1, hgA⟩
  have hr2 : DRlF L m x A c g (.slice Ae l.length ce') l gT vt ts B0 w2 := H1.out.2.1.only ho2 (fun b hb ha => H1.out.1.ap b ha hb)
  have H2 := Lib.hid (And.intro hr2 (And.intro hrow (And.intro hgt (And.intro hl2 (And.intro ho2 (And.intro hA1 hgA))))))
  have c2 : w2.cell? ⟨m, 2, none⟩ = some (.slice Ae ne ce') := by have h := hr2.blk.cell 2; rw [← HL.out.2.2.2.2.2.2.2.2.2]; exact h
  have c7 : w2.cell? ⟨m, 7, none⟩ = some vt := hr2.blk.cell 7
  have hlt2 := hr2.blk.lt
  clear hr2 hrow hgt hl2 ho2 hA1 hgA HRD
  by_cases hy0 : 0 < ys.length
  · obtain ⟨AT, cT, hvt⟩ := H2.out.1.tm.form
    rw [tv_len] at hvt
    subst hvt
    have htsl : ts.length = ne := by rw [H2.out.1.tl, ← HL.out.2.2.2.2.2.2.2.2.2, ← pes_len, H2.out.1.pe]
    have htl4 : ts.length < 4096 := by omega
    have HTS := Lib.hid htsl
    clear htsl
    obtain ⟨j0, hj0, hj1, hj2, hj3⟩ := info_parts i64_info
    go_wp2_with (at_builtin; refine wpList_append_row _ rfl (.tmp 73) (.tmp 75) _ rfl 2 j0 _ 8 Tryd.underlying33 hj0 hj1 hj2 hj3 rfl gT _ (tv ts) rfl (by have h := H2.out.1.tm; exact h.alloc _) _ (tv [t]) rfl (Rd.lit w2 2 #[.int .i64 t] 1 rfl (by omega) (by omega) (by simp [Value.oneCell'])) (by rw [tv_len, tv_len]; simp only [maxLen, List.length_cons, List.length_nil]; omega) (by rw [tv_len, tv_len]; simp only [List.length_cons, List.length_nil]; omega) ?_; intro A' c' w3a gT' hrow' hgr hg'; simp only [tv_len, List.length_cons, List.length_nil, Nat.zero_add] at hrow' ⊢; have b3a := (H2.out.1.blk.alloc (.cells #[.int .i64 t] 2)).keep (hgr.block m (by simp; omega) (fun e => H2.out.1.tm.ne_ H2.out.1.blk (by decide) e.symm)); have f7 : w3a.frozen? ⟨m, 7, none⟩ = false := b3a.frozen 7; have q7 : w3a.cell? ⟨m, 7, none⟩ = some (.slice AT ts.length cT) := b3a.cell 7; have Y := Lib.hid (And.intro hrow' (And.intro hgr (And.intro hg' b3a))); clear hrow' hgr hg' b3a)
    generalize hW3 : World.setCell w3a _ _ = w3
    have b3 : Blk w3 m 35 (drlCells L A c x (.slice Ae l.length ce') (.slice A' (ts.length + 1) c')) := by
      rw [← hW3]; exact Y.out.2.2.2.set_ 7 (.slice A' (ts.length + 1) c')
    have o3 : Only (fun b => b = m) w3a w3 := by rw [← hW3]; exact (Only.refl (fun b => b = m) w3a).setCell (p := ⟨m, 7, none⟩) (.inl rfl) _
    have rowT3 : Row w3 2 gT' (.slice A' (ts.length + 1) c') (tv (ts ++ [t])) := by
      have h := Y.out.1
      rw [show tv ts ++ tv [t] = tv (ts ++ [t]) by simp [tv]] at h
      rw [← hW3]; exact h.far (p := ⟨m, 7, none⟩) (h.ne_ Y.out.2.2.2 (by decide)) _
    have s3a := Y.out.2.1.size
    simp only [World.size_alloc] at s3a
    have s3 := o3.size
    have hold : ∀ b, b < w2.heap.size → b ≠ m → gT ≠ some b → w3.heap[b]? = w2.heap[b]? := fun b hb hne hg => (o3.block b (by omega) hne).trans ((Y.out.2.1.block b (by simp; omega) (fun e => hg e.symm)).trans (Below.heap_alloc w2 _ b hb))
    have el3 : EL (fun _ => False) (fun b => B0 b ∨ w2.heap.size ≤ b) w3 g (.slice Ae l.length ce') l := by
      refine (H2.out.1.el.keep (W' := w3) fun b hb hc => ?_).grow fun b _ hb => .inl hb
      rcases hc with hc | ⟨_, cs, tt, htt, hc⟩
      · exact hc.elim
      · refine hold b hb ?_ ?_
        · rintro rfl
          have hm := H2.out.1.blk
          unfold Blk at hm
          rw [hm] at hc
          injection hc with hc
          injection hc with _ hc
          rcases htt with rfl | rfl <;> cases hc
        · rcases htt with rfl | rfl
          · exact H2.out.1.tm.ne_ (q := b) (cs := cs) hc (by decide)
          · exact H2.out.1.tm.ne_ (q := b) (cs := cs) hc (by decide)
    have hrd3 : Rd w3 (.slice A9 ys.length c9) (bv ys) := by
      refine (Row.keep H2.out.2.1 fun b e => ?_).rd
      obtain ⟨cs, hc⟩ := Row.obj8 H2.out.2.1 e
      exact hold b (H2.out.2.1.lt e) (byte_ne hc H2.out.1.blk (by decide)) (H2.out.1.tm.ne_ (q := b) (cs := cs) hc (by decide))
    obtain ⟨T, hT⟩ : ∃ T, top x.ck t = T := ⟨_, rfl⟩
    have hG : ∀ W, Below w3.heap.size w3 W → Calls Tryd.prog 52 #[.slice A' (ts.length + 1) c'] W fun e w' => e = .returned (.int .i64 T) ∧ W = w' := by
      intro W hW
      refine (Greatest_any A' (ts.length + 1) c' (ts ++ [t]) W ((rowT3.below hW (fun b e => rowT3.lt e)).rd) (by omega) (by omega)).mono ?_
      rintro e w' ⟨gg, rfl, hgg, rfl⟩
      refine ⟨?_, rfl⟩
      have h : seen (ts ++ [t]) = some (top (seen ts) t) := by unfold seen; rw [List.foldl_append]; rfl
      rw [h, H2.out.1.sn, hT] at hgg
      cases hgg
      rfl
    obtain ⟨A5, c5x, w5, A7, c7x, w7, g7, hrun5, hrun7, hb5, hk7, hb7, e7⟩ := own_new (W := w3) (n0 := 0) (0 : Int) T A9 c9 ys el3 hrd3 (by exact hyb) (by omega) (by rw [HL.out.2.2.2.2.2.2.2.2.2]; omega) (fun b hb => .inr (by omega)) (fun _ _ => Nat.zero_le _) (Nat.zero_le _)
    have hgm : g ≠ some m := H2.out.1.el.row.ne_ H2.out.1.blk (by decide)
    have b7 : Blk w7 m 35 (drlCells L A c x (.slice Ae l.length ce') (.slice A' (ts.length + 1) c')) := b3.keep (hk7 m b3.lt hgm)
    have b5 := b3.below hb5 b3.lt
    rw [HL.out.2.2.2.2.2.2.2.2.2] at hrun7
    have k2 : w3.cell? ⟨m, 2, none⟩ = some (.slice Ae ne ce') := by have h := b3.cell 2; rw [← HL.out.2.2.2.2.2.2.2.2.2]; exact h
    have k7 : w3.cell? ⟨m, 7, none⟩ = some (.slice A' (ts.length + 1) c') := b3.cell 7
    have l2 : w5.cell? ⟨m, 2, none⟩ = some (.slice Ae ne ce') := by have h := b5.cell 2; rw [← HL.out.2.2.2.2.2.2.2.2.2]; exact h
    have l7 : w5.cell? ⟨m, 7, none⟩ = some (.slice A' (ts.length + 1) c') := b5.cell 7
    have r2 : w7.cell? ⟨m, 2, none⟩ = some (.slice Ae ne ce') := by have h := b7.cell 2; rw [← HL.out.2.2.2.2.2.2.2.2.2]; exact h
    have r7 : w7.cell? ⟨m, 7, none⟩ = some (.slice A' (ts.length + 1) c') := b7.cell 7
    have rf : w7.frozen? ⟨m, 2, none⟩ = false := b7.frozen 2
    have lw3 : m < w3.heap.size := b3.lt
    have lw5 : m < w5.heap.size := b5.lt
    have HG0 := Lib.hid (hG w3.drew ⟨rfl, rfl, rfl, Nat.le_refl _, fun _ _ => rfl⟩)
    have HG1 := Lib.hid (hG (w3.drew.alloc (.cells #[] 5)) (((Below.refl w3.heap.size w3).drew).alloc (Nat.le_refl _) _))
    have HZ := Lib.hid (And.intro b3 (And.intro o3 (And.intro rowT3 (And.intro hk7 (And.intro hb7 (And.intro e7 (And.intro b7 hT)))))))
    clear b3 o3 rowT3 hk7 hb7 e7 b7 hT hG el3 hrd3 hold hW3 b5 hb5 hgm c2 c7 q7 f7
    go_wp2_with fail
    refine wp_region_noPanic ?_
    refine wp_region_upto (fun V => V.cell? ⟨m, 2, none⟩ = some (.slice Ae ne ce') ∧ V.cell? ⟨m, 7, none⟩ = some (.slice A' (ts.length + 1) c')) 19 (by kernel_rfl) ?_ (fun hHeld => ?_)
    · exact ⟨k2, k7⟩
    refine wpUpto.take 0 (by kernel_rfl) (by kernel_rfl) (by kernel_rfl) (by kernel_rfl) (by assumption) ?_
    intro o ho
    simp only [List.getElem?_toArray, List.getElem?_cons_zero, Option.some.injEq] at ho
    subst ho
    refine ⟨?_, fun _ _ _ h => h, Or.inl ⟨by rfl, ?_⟩, ?_⟩
    rotate_left
    · intro w hSw
      go_simp
      try with_reducible rfl
    simp only [Act.put, List.setIfInBounds_toArray, List.set_cons_zero, List.set_cons_succ]
    refine wpUpto.take 1 (by kernel_rfl) (by kernel_rfl) (by kernel_rfl) (by kernel_rfl) (by assumption) ?_
    intro o ho
    simp only [List.getElem?_toArray, List.getElem?_cons_succ, List.getElem?_cons_zero, Option.some.injEq] at ho
    subst ho
    refine ⟨?_, fun _ _ _ h => h, Or.inl ⟨by rfl, ?_⟩, ?_⟩
    rotate_left
    · intro w hSw
      go_simp
      try with_reducible rfl
    simp only [Act.put, List.setIfInBounds_toArray, List.set_cons_zero, List.set_cons_succ]
    refine wpUpto.take 2 (by kernel_rfl) (by kernel_rfl) (by kernel_rfl) (by kernel_rfl) (by assumption) ?_
    intro o ho
    simp only [List.getElem?_toArray, List.getElem?_cons_succ, List.getElem?_cons_zero, Option.some.injEq] at ho
    subst ho
    refine ⟨?_, fun _ _ _ h => h, Or.inl ⟨by rfl, ?_⟩, ?_⟩
    rotate_left
    · intro w hSw
      go_simp
      try with_reducible rfl
    simp only [Act.put, List.setIfInBounds_toArray, List.set_cons_zero, List.set_cons_succ]
    refine wpUpto.take 3 (by kernel_rfl) (by kernel_rfl) (by kernel_rfl) (by kernel_rfl) (by assumption) ?_
    intro o ho
    simp only [List.getElem?_toArray, List.getElem?_cons_succ, List.getElem?_cons_zero, Option.some.injEq] at ho
    subst ho
    refine ⟨?_, fun _ _ _ h => h, Or.inl ⟨by rfl, ?_⟩, ?_⟩
    rotate_left
    · intro w hSw
      go_simp
      try with_reducible rfl
    simp only [Act.put, List.setIfInBounds_toArray, List.set_cons_zero, List.set_cons_succ]
    refine wpUpto.take 4 (by kernel_rfl) (by kernel_rfl) (by kernel_rfl) (by kernel_rfl) (by assumption) ?_
    intro o ho
    simp only [List.getElem?_toArray, List.getElem?_cons_succ, List.getElem?_cons_zero, Option.some.injEq] at ho
    subst ho
    refine ⟨?_, fun _ _ _ h => h, Or.inl ⟨by rfl, ?_⟩, ?_⟩
    rotate_left
    · intro w hSw
      go_simp
      try with_reducible rfl
    simp only [Act.put, List.setIfInBounds_toArray, List.set_cons_zero, List.set_cons_succ]
    refine wpUpto.take 5 (by kernel_rfl) (by kernel_rfl) (by kernel_rfl) (by kernel_rfl) (by assumption) ?_
    intro o ho
    simp only [List.getElem?_toArray, List.getElem?_cons_succ, List.getElem?_cons_zero, Option.some.injEq] at ho
    subst ho
    refine ⟨?_, fun _ _ _ h => h, Or.inl ⟨by rfl, ?_⟩, ?_⟩
    rotate_left
    · intro w hSw
      go_simp
      try with_reducible rfl
    simp only [Act.put, List.setIfInBounds_toArray, List.set_cons_zero, List.set_cons_succ]
    refine wpUpto.take 6 (by kernel_rfl) (by kernel_rfl) (by kernel_rfl) (by kernel_rfl) (by assumption) ?_
    intro o ho
    simp only [List.getElem?_toArray, List.getElem?_cons_succ, List.getElem?_cons_zero, Option.some.injEq] at ho
    subst ho
    refine ⟨?_, fun _ _ _ h => h, Or.inl ⟨by rfl, ?_⟩, ?_⟩
    rotate_left
    · intro w hSw
      go_simp
      try with_reducible rfl
    simp only [Act.put, List.setIfInBounds_toArray, List.set_cons_zero, List.set_cons_succ]
    refine wpUpto.take 7 (by kernel_rfl) (by kernel_rfl) (by kernel_rfl) (by kernel_rfl) (by assumption) ?_
    intro o ho
    simp only [List.getElem?_toArray, List.getElem?_cons_succ, List.getElem?_cons_zero, Option.some.injEq] at ho
    subst ho
    refine ⟨?_, fun _ _ _ h => h, Or.inl ⟨by rfl, ?_⟩, ?_⟩
    rotate_left
    · intro w hSw
      go_simp
      try with_reducible rfl
    simp only [Act.put, List.setIfInBounds_toArray, List.set_cons_zero, List.set_cons_succ]
    refine wpUpto.take 8 (by kernel_rfl) (by kernel_rfl) (by kernel_rfl) (by kernel_rfl) (by assumption) ?_
    intro o ho
    simp only [List.getElem?_toArray, List.getElem?_cons_succ, List.getElem?_cons_zero, Option.some.injEq] at ho
    subst ho
    refine ⟨?_, fun _ _ _ h => h, Or.inl ⟨by rfl, ?_⟩, ?_⟩
    rotate_left
    · intro w hSw
      go_simp
      try with_reducible rfl
    simp only [Act.put, List.setIfInBounds_toArray, List.set_cons_zero, List.set_cons_succ]
    refine wpUpto.take 9 (by kernel_rfl) (by kernel_rfl) (by kernel_rfl) (by kernel_rfl) (by assumption) ?_
    intro o ho
    simp only [List.getElem?_toArray, List.getElem?_cons_succ, List.getElem?_cons_zero, Option.some.injEq] at ho
    subst ho
    refine ⟨?_, fun _ _ _ h => h, Or.inl ⟨by rfl, ?_⟩, ?_⟩
    rotate_left
    · intro w hSw
      go_simp
      try with_reducible rfl
    simp only [Act.put, List.setIfInBounds_toArray, List.set_cons_zero, List.set_cons_succ]
    refine wpUpto.take 12 (by kernel_rfl) (by kernel_rfl) (by kernel_rfl) (by kernel_rfl) (by assumption) ?_
    intro o ho
    simp only [List.getElem?_toArray, List.getElem?_cons_succ, List.getElem?_cons_zero, Option.some.injEq] at ho
    subst ho
    refine ⟨?_, fun _ _ _ h => h, Or.inl ⟨by rfl, ?_⟩, ?_⟩
    rotate_left
    · intro w hSw
      go_simp
      try with_reducible rfl
    simp only [Act.put, List.setIfInBounds_toArray, List.set_cons_zero, List.set_cons_succ]
    refine wpUpto.two 10 11 (by kernel_rfl) ?_ ?_
    · intro o ho K hK
      simp only [List.getElem?_toArray, List.getElem?_cons_succ, List.getElem?_cons_zero, Option.some.injEq] at ho
      subst ho
      go_simp
      go_at_call 52
      refine HG0.out.mono ?_
      rintro e w' ⟨rfl, rfl⟩
      refine hK.out _ _ ?_ (fun hHeld => ?_)
      · exact ⟨k2, k7⟩
      clear hK K
      try simp only [Act.put, List.setIfInBounds_toArray, List.set_cons_zero, List.set_cons_succ]
      refine wpUpto.one 11 (by kernel_rfl) ?_
      intro o ho K hK
      simp only [List.getElem?_toArray, List.getElem?_cons_succ, List.getElem?_cons_zero, Option.some.injEq] at ho
      subst ho
      go_simp
      refine hK.out _ _ ?_ (fun hHeld => ?_)
      · go_keep
      clear hK K
      try simp only [Act.put, List.setIfInBounds_toArray, List.set_cons_zero, List.set_cons_succ]
      refine wpUpto.one 13 (by kernel_rfl) ?_
      intro o ho K hK
      simp only [List.getElem?_toArray, List.getElem?_cons_succ, List.getElem?_cons_zero, Option.some.injEq] at ho
      subst ho
      refine step_append_run rfl (.tmp 90) (.tmp 91) _ rfl _ _ _ _ rfl rfl hrun5 ?_
      refine hK.out _ _ ?_ (fun hHeld => ?_)
      · exact ⟨l2, l7⟩
      clear hK K
      try simp only [Act.put, List.setIfInBounds_toArray, List.set_cons_zero, List.set_cons_succ]
      refine wpUpto.one 14 (by kernel_rfl) ?_
      intro o ho K hK
      simp only [List.getElem?_toArray, List.getElem?_cons_succ, List.getElem?_cons_zero, Option.some.injEq] at ho
      subst ho
      go_simp
      refine hK.out _ _ ?_ (fun hHeld => ?_)
      · exact ⟨l2, l7⟩
      clear hK K
      try simp only [Act.put, List.setIfInBounds_toArray, List.set_cons_zero, List.set_cons_succ]
      refine wpUpto.one 15 (by kernel_rfl) ?_
      intro o ho K hK
      simp only [List.getElem?_toArray, List.getElem?_cons_succ, List.getElem?_cons_zero, Option.some.injEq] at ho
      subst ho
      go_simp
      refine hK.out _ _ ?_ (fun hHeld => ?_)
      · go_keep
      clear hK K
      try simp only [Act.put, List.setIfInBounds_toArray, List.set_cons_zero, List.set_cons_succ]
      refine wpUpto.one 16 (by kernel_rfl) ?_
      intro o ho K hK
      simp only [List.getElem?_toArray, List.getElem?_cons_succ, List.getElem?_cons_zero, Option.some.injEq] at ho
      subst ho
      refine step_append_run rfl (.tmp 83) (.tmp 94) _ rfl _ _ _ _ rfl rfl hrun7 ?_
      refine hK.out _ _ ?_ (fun hHeld => ?_)
      · exact ⟨r2, r7⟩
      clear hK K
      try simp only [Act.put, List.setIfInBounds_toArray, List.set_cons_zero, List.set_cons_succ]
      refine wpUpto.one 17 (by kernel_rfl) ?_
      intro o ho K hK
      simp only [List.getElem?_toArray, List.getElem?_cons_succ, List.getElem?_cons_zero, Option.some.injEq] at ho
      subst ho
      go_simp
      refine hK.out _ _ ?_ (fun hHeld => ?_)
      · exact ⟨r2, r7⟩
      clear hK K
      try simp only [Act.put, List.setIfInBounds_toArray, List.set_cons_zero, List.set_cons_succ]
      refine wpUpto.one 18 (by kernel_rfl) ?_
      intro o ho K hK
      simp only [List.getElem?_toArray, List.getElem?_cons_succ, List.getElem?_cons_zero, Option.some.injEq] at ho
      subst ho
      go_simp
      refine hK.out _ _ ?_ (fun hHeld => ?_)
      · exact ⟨r2, r7⟩
      clear hK K
      try simp only [Act.put, List.setIfInBounds_toArray, List.set_cons_zero, List.set_cons_succ]
      refine wpUpto.last (by kernel_rfl) ?_
      intro o ho K hK
      simp only [List.getElem?_toArray, List.getElem?_cons_succ, List.getElem?_cons_zero, Option.some.injEq] at ho
      subst ho
      go_simp
      refine hK.out _ _ ?_
      clear hK K
      refine wpUpto.done (by kernel_rfl) ?_ _
      refine NoPanic.normal ?_
      try simp only [Act.put, List.setIfInBounds_toArray, List.set_cons_zero, List.set_cons_succ]
      generalize hW8 : World.setCell w7 _ _ = w8
      have b8 : Blk w8 m 35 (drlCells L A c x (.slice A7 (l.length + 1) c7x) (.slice A' (ts.length + 1) c')) := by
        rw [← hW8, HL.out.2.2.2.2.2.2.2.2.2]; exact HZ.out.2.2.2.2.2.2.1.set_ 2 (.slice A7 (ne + 1) c7x)
      have o8 : Only (fun b => b = m) w7 w8 := by rw [← hW8]; exact (Only.refl (fun b => b = m) w7).setCell (p := ⟨m, 2, none⟩) (.inl rfl) _
      have u5 : w8.cell? ⟨m, 5, none⟩ = some (.slice (A 0) (x.ws 0).length (c 0)) := b8.cell 5
      have v5 : w8.frozen? ⟨m, 5, none⟩ = false := b8.frozen 5
      have HB8 := Lib.hid (And.intro b8 o8)
      clear b8 o8 hW8
      go_wp2_with fail
      go_ret
      obtain ⟨hst, hr, hx, hsh, h0, hys, hn2, hov, hk0, hnn⟩ := HL.out
      have e : x.read 0 n t = (true, x.took 0 n t) := by
        unfold Sys.read
        rw [if_neg (by simp [hsh]), if_pos (by rw [hys]; intro e; rw [e] at hy0; simp at hy0)]
      rw [e]
      have hT3 := Y.out.1
      rw [show tv ts ++ tv [t] = tv (ts ++ [t]) by simp [tv]] at hT3
      have hl2 := H2.out.2.2.2.1
      rw [← hn2] at hl2
      have b9 := HB8.out.1.set_ 5 (.slice A9 ys.length c9)
      have e9 : drlCells L (upn A 0 A9) (upn c 0 c9) (x.took 0 n t) (.slice A7 (l.length + 1) c7x) (.slice A' (ts.length + 1) c') = (drlCells L A c x (.slice A7 (l.length + 1) c7x) (.slice A' (ts.length + 1) c')).setIfInBounds 5 (.slice A9 ys.length c9) := by
        simp [drlCells, Sys.took, Sys.line, upn, hys]
      rw [← e9] at b9
      exact ⟨rfl, Turned.before (DRlF.took H1.out.1 H2.out.1 (by omega) hys hyb hyl hl2 H2.out.2.2.2.2.1 H2.out.2.2.2.2.2.1 H2.out.2.1 H2.out.2.2.1 H2.out.2.2.2.2.2.2 Y.out.2.1 hT3 Y.out.2.2.1 HZ.out.2.1 HZ.out.1 HZ.out.2.2.2.1 HZ.out.2.2.2.2.1 HZ.out.2.2.2.2.2.1 HZ.out.2.2.2.2.2.2.2 HB8.out.2 ⟨_, HB8.out.1⟩ ((Only.refl (fun b => b = m) w8).setCell (p := ⟨m, 5, none⟩) (.inl rfl) _) b9) H1.out.2.2⟩
    · intro o ho K hK
      simp only [List.getElem?_toArray, List.getElem?_cons_succ, List.getElem?_cons_zero, Option.some.injEq] at ho
      subst ho
      go_simp
      refine hK.out _ _ ?_ (fun hHeld => ?_)
      · go_keep
      clear hK K
      try simp only [Act.put, List.setIfInBounds_toArray, List.set_cons_zero, List.set_cons_succ]
      refine wpUpto.one 10 (by kernel_rfl) ?_
      intro o ho K hK
      simp only [List.getElem?_toArray, List.getElem?_cons_succ, List.getElem?_cons_zero, Option.some.injEq] at ho
      subst ho
      go_simp
      go_at_call 52
      refine HG1.out.mono ?_
      rintro e w' ⟨rfl, rfl⟩
      refine hK.out _ _ ?_ (fun hHeld => ?_)
      · go_keep
      clear hK K
      try simp only [Act.put, List.setIfInBounds_toArray, List.set_cons_zero, List.set_cons_succ]
      refine wpUpto.one 13 (by kernel_rfl) ?_
      intro o ho K hK
      simp only [List.getElem?_toArray, List.getElem?_cons_succ, List.getElem?_cons_zero, Option.some.injEq] at ho
      subst ho
      refine step_append_run rfl (.tmp 90) (.tmp 91) _ rfl _ _ _ _ rfl rfl hrun5 ?_
      refine hK.out _ _ ?_ (fun hHeld => ?_)
      · exact ⟨l2, l7⟩
      clear hK K
      try simp only [Act.put, List.setIfInBounds_toArray, List.set_cons_zero, List.set_cons_succ]
      refine wpUpto.one 14 (by kernel_rfl) ?_
      intro o ho K hK
      simp only [List.getElem?_toArray, List.getElem?_cons_succ, List.getElem?_cons_zero, Option.some.injEq] at ho
      subst ho
      go_simp
      refine hK.out _ _ ?_ (fun hHeld => ?_)
      · exact ⟨l2, l7⟩
      clear hK K
      try simp only [Act.put, List.setIfInBounds_toArray, List.set_cons_zero, List.set_cons_succ]
      refine wpUpto.one 15 (by kernel_rfl) ?_
      intro o ho K hK
      simp only [List.getElem?_toArray, List.getElem?_cons_succ, List.getElem?_cons_zero, Option.some.injEq] at ho
      subst ho
      go_simp
      refine hK.out _ _ ?_ (fun hHeld => ?_)
      · go_keep
      clear hK K
      try simp only [Act.put, List.setIfInBounds_toArray, List.set_cons_zero, List.set_cons_succ]
      refine wpUpto.one 16 (by kernel_rfl) ?_
      intro o ho K hK
      simp only [List.getElem?_toArray, List.getElem?_cons_succ, List.getElem?_cons_zero, Option.some.injEq] at ho
      subst ho
      refine step_append_run rfl (.tmp 83) (.tmp 94) _ rfl _ _ _ _ rfl rfl hrun7 ?_
      refine hK.out _ _ ?_ (fun hHeld => ?_)
      · exact ⟨r2, r7⟩
      clear hK K
      try simp only [Act.put, List.setIfInBounds_toArray, List.set_cons_zero, List.set_cons_succ]
      refine wpUpto.one 17 (by kernel_rfl) ?_
      intro o ho K hK
      simp only [List.getElem?_toArray, List.getElem?_cons_succ, List.getElem?_cons_zero, Option.some.injEq] at ho
      subst ho
      go_simp
      refine hK.out _ _ ?_ (fun hHeld => ?_)
      · exact ⟨r2, r7⟩
      clear hK K
      try simp only [Act.put, List.setIfInBounds_toArray, List.set_cons_zero, List.set_cons_succ]
      refine wpUpto.one 18 (by kernel_rfl) ?_
      intro o ho K hK
      simp only [List.getElem?_toArray, List.getElem?_cons_succ, List.getElem?_cons_zero, Option.some.injEq] at ho
      subst ho
      go_simp
      refine hK.out _ _ ?_ (fun hHeld => ?_)
      · exact ⟨r2, r7⟩
      clear hK K
      try simp only [Act.put, List.setIfInBounds_toArray, List.set_cons_zero, List.set_cons_succ]
      refine wpUpto.last (by kernel_rfl) ?_
      intro o ho K hK
      simp only [List.getElem?_toArray, List.getElem?_cons_succ, List.getElem?_cons_zero, Option.some.injEq] at ho
      subst ho
      go_simp
      refine hK.out _ _ ?_
      clear hK K
      refine wpUpto.done (by kernel_rfl) ?_ _
      refine NoPanic.normal ?_
      try simp only [Act.put, List.setIfInBounds_toArray, List.set_cons_zero, List.set_cons_succ]
      generalize hW8 : World.setCell w7 _ _ = w8
      have b8 : Blk w8 m 35 (drlCells L A c x (.slice A7 (l.length + 1) c7x) (.slice A' (ts.length + 1) c')) := by
        rw [← hW8, HL.out.2.2.2.2.2.2.2.2.2]; exact HZ.out.2.2.2.2.2.2.1.set_ 2 (.slice A7 (ne + 1) c7x)
      have o8 : Only (fun b => b = m) w7 w8 := by rw [← hW8]; exact (Only.refl (fun b => b = m) w7).setCell (p := ⟨m, 2, none⟩) (.inl rfl) _
      have u5 : w8.cell? ⟨m, 5, none⟩ = some (.slice (A 0) (x.ws 0).length (c 0)) := b8.cell 5
      have v5 : w8.frozen? ⟨m, 5, none⟩ = false := b8.frozen 5
      have HB8 := Lib.hid (And.intro b8 o8)
      clear b8 o8 hW8
      go_wp2_with fail
      go_ret
      obtain ⟨hst, hr, hx, hsh, h0, hys, hn2, hov, hk0, hnn⟩ := HL.out
      have e : x.read 0 n t = (true, x.took 0 n t) := by
        unfold Sys.read
        rw [if_neg (by simp [hsh]), if_pos (by rw [hys]; intro e; rw [e] at hy0; simp at hy0)]
      rw [e]
      have hT3 := Y.out.1
      rw [show tv ts ++ tv [t] = tv (ts ++ [t]) by simp [tv]] at hT3
      have hl2 := H2.out.2.2.2.1
      rw [← hn2] at hl2
      have b9 := HB8.out.1.set_ 5 (.slice A9 ys.length c9)
      have e9 : drlCells L (upn A 0 A9) (upn c 0 c9) (x.took 0 n t) (.slice A7 (l.length + 1) c7x) (.slice A' (ts.length + 1) c') = (drlCells L A c x (.slice A7 (l.length + 1) c7x) (.slice A' (ts.length + 1) c')).setIfInBounds 5 (.slice A9 ys.length c9) := by
        simp [drlCells, Sys.took, Sys.line, upn, hys]
      rw [← e9] at b9
      exact ⟨rfl, Turned.before (DRlF.took H1.out.1 H2.out.1 (by omega) hys hyb hyl hl2 H2.out.2.2.2.2.1 H2.out.2.2.2.2.2.1 H2.out.2.1 H2.out.2.2.1 H2.out.2.2.2.2.2.2 Y.out.2.1 hT3 Y.out.2.2.1 HZ.out.2.1 HZ.out.1 HZ.out.2.2.2.1 HZ.out.2.2.2.2.1 HZ.out.2.2.2.2.2.1 HZ.out.2.2.2.2.2.2.2 HB8.out.2 ⟨_, HB8.out.1⟩ ((Only.refl (fun b => b = m) w8).setCell (p := ⟨m, 5, none⟩) (.inl rfl) _) b9) H1.out.2.2⟩
  · have hyn : ys.length = 0 := by omega
    have HN : Hid (StarF (DLines L x) (DRl L m x) A1 B0 (fun b => A1 b ∨ B0 b) w2 ∧ Only F w1 w2 ∧ (∀ b, (A1 b ∨ B0 b) → F b ∨ w1.heap.size ≤ b)) := by
      have hl2 := H2.out.2.2.2.1
      have e : (x.inc 0).xs.drop n2.toNat = (x.inc 0).xs := by
        have h0 : (x.got 0 n).length = 0 := by rw [HL.out.2.2.2.2.2.1]; exact hyn
        unfold Sys.got at h0
        rw [HL.out.2.2.2.2.2.2.1, List.length_take] at h0
        rcases Nat.eq_zero_or_pos n2.toNat with h | h
        · rw [h, List.drop_zero]
        · have : (x.inc 0).xs = [] := List.eq_nil_of_length_eq_zero (by omega)
          rw [this, List.drop_nil]
      have e2 : x.line 0 1 ⟨(x.inc 0).en, (x.inc 0).xs⟩ = x := Sys.line_same x 0 1
      rw [e, e2] at hl2
      obtain ⟨F2, k1, k2, k3⟩ := D_none H1.out.1 hl2 H2.out.2.2.2.2.1 H2.out.2.2.2.2.2.1
      exact ⟨⟨k1.fst, k1.snd, k1.ap, fun _ => Iff.rfl⟩, k2, fun b hb => k3 b ((k1.un b).2 hb)⟩
    have HO : Hid (Calls Tryd.prog 23 #[.pointer (some ⟨P, 0, none⟩), .int .i64 0] w2 fun e w' => e = .returned (.bool ov) ∧ w2 = w') := by
      obtain ⟨G, hp, -, -, -⟩ := DLines.at HN.out.1.fst 0 (by omega)
      have h := DOver_at hp 0 (by omega)
      rw [HPP.out.1] at h
      rw [← HL.out.2.2.2.2.2.2.2.1]; exact h
    rw [hyn]
    have HYN := Lib.hid hyn
    clear hy0 hyn c2 c7
    cases hov2 : ov with
    | false =>
      subst hov2
      go_wp2_with fail
      refine HO.out.mono ?_
      rintro e w3 ⟨rfl, rfl⟩
      go_wp2_with fail
      go_ret
      obtain ⟨hst, hr, hx, hsh, h0, hys, hn2, hov, hk0, hnn⟩ := HL.out
      have e : x.read 0 n t = (false, x) := by
        unfold Sys.read
        rw [if_neg (by simp [hsh]), if_neg (by rw [hys, List.eq_nil_of_length_eq_zero HYN.out]; simp), if_neg (by rw [hov]; simp)]
      rw [e]
      exact ⟨rfl, Turned.before ⟨_, ⟨A1, B0, HN.out.1⟩, HN.out.2.1, HN.out.2.2⟩ H1.out.2.2⟩
    | true =>
      subst hov2
      obtain ⟨z1, ⟨u1, z2⟩, z3, q, z4, z5, ⟨u2, z6⟩, z7⟩ := D_ended HN.out.1 (d := 0) (by omega)
      simp only [Nat.add_zero, Nat.sub_zero] at z1 z2 z3 z4 z5 z6 z7
      generalize hW4 : World.setCell w2 _ _ = w4 at z3 z4 z5 z6 z7
      rw [HPP.out.2] at z3 z4
      have HZ7 := Lib.hid z7
      have HW4 := Lib.hid hW4
      clear z7 hW4
      go_wp2_with fail
      refine HO.out.mono ?_
      rintro e w3 ⟨rfl, rfl⟩
      go_upto_region 20 with (fail)
      rw [HW4.out]
      go_wp2_with fail
      go_ret
      obtain ⟨hst, hr, hx, hsh, h0, hys, hn2, hov, hk0, hnn⟩ := HL.out
      have e : x.read 0 n t = (true, x.ended 0) := by
        unfold Sys.read
        rw [if_neg (by simp [hsh]), if_neg (by rw [hys, List.eq_nil_of_length_eq_zero HYN.out]; simp), if_pos hov]
      rw [e]
      have t7 := Turned.before HZ7.out (Below.refl _ _)
      refine ⟨rfl, Turned.before ?_ H1.out.2.2⟩
      obtain ⟨F', t1, t2, t3⟩ := HZ7.out
      have s2 := HN.out.2.1.size
      exact ⟨F', t1, ⟨t2.os.trans HN.out.2.1.os, t2.tape.trans HN.out.2.1.tape, t2.output.trans HN.out.2.1.output, Nat.le_trans s2 t2.size, fun i hi hF => (t2.block i (by omega) (fun hb => by
        rcases HN.out.2.2 i hb with k | k
        · exact hF k
        · omega)).trans (HN.out.2.1.block i hi hF)⟩, fun b hb => by
        rcases t3 b hb with k | k
        · exact HN.out.2.2 b k
        · exact .inr (Nat.le_trans s2 k)⟩

set_option maxHeartbeats 2000000 in
set_option maxRecDepth 100000 in
theorem D_open1 (h : DSys L m x F w) (hx : x.Ok) (n t : Int) (h0 : x.ov 0 = false) (hs : x.shut 1 n = false) :
    Calls Tryd.prog 35 #[.pointer (some ⟨m, 0, none⟩), .int .i64 1, .int .i64 n, .int .i64 t] w (DDid L m F w (x.read 1 n t)) := by
  have hsh := hs
  obtain ⟨A0, B0, hst⟩ := h
  obtain ⟨A, c, g, v, l, gT, vt, ts, hr⟩ := id hst.snd
  obtain ⟨Ae, ce', rfl, -⟩ := hr.el.row.form
  have c0 : w.cell? ⟨m, 0, none⟩ = some (.pointer (some ⟨L 1, 0, none⟩)) := hr.blk.cell 0
  have c1 : w.cell? ⟨m, 1, none⟩ = some (.pointer (some ⟨L 0, 0, none⟩)) := hr.blk.cell 1
  have c2 : w.cell? ⟨m, 2, none⟩ = some (.slice Ae l.length ce') := hr.blk.cell 2
  have c3 : w.cell? ⟨m, 3, none⟩ = some (.bool (x.ov 0)) := hr.blk.cell 3
  have c4 : w.cell? ⟨m, 4, none⟩ = some (.bool (x.ov 1)) := hr.blk.cell 4
  have c5 : w.cell? ⟨m, 6, none⟩ = some (.slice (A 1) (x.ws 1).length (c 1)) := hr.blk.cell 6
  have hne : l.length = x.ev.length := by rw [← hr.pe, pes_len]
  simp only [Sys.shut, Bool.or_eq_false_iff, decide_eq_false_iff_not] at hs
  obtain ⟨⟨⟨h1, h2⟩, h3⟩, h4⟩ := hs
  have hk0 : (x.ws 1).length = 0 := by omega
  have hlen := hx.len
  obtain ⟨ne, hne'⟩ : ∃ ne, l.length = ne := ⟨_, rfl⟩
  have h4' : ¬ ((4096 : Int) ≤ (ne : Int)) := by omega
  have hne4 : ne < 4096 := by omega
  rw [hk0] at c5
  rw [h0] at c3
  rw [h2] at c4
  rw [hne'] at c2
  obtain ⟨n2, hn2⟩ : ∃ n2 : Int, x.room n = n2 := ⟨_, rfl⟩
  have hroom := D_room hst.snd hx n
  rw [hn2] at hroom
  obtain ⟨ys, hys⟩ : ∃ ys, x.got 1 n = ys := ⟨_, rfl⟩
  have hyb : ∀ b ∈ ys, b < 256 := fun b hb => hx.byte 1 (by omega) 0 (by omega) b (by rw [← hys] at hb; exact List.mem_of_mem_take hb)
  have hyl : ys.length ≤ 65536 := by rw [← hys]; have := x.got_le 1 n; have := x.room_le n; omega
  obtain ⟨ov, hov⟩ : ∃ ov, ((x.inc 1).en && (x.inc 1).xs.isEmpty) = ov := ⟨_, rfl⟩
  have HR := Lib.hid hroom
  have HL := Lib.hid (And.intro hst (And.intro hr (And.intro hx (And.intro hsh (And.intro h0 (And.intro hys (And.intro hn2 (And.intro hov (And.intro hk0 hne')))))))))
  obtain ⟨P, hP⟩ : ∃ P, L 1 = P := ⟨_, rfl⟩
  obtain ⟨P2, hP2⟩ : ∃ P, L 0 = P := ⟨_, rfl⟩
  have HPP := Lib.hid (And.intro hP hP2)
  rw [hP] at c0
  rw [hP2] at c1
  have hlt := hr.blk.lt
  clear hst hr hx hsh h0 hys hn2 hov hk0 hne hroom hP hP2 h1 h2 h4 hlen hne'
  go_enter Tryd.func35, Tryd.ntmps35
  go_wp2_with fail
  refine HR.out.mono ?_
  rintro e w1 ⟨rfl, hb1⟩
  have H1 : Hid (StarF (DLines L x) (DRl L m x) A0 B0 F w1 ∧ DRlF L m x A c g (.slice Ae l.length ce') l gT vt ts B0 w1 ∧ Below w.heap.size w w1) := by
    have hoB : Only (fun _ => False) w w1 := Only.of_below hb1 (Nat.le_refl _) _
    exact ⟨⟨(DLines.framed ..).only HL.out.1.fst hoB (fun _ _ e => e), (DRl.framed ..).only HL.out.1.snd hoB (fun _ _ e => e), HL.out.1.ap, HL.out.1.un⟩, HL.out.2.1.only hoB (fun _ _ e => e), hb1⟩
  have HRD : Hid (Calls Tryd.prog 14 #[.pointer (some ⟨P, 0, none⟩), .int .i64 1, .int .i64 n2] w1 fun e w2 => ∃ A9 c9 gt A1, e = .returned (.slice A9 ys.length c9) ∧ Row w2 5 gt (.slice A9 ys.length c9) (bv ys) ∧ (∀ b, gt = some b → w1.heap.size ≤ b) ∧
      DLines L (x.line 1 0 ⟨(x.inc 1).en, (x.inc 1).xs.drop n2.toNat⟩) A1 w2 ∧ Only A0 w1 w2 ∧ (∀ b, A1 b → A0 b ∨ w1.heap.size ≤ b) ∧ ∀ b, gt = some b → ¬ A1 b) := by
    obtain ⟨G, hp, hG, -, hown⟩ := DLines.at H1.out.1.fst 1 (by omega)
    have := DRead_own hp 1 (by omega) n2
    rw [HPP.out.1] at this
    have e1 : ((dways x 1) 1).xs.take n2.toNat = ys := by rw [← HL.out.2.2.2.2.2.1, ← HL.out.2.2.2.2.2.2.1]; rfl
    rw [e1] at this
    refine this.mono ?_
    rintro e w2 ⟨A9, c9, gt, rfl, hrow, hgt, hd⟩
    rw [← HPP.out.1] at hd
    obtain ⟨A1, k1, k2, k3, k4⟩ := hown 0 _ w2 gt (by omega) hd hgt
    exact ⟨A9, c9, gt, A1, rfl, hrow, hgt, k1, k2, k3, k4⟩
  clear hb1 c2 c3 c4 c5
  go_wp2_with fail
  refine HRD.out.mono ?_
  rintro e w2 ⟨A9, c9, gt, A1, rfl, hrow, hgt, hl2, ho2, hA1, hgA⟩
  have hr2 : DRlF L m x A c g (.slice Ae l.length ce') l gT vt ts B0 w2 := H1.out.2.1.only ho2 (fun b hb ha => H1.out.1.ap b ha hb)
  have H2 := Lib.hid (And.intro hr2 (And.intro hrow (And.intro hgt (And.intro hl2 (And.intro ho2 (And.intro hA1 hgA))))))
  have c2 : w2.cell? ⟨m, 2, none⟩ = some (.slice Ae ne ce') := by have h := hr2.blk.cell 2; rw [← HL.out.2.2.2.2.2.2.2.2.2]; exact h
  have c7 : w2.cell? ⟨m, 7, none⟩ = some vt := hr2.blk.cell 7
  have hlt2 := hr2.blk.lt
  clear hr2 hrow hgt hl2 ho2 hA1 hgA HRD
  by_cases hy0 : 0 < ys.length
  · obtain ⟨AT, cT, hvt⟩ := H2.out.1.tm.form
    rw [tv_len] at hvt
    subst hvt
    have htsl : ts.length = ne := by rw [H2.out.1.tl, ← HL.out.2.2.2.2.2.2.2.2.2, ← pes_len, H2.out.1.pe]
    have htl4 : ts.length < 4096 := by omega
    have HTS := Lib.hid htsl
    clear htsl
    obtain ⟨j0, hj0, hj1, hj2, hj3⟩ := info_parts i64_info
    go_wp2_with (at_builtin; refine wpList_append_row _ rfl (.tmp 73) (.tmp 75) _ rfl 2 j0 _ 8 Tryd.underlying33 hj0 hj1 hj2 hj3 rfl gT _ (tv ts) rfl (by have h := H2.out.1.tm; exact h.alloc _) _ (tv [t]) rfl (Rd.lit w2 2 #[.int .i64 t] 1 rfl (by omega) (by omega) (by simp [Value.oneCell'])) (by rw [tv_len, tv_len]; simp only [maxLen, List.length_cons, List.length_nil]; omega) (by rw [tv_len, tv_len]; simp only [List.length_cons, List.length_nil]; omega) ?_; intro A' c' w3a gT' hrow' hgr hg'; simp only [tv_len, List.length_cons, List.length_nil, Nat.zero_add] at hrow' ⊢; have b3a := (H2.out.1.blk.alloc (.cells #[.int .i64 t] 2)).keep (hgr.block m (by simp; omega) (fun e => H2.out.1.tm.ne_ H2.out.1.blk (by decide) e.symm)); have f7 : w3a.frozen? ⟨m, 7, none⟩ = false := b3a.frozen 7; have q7 : w3a.cell? ⟨m, 7, none⟩ = some (.slice AT ts.length cT) := b3a.cell 7; have Y := Lib.hid (And.intro hrow' (And.intro hgr (And.intro hg' b3a))); clear hrow' hgr hg' b3a)
    generalize hW3 : World.setCell w3a _ _ = w3
    have b3 : Blk w3 m 35 (drlCells L A c x (.slice Ae l.length ce') (.slice A' (ts.length + 1) c')) := by
      rw [← hW3]; exact Y.out.2.2.2.set_ 7 (.slice A' (ts.length + 1) c')
    have o3 : Only (fun b => b = m) w3a w3 := by rw [← hW3]; exact (Only.refl (fun b => b = m) w3a).setCell (p := ⟨m, 7, none⟩) (.inl rfl) _
    have rowT3 : Row w3 2 gT' (.slice A' (ts.length + 1) c') (tv (ts ++ [t])) := by
      have h := Y.out.1
      rw [show tv ts ++ tv [t] = tv (ts ++ [t]) by simp [tv]] at h
      rw [← hW3]; exact h.far (p := ⟨m, 7, none⟩) (h.ne_ Y.out.2.2.2 (by decide)) _
    have s3a := Y.out.2.1.size
    simp only [World.size_alloc] at s3a
    have s3 := o3.size
    have hold : ∀ b, b < w2.heap.size → b ≠ m → gT ≠ some b → w3.heap[b]? = w2.heap[b]? := fun b hb hne hg => (o3.block b (by omega) hne).trans ((Y.out.2.1.block b (by simp; omega) (fun e => hg e.symm)).trans (Below.heap_alloc w2 _ b hb))
    have el3 : EL (fun _ => False) (fun b => B0 b ∨ w2.heap.size ≤ b) w3 g (.slice Ae l.length ce') l := by
      refine (H2.out.1.el.keep (W' := w3) fun b hb hc => ?_).grow fun b _ hb => .inl hb
      rcases hc with hc | ⟨_, cs, tt, htt, hc⟩
      · exact hc.elim
      · refine hold b hb ?_ ?_
        · rintro rfl
          have hm := H2.out.1.blk
          unfold Blk at hm
          rw [hm] at hc
          injection hc with hc
          injection hc with _ hc
          rcases htt with rfl | rfl <;> cases hc
        · rcases htt with rfl | rfl
          · exact H2.out.1.tm.ne_ (q := b) (cs := cs) hc (by decide)
          · exact H2.out.1.tm.ne_ (q := b) (cs := cs) hc (by decide)
    have hrd3 : Rd w3 (.slice A9 ys.length c9) (bv ys) := by
      refine (Row.keep H2.out.2.1 fun b e => ?_).rd
      obtain ⟨cs, hc⟩ := Row.obj8 H2.out.2.1 e
      exact hold b (H2.out.2.1.lt e) (byte_ne hc H2.out.1.blk (by decide)) (H2.out.1.tm.ne_ (q := b) (cs := cs) hc (by decide))
    obtain ⟨T, hT⟩ : ∃ T, top x.ck t = T := ⟨_, rfl⟩
    have hG : ∀ W, Below w3.heap.size w3 W → Calls Tryd.prog 52 #[.slice A' (ts.length + 1) c'] W fun e w' => e = .returned (.int .i64 T) ∧ W = w' := by
      intro W hW
      refine (Greatest_any A' (ts.length + 1) c' (ts ++ [t]) W ((rowT3.below hW (fun b e => rowT3.lt e)).rd) (by omega) (by omega)).mono ?_
      rintro e w' ⟨gg, rfl, hgg, rfl⟩
      refine ⟨?_, rfl⟩
      have h : seen (ts ++ [t]) = some (top (seen ts) t) := by unfold seen; rw [List.foldl_append]; rfl
      rw [h, H2.out.1.sn, hT] at hgg
      cases hgg
      rfl
    obtain ⟨A5, c5x, w5, A7, c7x, w7, g7, hrun5, hrun7, hb5, hk7, hb7, e7⟩ := own_new (W := w3) (n0 := 0) (1 : Int) T A9 c9 ys el3 hrd3 (by exact hyb) (by omega) (by rw [HL.out.2.2.2.2.2.2.2.2.2]; omega) (fun b hb => .inr (by omega)) (fun _ _ => Nat.zero_le _) (Nat.zero_le _)
    have hgm : g ≠ some m := H2.out.1.el.row.ne_ H2.out.1.blk (by decide)
    have b7 : Blk w7 m 35 (drlCells L A c x (.slice Ae l.length ce') (.slice A' (ts.length + 1) c')) := b3.keep (hk7 m b3.lt hgm)
    have b5 := b3.below hb5 b3.lt
    rw [HL.out.2.2.2.2.2.2.2.2.2] at hrun7
    have k2 : w3.cell? ⟨m, 2, none⟩ = some (.slice Ae ne ce') := by have h := b3.cell 2; rw [← HL.out.2.2.2.2.2.2.2.2.2]; exact h
    have k7 : w3.cell? ⟨m, 7, none⟩ = some (.slice A' (ts.length + 1) c') := b3.cell 7
    have l2 : w5.cell? ⟨m, 2, none⟩ = some (.slice Ae ne ce') := by have h := b5.cell 2; rw [← HL.out.2.2.2.2.2.2.2.2.2]; exact h
    have l7 : w5.cell? ⟨m, 7, none⟩ = some (.slice A' (ts.length + 1) c') := b5.cell 7
    have r2 : w7.cell? ⟨m, 2, none⟩ = some (.slice Ae ne ce') := by have h := b7.cell 2; rw [← HL.out.2.2.2.2.2.2.2.2.2]; exact h
    have r7 : w7.cell? ⟨m, 7, none⟩ = some (.slice A' (ts.length + 1) c') := b7.cell 7
    have rf : w7.frozen? ⟨m, 2, none⟩ = false := b7.frozen 2
    have lw3 : m < w3.heap.size := b3.lt
    have lw5 : m < w5.heap.size := b5.lt
    have HG0 := Lib.hid (hG w3.drew ⟨rfl, rfl, rfl, Nat.le_refl _, fun _ _ => rfl⟩)
    have HG1 := Lib.hid (hG (w3.drew.alloc (.cells #[] 5)) (((Below.refl w3.heap.size w3).drew).alloc (Nat.le_refl _) _))
    have HZ := Lib.hid (And.intro b3 (And.intro o3 (And.intro rowT3 (And.intro hk7 (And.intro hb7 (And.intro e7 (And.intro b7 hT)))))))
    clear b3 o3 rowT3 hk7 hb7 e7 b7 hT hG el3 hrd3 hold hW3 b5 hb5 hgm c2 c7 q7 f7
    go_wp2_with fail
    refine wp_region_noPanic ?_
    refine wp_region_upto (fun V => V.cell? ⟨m, 2, none⟩ = some (.slice Ae ne ce') ∧ V.cell? ⟨m, 7, none⟩ = some (.slice A' (ts.length + 1) c')) 19 (by kernel_rfl) ?_ (fun hHeld => ?_)
    · exact ⟨k2, k7⟩
    refine wpUpto.take 0 (by kernel_rfl) (by kernel_rfl) (by kernel_rfl) (by kernel_rfl) (by assumption) ?_
    intro o ho
    simp only [List.getElem?_toArray, List.getElem?_cons_zero, Option.some.injEq] at ho
    subst ho
    refine ⟨?_, fun _ _ _ h => h, Or.inl ⟨by rfl, ?_⟩, ?_⟩
    rotate_left
    · intro w hSw
      go_simp
      try with_reducible rfl
    simp only [Act.put, List.setIfInBounds_toArray, List.set_cons_zero, List.set_cons_succ]
    refine wpUpto.take 1 (by kernel_rfl) (by kernel_rfl) (by kernel_rfl) (by kernel_rfl) (by assumption) ?_
    intro o ho
    simp only [List.getElem?_toArray, List.getElem?_cons_succ, List.getElem?_cons_zero, Option.some.injEq] at ho
    subst ho
    refine ⟨?_, fun _ _ _ h => h, Or.inl ⟨by rfl, ?_⟩, ?_⟩
    rotate_left
    · intro w hSw
      go_simp
      try with_reducible rfl
    simp only [Act.put, List.setIfInBounds_toArray, List.set_cons_zero, List.set_cons_succ]
    refine wpUpto.take 2 (by kernel_rfl) (by kernel_rfl) (by kernel_rfl) (by kernel_rfl) (by assumption) ?_
    intro o ho
    simp only [List.getElem?_toArray, List.getElem?_cons_succ, List.getElem?_cons_zero, Option.some.injEq] at ho
    subst ho
    refine ⟨?_, fun _ _ _ h => h, Or.inl ⟨by rfl, ?_⟩, ?_⟩
    rotate_left
    · intro w hSw
      go_simp
      try with_reducible rfl
    simp only [Act.put, List.setIfInBounds_toArray, List.set_cons_zero, List.set_cons_succ]
    refine wpUpto.take 3 (by kernel_rfl) (by kernel_rfl) (by kernel_rfl) (by kernel_rfl) (by assumption) ?_
    intro o ho
    simp only [List.getElem?_toArray, List.getElem?_cons_succ, List.getElem?_cons_zero, Option.some.injEq] at ho
    subst ho
    refine ⟨?_, fun _ _ _ h => h, Or.inl ⟨by rfl, ?_⟩, ?_⟩
    rotate_left
    · intro w hSw
      go_simp
      try with_reducible rfl
    simp only [Act.put, List.setIfInBounds_toArray, List.set_cons_zero, List.set_cons_succ]
    refine wpUpto.take 4 (by kernel_rfl) (by kernel_rfl) (by kernel_rfl) (by kernel_rfl) (by assumption) ?_
    intro o ho
    simp only [List.getElem?_toArray, List.getElem?_cons_succ, List.getElem?_cons_zero, Option.some.injEq] at ho
    subst ho
    refine ⟨?_, fun _ _ _ h => h, Or.inl ⟨by rfl, ?_⟩, ?_⟩
    rotate_left
    · intro w hSw
      go_simp
      try with_reducible rfl
    simp only [Act.put, List.setIfInBounds_toArray, List.set_cons_zero, List.set_cons_succ]
    refine wpUpto.take 5 (by kernel_rfl) (by kernel_rfl) (by kernel_rfl) (by kernel_rfl) (by assumption) ?_
    intro o ho
    simp only [List.getElem?_toArray, List.getElem?_cons_succ, List.getElem?_cons_zero, Option.some.injEq] at ho
    subst ho
    refine ⟨?_, fun _ _ _ h => h, Or.inl ⟨by rfl, ?_⟩, ?_⟩
    rotate_left
    · intro w hSw
      go_simp
      try with_reducible rfl
    simp only [Act.put, List.setIfInBounds_toArray, List.set_cons_zero, List.set_cons_succ]
    refine wpUpto.take 6 (by kernel_rfl) (by kernel_rfl) (by kernel_rfl) (by kernel_rfl) (by assumption) ?_
    intro o ho
    simp only [List.getElem?_toArray, List.getElem?_cons_succ, List.getElem?_cons_zero, Option.some.injEq] at ho
    subst ho
    refine ⟨?_, fun _ _ _ h => h, Or.inl ⟨by rfl, ?_⟩, ?_⟩
    rotate_left
    · intro w hSw
      go_simp
      try with_reducible rfl
    simp only [Act.put, List.setIfInBounds_toArray, List.set_cons_zero, List.set_cons_succ]
    refine wpUpto.take 7 (by kernel_rfl) (by kernel_rfl) (by kernel_rfl) (by kernel_rfl) (by assumption) ?_
    intro o ho
    simp only [List.getElem?_toArray, List.getElem?_cons_succ, List.getElem?_cons_zero, Option.some.injEq] at ho
    subst ho
    refine ⟨?_, fun _ _ _ h => h, Or.inl ⟨by rfl, ?_⟩, ?_⟩
    rotate_left
    · intro w hSw
      go_simp
      try with_reducible rfl
    simp only [Act.put, List.setIfInBounds_toArray, List.set_cons_zero, List.set_cons_succ]
    refine wpUpto.take 8 (by kernel_rfl) (by kernel_rfl) (by kernel_rfl) (by kernel_rfl) (by assumption) ?_
    intro o ho
    simp only [List.getElem?_toArray, List.getElem?_cons_succ, List.getElem?_cons_zero, Option.some.injEq] at ho
    subst ho
    refine ⟨?_, fun _ _ _ h => h, Or.inl ⟨by rfl, ?_⟩, ?_⟩
    rotate_left
    · intro w hSw
      go_simp
      try with_reducible rfl
    simp only [Act.put, List.setIfInBounds_toArray, List.set_cons_zero, List.set_cons_succ]
    refine wpUpto.take 9 (by kernel_rfl) (by kernel_rfl) (by kernel_rfl) (by kernel_rfl) (by assumption) ?_
    intro o ho
    simp only [List.getElem?_toArray, List.getElem?_cons_succ, List.getElem?_cons_zero, Option.some.injEq] at ho
    subst ho
    refine ⟨?_, fun _ _ _ h => h, Or.inl ⟨by rfl, ?_⟩, ?_⟩
    rotate_left
    · intro w hSw
      go_simp
      try with_reducible rfl
    simp only [Act.put, List.setIfInBounds_toArray, List.set_cons_zero, List.set_cons_succ]
    refine wpUpto.take 12 (by kernel_rfl) (by kernel_rfl) (by kernel_rfl) (by kernel_rfl) (by assumption) ?_
    intro o ho
    simp only [List.getElem?_toArray, List.getElem?_cons_succ, List.getElem?_cons_zero, Option.some.injEq] at ho
    subst ho
    refine ⟨?_, fun _ _ _ h => h, Or.inl ⟨by rfl, ?_⟩, ?_⟩
    rotate_left
    · intro w hSw
      go_simp
      try with_reducible rfl
    simp only [Act.put, List.setIfInBounds_toArray, List.set_cons_zero, List.set_cons_succ]
    refine wpUpto.two 10 11 (by kernel_rfl) ?_ ?_
    · intro o ho K hK
      simp only [List.getElem?_toArray, List.getElem?_cons_succ, List.getElem?_cons_zero, Option.some.injEq] at ho
      subst ho
      go_simp
      go_at_call 52
      refine HG0.out.mono ?_
      rintro e w' ⟨rfl, rfl⟩
      refine hK.out _ _ ?_ (fun hHeld => ?_)
      · exact ⟨k2, k7⟩
      clear hK K
      try simp only [Act.put, List.setIfInBounds_toArray, List.set_cons_zero, List.set_cons_succ]
      refine wpUpto.one 11 (by kernel_rfl) ?_
      intro o ho K hK
      simp only [List.getElem?_toArray, List.getElem?_cons_succ, List.getElem?_cons_zero, Option.some.injEq] at ho
      subst ho
      go_simp
      refine hK.out _ _ ?_ (fun hHeld => ?_)
      · go_keep
      clear hK K
      try simp only [Act.put, List.setIfInBounds_toArray, List.set_cons_zero, List.set_cons_succ]
      refine wpUpto.one 13 (by kernel_rfl) ?_
      intro o ho K hK
      simp only [List.getElem?_toArray, List.getElem?_cons_succ, List.getElem?_cons_zero, Option.some.injEq] at ho
      subst ho
      refine step_append_run rfl (.tmp 90) (.tmp 91) _ rfl _ _ _ _ rfl rfl hrun5 ?_
      refine hK.out _ _ ?_ (fun hHeld => ?_)
      · exact ⟨l2, l7⟩
      clear hK K
      try simp only [Act.put, List.setIfInBounds_toArray, List.set_cons_zero, List.set_cons_succ]
      refine wpUpto.one 14 (by kernel_rfl) ?_
      intro o ho K hK
      simp only [List.getElem?_toArray, List.getElem?_cons_succ, List.getElem?_cons_zero, Option.some.injEq] at ho
      subst ho
      go_simp
      refine hK.out _ _ ?_ (fun hHeld => ?_)
      · exact ⟨l2, l7⟩
      clear hK K
      try simp only [Act.put, List.setIfInBounds_toArray, List.set_cons_zero, List.set_cons_succ]
      refine wpUpto.one 15 (by kernel_rfl) ?_
      intro o ho K hK
      simp only [List.getElem?_toArray, List.getElem?_cons_succ, List.getElem?_cons_zero, Option.some.injEq] at ho
      subst ho
      go_simp
      refine hK.out _ _ ?_ (fun hHeld => ?_)
      · go_keep
      clear hK K
      try simp only [Act.put, List.setIfInBounds_toArray, List.set_cons_zero, List.set_cons_succ]
      refine wpUpto.one 16 (by kernel_rfl) ?_
      intro o ho K hK
      simp only [List.getElem?_toArray, List.getElem?_cons_succ, List.getElem?_cons_zero, Option.some.injEq] at ho
      subst ho
      refine step_append_run rfl (.tmp 83) (.tmp 94) _ rfl _ _ _ _ rfl rfl hrun7 ?_
      refine hK.out _ _ ?_ (fun hHeld => ?_)
      · exact ⟨r2, r7⟩
      clear hK K
      try simp only [Act.put, List.setIfInBounds_toArray, List.set_cons_zero, List.set_cons_succ]
      refine wpUpto.one 17 (by kernel_rfl) ?_
      intro o ho K hK
      simp only [List.getElem?_toArray, List.getElem?_cons_succ, List.getElem?_cons_zero, Option.some.injEq] at ho
      subst ho
      go_simp
      refine hK.out _ _ ?_ (fun hHeld => ?_)
      · exact ⟨r2, r7⟩
      clear hK K
      try simp only [Act.put, List.setIfInBounds_toArray, List.set_cons_zero, List.set_cons_succ]
      refine wpUpto.one 18 (by kernel_rfl) ?_
      intro o ho K hK
      simp only [List.getElem?_toArray, List.getElem?_cons_succ, List.getElem?_cons_zero, Option.some.injEq] at ho
      subst ho
      go_simp
      refine hK.out _ _ ?_ (fun hHeld => ?_)
      · exact ⟨r2, r7⟩
      clear hK K
      try simp only [Act.put, List.setIfInBounds_toArray, List.set_cons_zero, List.set_cons_succ]
      refine wpUpto.last (by kernel_rfl) ?_
      intro o ho K hK
      simp only [List.getElem?_toArray, List.getElem?_cons_succ, List.getElem?_cons_zero, Option.some.injEq] at ho
      subst ho
      go_simp
      refine hK.out _ _ ?_
      clear hK K
      refine wpUpto.done (by kernel_rfl) ?_ _
      refine NoPanic.normal ?_
      try simp only [Act.put, List.setIfInBounds_toArray, List.set_cons_zero, List.set_cons_succ]
      generalize hW8 : World.setCell w7 _ _ = w8
      have b8 : Blk w8 m 35 (drlCells L A c x (.slice A7 (l.length + 1) c7x) (.slice A' (ts.length + 1) c')) := by
        rw [← hW8, HL.out.2.2.2.2.2.2.2.2.2]; exact HZ.out.2.2.2.2.2.2.1.set_ 2 (.slice A7 (ne + 1) c7x)
      have o8 : Only (fun b => b = m) w7 w8 := by rw [← hW8]; exact (Only.refl (fun b => b = m) w7).setCell (p := ⟨m, 2, none⟩) (.inl rfl) _
      have u5 : w8.cell? ⟨m, 6, none⟩ = some (.slice (A 1) (x.ws 1).length (c 1)) := b8.cell 6
      have v5 : w8.frozen? ⟨m, 6, none⟩ = false := b8.frozen 6
      have HB8 := Lib.hid (And.intro b8 o8)
      clear b8 o8 hW8
      go_wp2_with fail
      go_ret
      obtain ⟨hst, hr, hx, hsh, h0, hys, hn2, hov, hk0, hnn⟩ := HL.out
      have e : x.read 1 n t = (true, x.took 1 n t) := by
        unfold Sys.read
        rw [if_neg (by simp [hsh]), if_pos (by rw [hys]; intro e; rw [e] at hy0; simp at hy0)]
      rw [e]
      have hT3 := Y.out.1
      rw [show tv ts ++ tv [t] = tv (ts ++ [t]) by simp [tv]] at hT3
      have hl2 := H2.out.2.2.2.1
      rw [← hn2] at hl2
      have b9 := HB8.out.1.set_ 6 (.slice A9 ys.length c9)
      have e9 : drlCells L (upn A 1 A9) (upn c 1 c9) (x.took 1 n t) (.slice A7 (l.length + 1) c7x) (.slice A' (ts.length + 1) c') = (drlCells L A c x (.slice A7 (l.length + 1) c7x) (.slice A' (ts.length + 1) c')).setIfInBounds 6 (.slice A9 ys.length c9) := by
        simp [drlCells, Sys.took, Sys.line, upn, hys]
      rw [← e9] at b9
      exact ⟨rfl, Turned.before (DRlF.took H1.out.1 H2.out.1 (by omega) hys hyb hyl hl2 H2.out.2.2.2.2.1 H2.out.2.2.2.2.2.1 H2.out.2.1 H2.out.2.2.1 H2.out.2.2.2.2.2.2 Y.out.2.1 hT3 Y.out.2.2.1 HZ.out.2.1 HZ.out.1 HZ.out.2.2.2.1 HZ.out.2.2.2.2.1 HZ.out.2.2.2.2.2.1 HZ.out.2.2.2.2.2.2.2 HB8.out.2 ⟨_, HB8.out.1⟩ ((Only.refl (fun b => b = m) w8).setCell (p := ⟨m, 6, none⟩) (.inl rfl) _) b9) H1.out.2.2⟩
    · intro o ho K hK
      simp only [List.getElem?_toArray, List.getElem?_cons_succ, List.getElem?_cons_zero, Option.some.injEq] at ho
      subst ho
      go_simp
      refine hK.out _ _ ?_ (fun hHeld => ?_)
      · go_keep
      clear hK K
      try simp only [Act.put, List.setIfInBounds_toArray, List.set_cons_zero, List.set_cons_succ]
      refine wpUpto.one 10 (by kernel_rfl) ?_
      intro o ho K hK
      simp only [List.getElem?_toArray, List.getElem?_cons_succ, List.getElem?_cons_zero, Option.some.injEq] at ho
      subst ho
      go_simp
      go_at_call 52
      refine HG1.out.mono ?_
      rintro e w' ⟨rfl, rfl⟩
      refine hK.out _ _ ?_ (fun hHeld => ?_)
      · go_keep
      clear hK K
      try simp only [Act.put, List.setIfInBounds_toArray, List.set_cons_zero, List.set_cons_succ]
      refine wpUpto.one 13 (by kernel_rfl) ?_
      intro o ho K hK
      simp only [List.getElem?_toArray, List.getElem?_cons_succ, List.getElem?_cons_zero, Option.some.injEq] at ho
      subst ho
      refine step_append_run rfl (.tmp 90) (.tmp 91) _ rfl _ _ _ _ rfl rfl hrun5 ?_
      refine hK.out _ _ ?_ (fun hHeld => ?_)
      · exact ⟨l2, l7⟩
      clear hK K
      try simp only [Act.put, List.setIfInBounds_toArray, List.set_cons_zero, List.set_cons_succ]
      refine wpUpto.one 14 (by kernel_rfl) ?_
      intro o ho K hK
      simp only [List.getElem?_toArray, List.getElem?_cons_succ, List.getElem?_cons_zero, Option.some.injEq] at ho
      subst ho
      go_simp
      refine hK.out _ _ ?_ (fun hHeld => ?_)
      · exact ⟨l2, l7⟩
      clear hK K
      try simp only [Act.put, List.setIfInBounds_toArray, List.set_cons_zero, List.set_cons_succ]
      refine wpUpto.one 15 (by kernel_rfl) ?_
      intro o ho K hK
      simp only [List.getElem?_toArray, List.getElem?_cons_succ, List.getElem?_cons_zero, Option.some.injEq] at ho
      subst ho
      go_simp
      refine hK.out _ _ ?_ (fun hHeld => ?_)
      · go_keep
      clear hK K
      try simp only [Act.put, List.setIfInBounds_toArray, List.set_cons_zero, List.set_cons_succ]
      refine wpUpto.one 16 (by kernel_rfl) ?_
      intro o ho K hK
      simp only [List.getElem?_toArray, List.getElem?_cons_succ, List.getElem?_cons_zero, Option.some.injEq] at ho
      subst ho
      refine step_append_run rfl (.tmp 83) (.tmp 94) _ rfl _ _ _ _ rfl rfl hrun7 ?_
      refine hK.out _ _ ?_ (fun hHeld => ?_)
      · exact ⟨r2, r7⟩
      clear hK K
      try simp only [Act.put, List.setIfInBounds_toArray, List.set_cons_zero, List.set_cons_succ]
      refine wpUpto.one 17 (by kernel_rfl) ?_
      intro o ho K hK
      simp only [List.getElem?_toArray, List.getElem?_cons_succ, List.getElem?_cons_zero, Option.some.injEq] at ho
      subst ho
      go_simp
      refine hK.out _ _ ?_ (fun hHeld => ?_)
      · exact ⟨r2, r7⟩
      clear hK K
      try simp only [Act.put, List.setIfInBounds_toArray, List.set_cons_zero, List.set_cons_succ]
      refine wpUpto.one 18 (by kernel_rfl) ?_
      intro o ho K hK
      simp only [List.getElem?_toArray, List.getElem?_cons_succ, List.getElem?_cons_zero, Option.some.injEq] at ho
      subst ho
      go_simp
      refine hK.out _ _ ?_ (fun hHeld => ?_)
      · exact ⟨r2, r7⟩
      clear hK K
      try simp only [Act.put, List.setIfInBounds_toArray, List.set_cons_zero, List.set_cons_succ]
      refine wpUpto.last (by kernel_rfl) ?_
      intro o ho K hK
      simp only [List.getElem?_toArray, List.getElem?_cons_succ, List.getElem?_cons_zero, Option.some.injEq] at ho
      subst ho
      go_simp
      refine hK.out _ _ ?_
      clear hK K
      refine wpUpto.done (by kernel_rfl) ?_ _
      refine NoPanic.normal ?_
      try simp only [Act.put, List.setIfInBounds_toArray, List.set_cons_zero, List.set_cons_succ]
      generalize hW8 : World.setCell w7 _ _ = w8
      have b8 : Blk w8 m 35 (drlCells L A c x (.slice A7 (l.length + 1) c7x) (.slice A' (ts.length + 1) c')) := by
        rw [← hW8, HL.out.2.2.2.2.2.2.2.2.2]; exact HZ.out.2.2.2.2.2.2.1.set_ 2 (.slice A7 (ne + 1) c7x)
      have o8 : Only (fun b => b = m) w7 w8 := by rw [← hW8]; exact (Only.refl (fun b => b = m) w7).setCell (p := ⟨m, 2, none⟩) (.inl rfl) _
      have u5 : w8.cell? ⟨m, 6, none⟩ = some (.slice (A 1) (x.ws 1).length (c 1)) := b8.cell 6
      have v5 : w8.frozen? ⟨m, 6, none⟩ = false := b8.frozen 6
      have HB8 := Lib.hid (And.intro b8 o8)
      clear b8 o8 hW8
      go_wp2_with fail
      go_ret
      obtain ⟨hst, hr, hx, hsh, h0, hys, hn2, hov, hk0, hnn⟩ := HL.out
      have e : x.read 1 n t = (true, x.took 1 n t) := by
        unfold Sys.read
        rw [if_neg (by simp [hsh]), if_pos (by rw [hys]; intro e; rw [e] at hy0; simp at hy0)]
      rw [e]
      have hT3 := Y.out.1
      rw [show tv ts ++ tv [t] = tv (ts ++ [t]) by simp [tv]] at hT3
      have hl2 := H2.out.2.2.2.1
      rw [← hn2] at hl2
      have b9 := HB8.out.1.set_ 6 (.slice A9 ys.length c9)
      have e9 : drlCells L (upn A 1 A9) (upn c 1 c9) (x.took 1 n t) (.slice A7 (l.length + 1) c7x) (.slice A' (ts.length + 1) c') = (drlCells L A c x (.slice A7 (l.length + 1) c7x) (.slice A' (ts.length + 1) c')).setIfInBounds 6 (.slice A9 ys.length c9) := by
        simp [drlCells, Sys.took, Sys.line, upn, hys]
      rw [← e9] at b9
      exact ⟨rfl, Turned.before (DRlF.took H1.out.1 H2.out.1 (by omega) hys hyb hyl hl2 H2.out.2.2.2.2.1 H2.out.2.2.2.2.2.1 H2.out.2.1 H2.out.2.2.1 H2.out.2.2.2.2.2.2 Y.out.2.1 hT3 Y.out.2.2.1 HZ.out.2.1 HZ.out.1 HZ.out.2.2.2.1 HZ.out.2.2.2.2.1 HZ.out.2.2.2.2.2.1 HZ.out.2.2.2.2.2.2.2 HB8.out.2 ⟨_, HB8.out.1⟩ ((Only.refl (fun b => b = m) w8).setCell (p := ⟨m, 6, none⟩) (.inl rfl) _) b9) H1.out.2.2⟩
  · have hyn : ys.length = 0 := by omega
    have HN : Hid (StarF (DLines L x) (DRl L m x) A1 B0 (fun b => A1 b ∨ B0 b) w2 ∧ Only F w1 w2 ∧ (∀ b, (A1 b ∨ B0 b) → F b ∨ w1.heap.size ≤ b)) := by
      have hl2 := H2.out.2.2.2.1
      have e : (x.inc 1).xs.drop n2.toNat = (x.inc 1).xs := by
        have h0 : (x.got 1 n).length = 0 := by rw [HL.out.2.2.2.2.2.1]; exact hyn
        unfold Sys.got at h0
        rw [HL.out.2.2.2.2.2.2.1, List.length_take] at h0
        rcases Nat.eq_zero_or_pos n2.toNat with h | h
        · rw [h, List.drop_zero]
        · have : (x.inc 1).xs = [] := List.eq_nil_of_length_eq_zero (by omega)
          rw [this, List.drop_nil]
      have e2 : x.line 1 0 ⟨(x.inc 1).en, (x.inc 1).xs⟩ = x := Sys.line_same x 1 0
      rw [e, e2] at hl2
      obtain ⟨F2, k1, k2, k3⟩ := D_none H1.out.1 hl2 H2.out.2.2.2.2.1 H2.out.2.2.2.2.2.1
      exact ⟨⟨k1.fst, k1.snd, k1.ap, fun _ => Iff.rfl⟩, k2, fun b hb => k3 b ((k1.un b).2 hb)⟩
    have HO : Hid (Calls Tryd.prog 23 #[.pointer (some ⟨P, 0, none⟩), .int .i64 1] w2 fun e w' => e = .returned (.bool ov) ∧ w2 = w') := by
      obtain ⟨G, hp, -, -, -⟩ := DLines.at HN.out.1.fst 1 (by omega)
      have h := DOver_at hp 1 (by omega)
      rw [HPP.out.1] at h
      rw [← HL.out.2.2.2.2.2.2.2.1]; exact h
    rw [hyn]
    have HYN := Lib.hid hyn
    clear hy0 hyn c2 c7
    cases hov2 : ov with
    | false =>
      subst hov2
      go_wp2_with fail
      refine HO.out.mono ?_
      rintro e w3 ⟨rfl, rfl⟩
      go_wp2_with fail
      go_ret
      obtain ⟨hst, hr, hx, hsh, h0, hys, hn2, hov, hk0, hnn⟩ := HL.out
      have e : x.read 1 n t = (false, x) := by
        unfold Sys.read
        rw [if_neg (by simp [hsh]), if_neg (by rw [hys, List.eq_nil_of_length_eq_zero HYN.out]; simp), if_neg (by rw [hov]; simp)]
      rw [e]
      exact ⟨rfl, Turned.before ⟨_, ⟨A1, B0, HN.out.1⟩, HN.out.2.1, HN.out.2.2⟩ H1.out.2.2⟩
    | true =>
      subst hov2
      obtain ⟨z1, ⟨u1, z2⟩, z3, q, z4, z5, ⟨u2, z6⟩, z7⟩ := D_ended HN.out.1 (d := 1) (by omega)
      simp only [Nat.reduceAdd, Nat.sub_self] at z1 z2 z3 z4 z5 z6 z7
      generalize hW4 : World.setCell w2 _ _ = w4 at z3 z4 z5 z6 z7
      rw [HPP.out.2] at z3 z4
      have HZ7 := Lib.hid z7
      have HW4 := Lib.hid hW4
      clear z7 hW4
      go_wp2_with fail
      refine HO.out.mono ?_
      rintro e w3 ⟨rfl, rfl⟩
      go_upto_region 22 with (fail)
      rw [HW4.out]
      go_wp2_with fail
      go_ret
      obtain ⟨hst, hr, hx, hsh, h0, hys, hn2, hov, hk0, hnn⟩ := HL.out
      have e : x.read 1 n t = (true, x.ended 1) := by
        unfold Sys.read
        rw [if_neg (by simp [hsh]), if_neg (by rw [hys, List.eq_nil_of_length_eq_zero HYN.out]; simp), if_pos hov]
      rw [e]
      have t7 := Turned.before HZ7.out (Below.refl _ _)
      refine ⟨rfl, Turned.before ?_ H1.out.2.2⟩
      obtain ⟨F', t1, t2, t3⟩ := HZ7.out
      have s2 := HN.out.2.1.size
      exact ⟨F', t1, ⟨t2.os.trans HN.out.2.1.os, t2.tape.trans HN.out.2.1.tape, t2.output.trans HN.out.2.1.output, Nat.le_trans s2 t2.size, fun i hi hF => (t2.block i (by omega) (fun hb => by
        rcases HN.out.2.2 i hb with k | k
        · exact hF k
        · omega)).trans (HN.out.2.1.block i hi hF)⟩, fun b hb => by
        rcases t3 b hb with k | k
        · exact HN.out.2.2 b k
        · exact .inr (Nat.le_trans s2 k)⟩

theorem D_read1 (h : DSys L m x F w) (hx : x.Ok) (n t : Int) :
    Calls Tryd.prog 35 #[.pointer (some ⟨m, 0, none⟩), .int .i64 1, .int .i64 n, .int .i64 t] w (DDid L m F w (x.step 0 n t)) := by
  unfold Sys.step
  rw [if_pos rfl]
  cases h0 : x.ov 0 with
  | true => rw [if_pos rfl]; exact D_shut1 h n t (.inl h0)
  | false =>
    rw [if_neg (by simp)]
    cases hs : x.shut 1 n with
    | true =>
      have e : x.read 1 n t = (false, x) := by unfold Sys.read; rw [if_pos hs]
      rw [e]; exact D_shut1 h n t (.inr hs)
    | false => exact D_open1 h hx n t h0 hs
theorem D_read0 (h : DSys L m x F w) (hx : x.Ok) (n t : Int) :
    Calls Tryd.prog 35 #[.pointer (some ⟨m, 0, none⟩), .int .i64 0, .int .i64 n, .int .i64 t] w (DDid L m F w (x.step 1 n t)) := by
  unfold Sys.step
  rw [if_neg (by omega), if_pos rfl]
  cases hs : x.shut 0 n with
  | true =>
    have e : x.read 0 n t = (false, x) := by unfold Sys.read; rw [if_pos hs]
    rw [e]; exact D_shut0 h n t (.inr hs)
  | false =>
    have h0 : x.ov 0 = false := by
      simp only [Sys.shut, Bool.or_eq_false_iff] at hs
      exact hs.1.1.2
    exact D_open0 h hx n t h0 hs

set_option maxHeartbeats 1000000 in
set_option maxRecDepth 100000 in
/-- The document's relay's Step does what the relay's does. -/
theorem D_Step (h : DSys L m x F w) (hx : x.Ok) (kind n t : Int) :
    Calls Tryd.prog 16 #[.pointer (some ⟨m, 0, none⟩), .int .i64 kind, .int .i64 n, .int .i64 t] w (DDid L m F w (x.step kind n t)) := by
  have R0 := Lib.hid (D_read1 h hx n t)
  have R1 := Lib.hid (D_read0 h hx n t)
  have W2 : Hid (Calls Tryd.prog 36 #[.pointer (some ⟨m, 0, none⟩), .int .i64 1, .int .i64 n] w (DDid L m F w (x.step 2 n t))) := D_write1 h hx n
  have W3 : Hid (Calls Tryd.prog 36 #[.pointer (some ⟨m, 0, none⟩), .int .i64 0, .int .i64 n] w (DDid L m F w (x.step 3 n t))) := D_write0 h hx n
  have H := Lib.hid h
  clear h hx
  by_cases k0 : kind = 0
  · subst k0
    go_enter Tryd.func16, Tryd.ntmps16
    go_wp2_with fail
    refine R0.out.mono ?_
    rintro e w1 ⟨rfl, ht⟩
    have HH := Lib.hid ht
    clear ht
    go_wp2_with fail
    go_ret
    exact ⟨rfl, HH.out⟩
  · by_cases k1 : kind = 1
    · subst k1
      clear k0
      go_enter Tryd.func16, Tryd.ntmps16
      go_wp2_with fail
      refine R1.out.mono ?_
      rintro e w1 ⟨rfl, ht⟩
      have HH := Lib.hid ht
      clear ht
      go_wp2_with fail
      go_ret
      exact ⟨rfl, HH.out⟩
    · by_cases k2 : kind = 2
      · subst k2
        clear k0 k1
        go_enter Tryd.func16, Tryd.ntmps16
        go_wp2_with fail
        refine W2.out.mono ?_
        rintro e w1 ⟨rfl, ht⟩
        have HH := Lib.hid ht
        clear ht
        go_wp2_with fail
        go_ret
        exact ⟨rfl, HH.out⟩
      · by_cases k3 : kind = 3
        · subst k3
          clear k0 k1 k2
          go_enter Tryd.func16, Tryd.ntmps16
          go_wp2_with fail
          refine W3.out.mono ?_
          rintro e w1 ⟨rfl, ht⟩
          have HH := Lib.hid ht
          clear ht
          go_wp2_with fail
          go_ret
          exact ⟨rfl, HH.out⟩
        · have e : x.step kind n t = (false, x) := by simp [Sys.step, k0, k1, k2, k3]
          rw [e]
          have b0 : (kind == 0) = false := by simpa using k0
          have b1 : (kind == 1) = false := by simpa using k1
          have b2 : (kind == 2) = false := by simpa using k2
          have b3 : (kind == 3) = false := by simpa using k3
          clear e k0 k1 k2 k3
          go_enter Tryd.func16, Tryd.ntmps16
          go_wp2_with fail
          go_ret
          exact ⟨rfl, Turned.refl H.out⟩
end
end Go.Proofs.YtfmmomdfmmoklaaDoor
namespace Go.Proofs.YtfmmomdfmmoklaaDoor
open Go.RowKit

section
variable {L : Nat → Nat} {m : Nat} {x : Sys} {F : Nat → Prop} {w : World}

theorem DRl.line {k s : Nat} {z : Way} (h : DRl L m x F w) : DRl L m (x.line k s z) F w := by
  obtain ⟨A, c, g, v, l, gT, vt, ts, h⟩ := h
  exact ⟨A, c, g, v, l, gT, vt, ts, h.blk, h.el, h.pe, h.wt, h.tm, h.tF, h.sn, h.tl, h.fr, h.lt⟩

/-- One of the document's lines, of all. -/
theorem DSys.at (h : DSys L m x F w) (k : Nat) (hk : k < 2) : ∃ G, DAt G w (L k) x.rm (dways x k) ∧ (∀ b, G b → F b) ∧
    (∀ s z w', s < 2 → DTurns G w w' (L k) x.rm (upd (dways x k) (1 - s) z) → Turned (DSys L m (x.line k s z)) F w w') := by
  obtain ⟨A, B, h⟩ := h
  obtain ⟨G, hp, hG, ht, -⟩ := DLines.at h.fst k hk
  exact ⟨G, hp, fun b hb => (h.un b).2 (.inl (hG b hb)), fun s z w' hs t => (h.left (P' := DLines L (x.line k s z)) (DRl.framed ..) (ht s z w' hs t)).imp fun _ ⟨A, B, k⟩ => ⟨A, B, k.fst, k.snd.line, k.ap, k.un⟩⟩

theorem DSys.rl (h : DSys L m x F w) : ∃ B A c g v l gT vt ts, DRlF L m x A c g v l gT vt ts B w := by
  obtain ⟨A, B, h⟩ := h
  obtain ⟨A, c, g, v, l, gT, vt, ts, k⟩ := h.snd
  exact ⟨B, A, c, g, v, l, gT, vt, ts, k⟩

/-- What an end e writes, reads, and that it hangs up, of the state alone. -/
def Sys.says (x : Sys) (e : Nat) (zs : List Nat) : Sys := x.line (1 - e) e ⟨(x.f (1 - e) e).en, (x.f (1 - e) e).xs ++ zs.take (putN x.rm (x.f (1 - e) e).en (x.f (1 - e) e).xs.length zs.length)⟩
def Sys.hears (x : Sys) (e : Nat) (n : Int) : Sys := x.line (1 - e) (1 - e) ⟨(x.f (1 - e) (1 - e)).en, (x.f (1 - e) (1 - e)).xs.drop n.toNat⟩
def Sys.hangs (x : Sys) (e : Nat) : Sys := x.line (1 - e) e ⟨true, (x.f (1 - e) e).xs⟩
theorem Wld.says_x (y : Wld) (e : Nat) (zs : List Nat) : (y.says e zs).x = y.x.says e zs := rfl
theorem Wld.hears_x (y : Wld) (e : Nat) (n : Int) : (y.hears e n).x = y.x.hears e n := rfl
theorem Wld.hangs_x (y : Wld) (e : Nat) : (y.hangs e).x = y.x.hangs e := rfl

theorem D_says (h : DSys L m x F w) {e p : Nat} {z : Int} (he : e < 2) (hp : L (1 - e) = p) (hz : z = (e : Int)) {A : Option Addr} {c : Nat} {zs : List Nat} (hr : Rd w (.slice A zs.length c) (bv zs)) (hn : zs.length ≤ 65536) (hby : ∀ d ∈ zs, d < 256) :
    Calls Tryd.prog 13 #[.pointer (some ⟨p, 0, none⟩), .int .i64 z, .slice A zs.length c] w fun r w' => (∃ v, r = .returned v) ∧ Turned (DSys L m (x.says e zs)) F w w' := by
  subst hp hz
  obtain ⟨G, hp, hG, ht⟩ := h.at (1 - e) (by omega)
  refine (DWrite_at hp e he hr hn hby).mono ?_
  rintro r w' ⟨rfl, t⟩
  refine ⟨⟨_, rfl⟩, ?_⟩
  have e1 : dways x (1 - e) (1 - e) = x.f (1 - e) e := by unfold dways; rw [show 1 - (1 - e) = e by omega]
  rw [e1] at t
  exact ht e _ w' he t
theorem D_hears (h : DSys L m x F w) {e p : Nat} {z : Int} (he : e < 2) (hp : L (1 - e) = p) (hz : z = (e : Int)) (n : Int) :
    Calls Tryd.prog 14 #[.pointer (some ⟨p, 0, none⟩), .int .i64 z, .int .i64 n] w fun r w' => (∃ v, r = .returned v) ∧ Turned (DSys L m (x.hears e n)) F w w' := by
  subst hp hz
  obtain ⟨G, hp, hG, ht⟩ := h.at (1 - e) (by omega)
  refine (DRead_own hp e he n).mono ?_
  rintro r w' ⟨A, c, gt, rfl, -, -, F', t1, t2, t3, -⟩
  refine ⟨⟨_, rfl⟩, ht (1 - e) _ w' (by omega) ?_⟩
  rw [show 1 - (1 - e) = e by omega]
  exact ⟨F', t1, t2, t3⟩
/-- The document's queue that the end e writes into. -/
theorem D_hangs (h : DSys L m x F w) {e p : Nat} (he : e < 2) (hp : L (1 - e) = p) : ∃ q, w.cell? ⟨p, 1 - e, none⟩ = some (.pointer (some ⟨q, 0, none⟩)) ∧ (∃ u, w.cell? ⟨q, 2, none⟩ = some u) ∧ w.frozen? ⟨q, 2, none⟩ = false ∧ Turned (DSys L m (x.hangs e)) F w (w.setCell ⟨q, 2, none⟩ (.bool true)) := by
  subst hp
  obtain ⟨G, hp, hG, ht⟩ := h.at (1 - e) (by omega)
  obtain ⟨q, q1, q2, q3, -, q5⟩ := hp.queue (1 - e) (by omega)
  have e1 : dways x (1 - e) (1 - e) = x.f (1 - e) e := by unfold dways; rw [show 1 - (1 - e) = e by omega]
  rw [e1] at q5
  exact ⟨q, q1, q2, q3, ht e _ _ he q5⟩
theorem D_over (h : DSys L m x F w) {k s p : Nat} {z : Int} (hk : k < 2) (hs : s < 2) (hp : L k = p) (hz : z = (s : Int)) :
    Calls Tryd.prog 23 #[.pointer (some ⟨p, 0, none⟩), .int .i64 z] w fun e w' => e = .returned (.bool ((x.f k (1 - s)).en && (x.f k (1 - s)).xs.isEmpty)) ∧ w = w' := by
  subst hp hz
  obtain ⟨G, hp, hG, ht⟩ := h.at k hk
  exact DOver_at hp s hs
/-- The document's queue that waits for side s of line k. -/
theorem D_queue (h : DSys L m x F w) {k s p : Nat} (hk : k < 2) (hs : s < 2) (hp : L k = p) : ∃ q A c, w.cell? ⟨p, s, none⟩ = some (.pointer (some ⟨q, 0, none⟩)) ∧ w.cell? ⟨q, 0, none⟩ = some (.slice A (x.f k (1 - s)).xs.length c) := by
  subst hp
  obtain ⟨G, hp, hG, ht⟩ := h.at k hk
  obtain ⟨q, g, hB, hF⟩ := hp.ex
  obtain ⟨v, hq, hrow⟩ := hB.que s hs
  obtain ⟨A, c, rfl⟩ := hrow.form
  rw [dv_len] at hq
  refine ⟨q s, A, c, ?_, hq.cell 0⟩
  rw [hB.blk.cell s]
  rcases (show s = 0 ∨ s = 1 by omega) with rfl | rfl <;> rfl
end

section
variable {P Q P' Q' : Thing} {N : Nat → Prop} {w0 w w' : World}
/-- The second of two things may turn. -/
theorem Has.turn2 (h : Has (Star P Q) N w0 w) (fP : Framed P) : ∃ B, Q B w ∧ ∀ Q' w', Turned Q' B w w' → Has (Star P Q') N w0 w' ∧ Stay N w w' := by
  obtain ⟨F, h⟩ := h
  obtain ⟨A, B, hs⟩ := h.it
  exact ⟨B, hs.snd, fun Q' w' t => h.turn (hs.right fP t)⟩

variable {b u c r m : Nat} {L : Nat → Nat} {y : Wld} {x : Sys}
/-- What of the document's an end's act turns (a step's turn comes later). -/
def Wld.pre (y : Wld) (kind n : Int) (zs : List Nat) : Sys :=
  if kind = 4 then y.x.says 0 zs else if kind = 5 then y.x.hears 0 n else if kind = 6 then y.x.hangs 0 else if kind = 7 then y.x.says 1 zs else if kind = 8 then y.x.hears 1 n else if kind = 9 then y.x.hangs 1 else y.x
theorem Wld.act_low (y : Wld) {kind : Int} (h : kind < 4) (n t : Int) (zs : List Nat) : y.pre kind n zs = y.x ∧ y.act kind n t zs = ((y.x.step kind n t).1, { y with x := (y.x.step kind n t).2 }) := by
  unfold Wld.pre Wld.act
  simp only [show kind ≠ 4 by omega, show kind ≠ 5 by omega, show kind ≠ 6 by omega, show kind ≠ 7 by omega, show kind ≠ 8 by omega, show kind ≠ 9 by omega, if_false, and_self]
theorem Wld.act_high (y : Wld) {kind : Int} (h : ¬ kind < 4) (n t : Int) (zs : List Nat) : (y.act kind n t zs).1 = false ∧ (y.act kind n t zs).2.x = y.pre kind n zs := by
  unfold Wld.pre Wld.act
  by_cases k4 : kind = 4
  · simp [k4, Wld.says_x]
  by_cases k5 : kind = 5
  · simp [k5, Wld.hears_x]
  by_cases k6 : kind = 6
  · simp [k6, Wld.hangs_x]
  by_cases k7 : kind = 7
  · simp [k7, Wld.says_x]
  by_cases k8 : kind = 8
  · simp [k8, Wld.hears_x]
  by_cases k9 : kind = 9
  · simp [k9, Wld.hangs_x]
  simp only [k4, k5, k6, k7, k8, k9, if_false]
  have e : y.x.step kind n t = (false, y.x) := by simp [Sys.step, show kind ≠ 0 by omega, show kind ≠ 1 by omega, show kind ≠ 2 by omega, show kind ≠ 3 by omega]
  rw [e]
  exact ⟨rfl, rfl⟩

/-- Two things, of which the first one has not the last block. -/
def HasL (P Q : Thing) (N : Nat → Prop) (w0 w : World) : Prop := ∃ F A B, HasF (Star P Q) F N w0 w ∧ StarF P Q A B F w ∧ 0 < w.heap.size ∧ ¬ A (w.heap.size - 1)
theorem HasL.has (h : HasL P Q N w0 w) : Has (Star P Q) N w0 w := by obtain ⟨F, _, _, h, _⟩ := h; exact ⟨F, h⟩
theorem HasL.of (h : Has (Star P Q) N w0 w) (hN : N (w.heap.size - 1)) (hp : 0 < w.heap.size) : HasL P Q N w0 w := by
  obtain ⟨F, h⟩ := h
  obtain ⟨A, B, hs⟩ := h.it
  exact ⟨F, A, B, h, hs, hp, fun hA => (h.np _ hN).1 ((hs.un _).2 (.inl hA))⟩
/-- The second one may turn. -/
theorem HasL.turn2 (h : HasL P Q N w0 w) (fP : Framed P) : ∃ B, Q B w ∧ ∀ Q' w', Turned Q' B w w' → HasL P Q' N w0 w' ∧ Stay N w w' := by
  obtain ⟨F, A, B, h, hs, hp, hA⟩ := h
  refine ⟨B, hs.snd, fun Q' w' t => ?_⟩
  obtain ⟨B', hq, ho, hB⟩ := t
  have hsz := ho.size
  have hA0 : ∀ b, A b → b < w.heap.size := fun b hb => fP.lt hs.fst b hb
  have hs' : StarF P Q' A B' (fun b => A b ∨ B' b) w' := ⟨fP.only hs.fst ho (fun b ha hb => hs.ap b ha hb), hq, fun b ha hb => by
    rcases hB b hb with k | k
    · exact hs.ap b ha k
    · have := hA0 b ha; omega, fun _ => Iff.rfl⟩
  have hh : HasF (Star P Q') (fun b => A b ∨ B' b) N w0 w' := by
    have h1 := h.below.size
    refine ⟨⟨A, B', hs'⟩, fun b hb => ?_, fun b hb => ⟨fun hb' => ?_, Nat.lt_of_lt_of_le (h.np b hb).2 hsz⟩, ho.more' h.below fun i hi hi' => ?_⟩
    · rcases hb with hb | hb
      · exact h.new b ((hs.un b).2 (.inl hb))
      · rcases hB b hb with k | k
        · exact h.new b ((hs.un b).2 (.inr k))
        · omega
    · have h2 := h.np b hb
      rcases hb' with hb' | hb'
      · exact h2.1 ((hs.un b).2 (.inl hb'))
      · rcases hB b hb' with k | k
        · exact h2.1 ((hs.un b).2 (.inr k))
        · omega
    · have := h.new i ((hs.un i).2 (.inr hi')); omega
  refine ⟨⟨_, A, B', hh, hs', by omega, fun ha => ?_⟩, fun b hb => ho.block b (h.np b hb).2 (fun k => (h.np b hb).1 ((hs.un b).2 (.inr k)))⟩
  have h3 := hA0 _ ha
  have e : w'.heap.size - 1 = w.heap.size - 1 := by omega
  exact hA (e ▸ ha)
theorem HasL.drew (h : HasL P Q N w0 w) (fP : Framed P) (fQ : Framed Q) : HasL P Q N w0 w.drew := by
  obtain ⟨B, hB, ht⟩ := h.turn2 fP
  exact (ht Q w.drew ((Turned.refl hB).keep fQ (w2 := w.drew) ⟨rfl, rfl, rfl, Nat.le_refl _, fun _ _ => rfl⟩)).1
/-- The pick in the program's world alone. -/
theorem pair_do (h : HasL (WorldT b u c r y) (DSys L m x) N w0 w) (ho : Oth w0) (hx : y.x.Ok) (hs : y.Short) (kind n t : Int) {A : Option Addr} {k : Nat} {zs : List Nat} (hr : Rd w0 (.slice A zs.length k) (bv zs)) (hl : zs.length ≤ 100) :
    Calls Tryd.prog 15 #[.pointer (some ⟨b, 0, none⟩), .agg #[.int .i64 kind, .int .i64 n, .int .i64 t, .slice A zs.length k]] w fun e w1 => e = .returned (.bool (y.act kind n t zs).1) ∧ Has (Star (WorldT b u c r (y.act kind n t zs).2) (DSys L m x)) N w0 w1 ∧ Stay N w w1 := by
  obtain ⟨F, A1, B, hF, hst, hp, hA⟩ := h
  have h1 : WAt (fun b => b < w.heap.size ∧ ¬ A1 b) w0 w b u c r y := ⟨A1, hst.fst, fun b hb => hF.new b ((hst.un b).2 (.inl hb)), fun b hb => ⟨hb.2, hb.1⟩, hF.below⟩
  refine (Do_at h1 ho hx hs kind n t hr hl).mono ?_
  rintro e w1 ⟨rfl, ⟨A2, h2⟩, s2⟩
  have hsz : w.heap.size ≤ w1.heap.size := by have := (h2.np (w.heap.size - 1) ⟨by omega, hA⟩).2; omega
  have o1 : Only A1 w w1 := only_of_stay hF.below h2.below hsz fun b hlt hb => s2 b ⟨hlt, hb⟩
  have t1 : Turned (WorldT b u c r (y.act kind n t zs).2) A1 w w1 := ⟨A2, h2.it, o1, fun b hb => by
    by_cases hlt : b < w.heap.size
    · by_cases ha : A1 b
      · exact .inl ha
      · exact ((h2.np b ⟨hlt, ha⟩).1 hb).elim
    · exact .inr (by omega)⟩
  obtain ⟨h5, h6⟩ := hF.turn (hst.left (DSys.framed ..) t1)
  exact ⟨rfl, h5, h6⟩
/-- The document's step. -/
theorem pair_step (h : Has (Star P (DSys L m x)) N w0 w) (fP : Framed P) (hx : x.Ok) (kind n t : Int) :
    Calls Tryd.prog 16 #[.pointer (some ⟨m, 0, none⟩), .int .i64 kind, .int .i64 n, .int .i64 t] w fun e w' => e = .returned (.bool (x.step kind n t).1) ∧ Has (Star P (DSys L m (x.step kind n t).2)) N w0 w' ∧ Stay N w w' := by
  obtain ⟨B, hB, ht⟩ := h.turn2 fP
  refine (D_Step hB hx kind n t).mono ?_
  rintro e w' ⟨rfl, t⟩
  exact ⟨rfl, ht _ w' t⟩
theorem pair_says (h : HasL P (DSys L m x) N w0 w) (fP : Framed P) {e p : Nat} {z : Int} (he : e < 2) (hp : L (1 - e) = p) (hz : z = (e : Int)) {A : Option Addr} {c : Nat} {zs : List Nat} (hr : Rd w (.slice A zs.length c) (bv zs)) (hn : zs.length ≤ 65536) (hby : ∀ d ∈ zs, d < 256) :
    Calls Tryd.prog 13 #[.pointer (some ⟨p, 0, none⟩), .int .i64 z, .slice A zs.length c] w fun r w' => (∃ v, r = .returned v) ∧ HasL P (DSys L m (x.says e zs)) N w0 w' ∧ Stay N w w' := by
  obtain ⟨B, hB, ht⟩ := h.turn2 fP
  refine (D_says hB he hp hz hr hn hby).mono ?_
  rintro r w' ⟨hv, t⟩
  exact ⟨hv, ht _ w' t⟩
theorem pair_hears (h : HasL P (DSys L m x) N w0 w) (fP : Framed P) {e p : Nat} {z : Int} (he : e < 2) (hp : L (1 - e) = p) (hz : z = (e : Int)) (n : Int) :
    Calls Tryd.prog 14 #[.pointer (some ⟨p, 0, none⟩), .int .i64 z, .int .i64 n] w fun r w' => (∃ v, r = .returned v) ∧ HasL P (DSys L m (x.hears e n)) N w0 w' ∧ Stay N w w' := by
  obtain ⟨B, hB, ht⟩ := h.turn2 fP
  refine (D_hears hB he hp hz n).mono ?_
  rintro r w' ⟨hv, t⟩
  exact ⟨hv, ht _ w' t⟩
theorem pair_hangs (h : HasL P (DSys L m x) N w0 w) (fP : Framed P) {e p : Nat} (he : e < 2) (hp : L (1 - e) = p) :
    ∃ q, w.cell? ⟨p, 1 - e, none⟩ = some (.pointer (some ⟨q, 0, none⟩)) ∧ (∃ u, w.cell? ⟨q, 2, none⟩ = some u) ∧ w.frozen? ⟨q, 2, none⟩ = false ∧ HasL P (DSys L m (x.hangs e)) N w0 (w.setCell ⟨q, 2, none⟩ (.bool true)) ∧ Stay N w (w.setCell ⟨q, 2, none⟩ (.bool true)) := by
  obtain ⟨B, hB, ht⟩ := h.turn2 fP
  obtain ⟨q, q1, q2, q3, q4⟩ := D_hangs hB he hp
  exact ⟨q, q1, q2, q3, ht _ _ q4⟩
theorem pair_over (h : Has (Star P (DSys L m x)) N w0 w) {k s p : Nat} {z : Int} (hk : k < 2) (hs : s < 2) (hp : L k = p) (hz : z = (s : Int)) :
    Calls Tryd.prog 23 #[.pointer (some ⟨p, 0, none⟩), .int .i64 z] w fun e w' => e = .returned (.bool ((x.f k (1 - s)).en && (x.f k (1 - s)).xs.isEmpty)) ∧ w = w' := by
  obtain ⟨B, h⟩ := h.snd
  exact D_over h.it hk hs hp hz
theorem pair_queue (h : Has (Star P (DSys L m x)) N w0 w) {k s p : Nat} (hk : k < 2) (hs : s < 2) (hp : L k = p) : ∃ q A c, w.cell? ⟨p, s, none⟩ = some (.pointer (some ⟨q, 0, none⟩)) ∧ w.cell? ⟨q, 0, none⟩ = some (.slice A (x.f k (1 - s)).xs.length c) := by
  obtain ⟨B, h⟩ := h.snd
  exact D_queue h.it hk hs hp
theorem pair_rl (h : Has (Star P (DSys L m x)) N w0 w) : ∃ A c v l vt, Blk w m 35 (drlCells L A c x v vt) ∧ (∃ g G, EL (fun _ => False) G w g v l) ∧ pes l = x.ev := by
  obtain ⟨B, h⟩ := h.snd
  obtain ⟨B, A, c, g, v, l, gT, vt, ts, k⟩ := h.it.rl
  exact ⟨A, c, v, l, vt, k.blk, ⟨g, _, k.el⟩, k.pe⟩
end

/-- The document's relay, new: two lines and the struct. -/
theorem DSys.new {w w1 w2 : World} {rm : Nat} (h1 : DAt (Since w w1) w1 (w.heap.size + 2) rm (fun _ => ⟨false, []⟩)) (h2 : DAt (Since w1 w2) w2 (w1.heap.size + 2) rm (fun _ => ⟨false, []⟩)) (hb1 : Below w.heap.size w w1) (hb2 : Below w1.heap.size w1 w2) {w3 : World} {vt : Value} {v : Value} (e3 : w2.alloc (.cells (drlCells (two (w1.heap.size + 2) (w.heap.size + 2)) (fun _ => none) (fun _ => 0) (Sys.start rm) v vt) 35) = w3) (hv : v = .slice none 0 0) (hvt : vt = .slice none 0 0) :
    DSys (two (w1.heap.size + 2) (w.heap.size + 2)) w2.heap.size (Sys.start rm) (Since w w3) w3 ∧ Below w.heap.size w w3 := by
  subst hv hvt
  have hb3 : Below w2.heap.size w2 w3 := by rw [← e3]; exact (Below.refl _ w2).alloc (Nat.le_refl _) _
  have s1 := hb1.size
  have s2 := hb2.size
  have s3 : w3.heap.size = w2.heap.size + 1 := by rw [← e3, World.size_alloc]
  have a0 : DAt (Since w1 w2) w3 (w1.heap.size + 2) rm (fun _ => ⟨false, []⟩) := h2.keep hb3
  have a1 : DAt (Since w w1) w3 (w.heap.size + 2) rm (fun _ => ⟨false, []⟩) := (h1.keep hb2).keep hb3
  have l3 : DLines (two (w1.heap.size + 2) (w.heap.size + 2)) (Sys.start rm) (fun i => Since w1 w2 i ∨ Since w w1 i) w3 := ⟨Since w1 w2, Since w w1, ⟨a0, a1, fun i k1 k2 => by unfold Since at k1 k2; omega, fun _ => Iff.rfl⟩⟩
  have r3 : DRlF (two (w1.heap.size + 2) (w.heap.size + 2)) w2.heap.size (Sys.start rm) (fun _ => none) (fun _ => 0) none (.slice none 0 0) [] none (.slice none 0 0) [] (fun i => i = w2.heap.size) w3 := by
    refine ⟨?_, ?_, rfl, fun d hd => ?_, Row.nil _ _, by simp, rfl, rfl, rfl, fun b hb => by omega⟩
    · rw [← e3]; exact Blk.new w2 _ _
    · exact EL.nil ..
    · exact ⟨(Row.nil w3 5).rd, by simp [Sys.start], by simp [Sys.start], by simp [Sys.start]⟩
  refine ⟨⟨_, _, ⟨l3, ⟨_, _, _, _, _, _, _, _, r3⟩, fun b k1 k2 => ?_, fun b => ?_⟩⟩, (hb1.trans (hb2.mono s1)).trans (hb3.mono (by omega))⟩
  · unfold Since at k1; omega
  · unfold Since; omega
end Go.Proofs.YtfmmomdfmmoklaaDoor
