/-
  Two lines in memory that was made since w0, apart from each other; N are blocks that are none of the first one's, M none of the second one's; what each call leaves of all these.
  Conditions: the package's table holds what its initialiser lays (Oth).
-/
import Derived.Test.YtniikeciccfjoaaDoorPBes
namespace Go.Proofs.YtniikeciccfjoaaDoor
open Go.RowKit

/-- Two lines, with their blocks F and G. -/
structure DuoF (F G N M : Nat → Prop) (w0 w : World) (p q rm : Nat) (f g : Nat → Way) : Prop where
  lp : PAt F w p rm f
  lq : PAt G w q rm g
  ap : ∀ b, F b → ¬ G b
  fp : ∀ b, F b → w0.heap.size ≤ b
  gq : ∀ b, G b → w0.heap.size ≤ b
  np : ∀ b, N b → ¬ F b
  mq : ∀ b, M b → ¬ G b
  ln : ∀ b, N b → b < w.heap.size
  lm : ∀ b, M b → b < w.heap.size
  below : Below w0.heap.size w0 w

/-- Two lines, apart from each other. -/
def Duo (N M : Nat → Prop) (w0 w : World) (p q rm : Nat) (f g : Nat → Way) : Prop := ∃ F G, DuoF F G N M w0 w p q rm f g

section
variable {F G N M N' M' : Nat → Prop} {w0 w w' : World} {p q rm : Nat} {f g f' g' : Nat → Way}
theorem DuoF.swap (h : DuoF F G N M w0 w p q rm f g) : DuoF G F M N w0 w q p rm g f :=
  ⟨h.lq, h.lp, fun b hb hf => h.ap b hf hb, h.gq, h.fp, h.mq, h.np, h.lm, h.ln, h.below⟩
theorem Duo.swap (h : Duo N M w0 w p q rm f g) : Duo M N w0 w q p rm g f := by
  obtain ⟨F, G, h⟩ := h; exact ⟨G, F, h.swap⟩
theorem Duo.below (h : Duo N M w0 w p q rm f g) : Below w0.heap.size w0 w := by obtain ⟨_, _, h⟩ := h; exact h.below
theorem Duo.congr (h : Duo N M w0 w p q rm f g) (h0 : f 0 = f' 0) (h1 : f 1 = f' 1) (k0 : g 0 = g' 0) (k1 : g 1 = g' 1) : Duo N M w0 w p q rm f' g' := by
  obtain ⟨F, G, h⟩ := h
  exact ⟨F, G, h.lp.congr h0 h1, h.lq.congr k0 k1, h.ap, h.fp, h.gq, h.np, h.mq, h.ln, h.lm, h.below⟩
theorem Duo.less (h : Duo N M w0 w p q rm f g) (hN : ∀ b, N' b → N b) (hM : ∀ b, M' b → M b) : Duo N' M' w0 w p q rm f g := by
  obtain ⟨F, G, h⟩ := h
  exact ⟨F, G, h.lp, h.lq, h.ap, h.fp, h.gq, fun b hb => h.np b (hN b hb), fun b hb => h.mq b (hM b hb), fun b hb => h.ln b (hN b hb), fun b hb => h.lm b (hM b hb), h.below⟩
theorem Duo.keep (h : Duo N M w0 w p q rm f g) (hb : Below w.heap.size w w') : Duo N M w0 w' p q rm f g := by
  obtain ⟨F, G, h⟩ := h
  exact ⟨F, G, h.lp.keep hb, h.lq.keep hb, h.ap, h.fp, h.gq, h.np, h.mq, fun b k => Nat.lt_of_lt_of_le (h.ln b k) hb.size, fun b k => Nat.lt_of_lt_of_le (h.lm b k) hb.size, h.below.trans (hb.mono h.below.size)⟩
theorem Duo.drew (h : Duo N M w0 w p q rm f g) : Duo N M w0 w.drew p q rm f g := h.keep ⟨rfl, rfl, rfl, Nat.le_refl _, fun _ _ => rfl⟩
theorem Duo.drewN (h : Duo N M w0 w p q rm f g) (n : Nat) : Duo N M w0 (w.drewN n) p q rm f g := h.keep ⟨rfl, rfl, rfl, Nat.le_refl _, fun _ _ => rfl⟩
theorem Duo.le (h : Duo N M w0 w p q rm f g) (s : Nat) (hs : s < 2) : (f s).xs.length ≤ rm := by
  obtain ⟨F, G, h⟩ := h; exact h.lp.le s hs
/-- One more block, of the act's own. -/
theorem Duo.more (h : Duo N M w0 w p q rm f g) (o : Obj) : Duo (fun b => b = w.heap.size) (fun b => b = w.heap.size) w0 (w.alloc o) p q rm f g := by
  obtain ⟨F, G, h⟩ := h
  refine ⟨F, G, h.lp.alloc o, h.lq.alloc o, h.ap, h.fp, h.gq, ?_, ?_, ?_, ?_, h.below.alloc h.below.size o⟩
  · rintro b rfl; exact fun hF => Nat.lt_irrefl _ (h.lp.lt _ hF)
  · rintro b rfl; exact fun hF => Nat.lt_irrefl _ (h.lq.lt _ hF)
  · rintro b rfl; simp
  · rintro b rfl; simp
theorem Duo.start {w1 w2 : World} {a : Nat → Way} (hb : Below w0.heap.size w0 w) (hp : PAt (Since w w1) w1 p rm a) (hb1 : Below w.heap.size w w1) (hq : PAt (Since w1 w2) w2 q rm a) (hb2 : Below w1.heap.size w1 w2) : Duo (fun _ => False) (fun _ => False) w0 w2 p q rm a a := by
  have h0 := hb.size
  have h1 := hb1.size
  refine ⟨Since w w1, Since w1 w2, hp.keep hb2, hq, ?_, ?_, ?_, fun _ e => e.elim, fun _ e => e.elim, fun _ e => e.elim, fun _ e => e.elim, hb.trans ((hb1.mono h0).trans (hb2.mono (Nat.le_trans h0 h1)))⟩
  · rintro b ⟨_, k1⟩ ⟨k2, _⟩; omega
  · rintro b ⟨k1, _⟩; omega
  · rintro b ⟨k1, _⟩; omega

theorem DuoF.turn (h : DuoF F G N M w0 w p q rm f g) (t : Turns F w w' p rm f') : Duo N M w0 w' p q rm f' g ∧ Kept N w w' := by
  obtain ⟨F', hp, ho, hF'⟩ := t
  have hsz := ho.size
  have h0 := h.below.size
  refine ⟨⟨F', G, hp, h.lq.only ho (fun b hb hf => h.ap b hf hb), ?_, ?_, h.gq, ?_, h.mq, fun b hb => Nat.lt_of_lt_of_le (h.ln b hb) hsz, fun b hb => Nat.lt_of_lt_of_le (h.lm b hb) hsz, ho.more' h.below (fun i hi hi' => by have := h.fp i hi'; omega)⟩, fun b hb => ho.block b (h.ln b hb) (h.np b hb)⟩
  · intro b hb hg
    rcases hF' b hb with k | k
    · exact h.ap b k hg
    · have := h.lq.lt b hg; omega
  · intro b hb
    rcases hF' b hb with k | k
    · exact h.fp b k
    · omega
  · intro b hb hf
    rcases hF' b hf with k | k
    · exact h.np b hb k
    · have := h.ln b hb; omega

theorem WriteP (h : Duo N M w0 w p q rm f g) (s : Nat) (hs : s < 2) {A : Option Addr} {m c : Nat} {ys : List Nat} (hr : Rd w (.slice A m c) (bv ys)) (hm : m ≤ 9223372036854775807) :
    Calls Tryd.prog 13 #[.pointer (some ⟨p, 0, none⟩), .int .i64 s, .slice A m c] w fun e w' => e = .returned (.int .i64 (putN rm (f s).en (f s).xs.length m)) ∧ Duo N M w0 w' p q rm (upd f s ⟨(f s).en, (f s).xs ++ ys.take (putN rm (f s).en (f s).xs.length m)⟩) g ∧ Kept N w w' := by
  obtain ⟨F, G, h⟩ := h
  refine (PWrite_at h.lp s hs hr hm).mono ?_
  rintro e w' ⟨rfl, ht⟩
  exact ⟨rfl, h.turn ht⟩
theorem WriteQ (h : Duo N M w0 w p q rm f g) (s : Nat) (hs : s < 2) {A : Option Addr} {m c : Nat} {ys : List Nat} (hr : Rd w (.slice A m c) (bv ys)) (hm : m ≤ 9223372036854775807) :
    Calls Tryd.prog 13 #[.pointer (some ⟨q, 0, none⟩), .int .i64 s, .slice A m c] w fun e w' => e = .returned (.int .i64 (putN rm (g s).en (g s).xs.length m)) ∧ Duo N M w0 w' p q rm f (upd g s ⟨(g s).en, (g s).xs ++ ys.take (putN rm (g s).en (g s).xs.length m)⟩) ∧ Kept M w w' :=
  (WriteP h.swap s hs hr hm).mono fun _ _ ⟨he, hd, hk⟩ => ⟨he, hd.swap, hk⟩
/-- What is read lies in memory that is none of the second line's. -/
theorem ReadP (h : Duo N M w0 w p q rm f g) (ho : Oth w0) (s : Nat) (hs : s < 2) (n : Int) :
    Calls Tryd.prog 14 #[.pointer (some ⟨p, 0, none⟩), .int .i64 s, .int .i64 n] w fun e w' => ∃ A c gt, e = .returned (.slice A ((f (1 - s)).xs.take n.toNat).length c) ∧ Row w' 5 gt (.slice A ((f (1 - s)).xs.take n.toNat).length c) (bv ((f (1 - s)).xs.take n.toNat)) ∧ Duo N (fun b => M b ∨ gt = some b) w0 w' p q rm (upd f (1 - s) ⟨(f (1 - s)).en, (f (1 - s)).xs.drop n.toNat⟩) g ∧ Kept N w w' := by
  obtain ⟨F, G, h⟩ := h
  refine (PRead_at h.lp (ho.below h.below) s hs n).mono ?_
  rintro e w' ⟨A, c, gt, rfl, hrow, hge, ht⟩
  obtain ⟨h2, hk⟩ := h.turn ht
  refine ⟨A, c, gt, rfl, hrow, ?_, hk⟩
  obtain ⟨F', hp, ho', hF'⟩ := ht
  have hsz := ho'.size
  have h0 := h.below.size
  refine ⟨F', G, hp, h.lq.only ho' (fun b hb hf => h.ap b hf hb), ?_, ?_, h.gq, ?_, ?_, fun b hb => Nat.lt_of_lt_of_le (h.ln b hb) hsz, ?_, h2.below⟩
  · intro b hb hg
    rcases hF' b hb with k | k
    · exact h.ap b k hg
    · have := h.lq.lt b hg; omega
  · intro b hb
    rcases hF' b hb with k | k
    · exact h.fp b k
    · omega
  · intro b hb hf
    rcases hF' b hf with k | k
    · exact h.np b hb k
    · have := h.ln b hb; omega
  · rintro b (hb | hb) hg
    · exact h.mq b hb hg
    · have := h.lq.lt b hg; have := hge b hb; omega
  · rintro b (hb | hb)
    · exact Nat.lt_of_lt_of_le (h.lm b hb) hsz
    · exact hrow.lt hb
theorem ReadQ (h : Duo N M w0 w p q rm f g) (ho : Oth w0) (s : Nat) (hs : s < 2) (n : Int) :
    Calls Tryd.prog 14 #[.pointer (some ⟨q, 0, none⟩), .int .i64 s, .int .i64 n] w fun e w' => ∃ A c, e = .returned (.slice A ((g (1 - s)).xs.take n.toNat).length c) ∧ Rd w' (.slice A ((g (1 - s)).xs.take n.toNat).length c) (bv ((g (1 - s)).xs.take n.toNat)) ∧ Duo N M w0 w' p q rm f (upd g (1 - s) ⟨(g (1 - s)).en, (g (1 - s)).xs.drop n.toNat⟩) ∧ Kept M w w' :=
  (ReadP h.swap ho s hs n).mono fun _ _ ⟨A, c, _, he, hr, hd, hk⟩ => ⟨A, c, he, hr.rd, (hd.less (fun _ k => k) (fun _ k => .inl k)).swap, hk⟩
theorem HangP (h : Duo N M w0 w p q rm f g) (s : Nat) (hs : s < 2) :
    Calls Tryd.prog 12 #[.pointer (some ⟨p, 0, none⟩), .int .i64 s] w fun e w' => e = .returned (.tuple #[]) ∧ Duo N M w0 w' p q rm (upd f s ⟨true, (f s).xs⟩) g ∧ Kept N w w' := by
  obtain ⟨F, G, h⟩ := h
  refine (PHang_at h.lp s hs).mono ?_
  rintro e w' ⟨rfl, ht⟩
  exact ⟨rfl, h.turn ht⟩
theorem HangQ (h : Duo N M w0 w p q rm f g) (s : Nat) (hs : s < 2) :
    Calls Tryd.prog 12 #[.pointer (some ⟨q, 0, none⟩), .int .i64 s] w fun e w' => e = .returned (.tuple #[]) ∧ Duo N M w0 w' p q rm f (upd g s ⟨true, (g s).xs⟩) ∧ Kept M w w' :=
  (HangP h.swap s hs).mono fun _ _ ⟨he, hd, hk⟩ => ⟨he, hd.swap, hk⟩
theorem OverP (h : Duo N M w0 w p q rm f g) (ho : Oth w0) (s : Nat) (hs : s < 2) :
    Calls Tryd.prog 15 #[.pointer (some ⟨p, 0, none⟩), .int .i64 s] w fun e w' => e = .returned (.bool ((f (1 - s)).en && (f (1 - s)).xs.isEmpty)) ∧ w = w' := by
  obtain ⟨F, G, h⟩ := h
  exact POver_at h.lp (ho.below h.below) s hs
theorem RoomP (h : Duo N M w0 w p q rm f g) (s : Nat) (hs : s < 2) :
    Calls Tryd.prog 17 #[.pointer (some ⟨p, 0, none⟩), .int .i64 s] w fun e w' => e = .returned (.int .i64 (roomOf rm (f s).en (f s).xs.length)) ∧ ∃ n, w' = w.drewN n := by
  obtain ⟨F, G, h⟩ := h
  exact PRoom_at h.lp s hs
end
end Go.Proofs.YtniikeciccfjoaaDoor
