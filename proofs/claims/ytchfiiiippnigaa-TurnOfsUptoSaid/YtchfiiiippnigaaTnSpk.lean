/-
  turn.spoken: the events that go one of the two ways.
  Conditions: events and bytes together at most 4194304.
-/
import Derived.Test.YtchfiiiippnigaaTnREv
import Derived.Test.YtchfiiiippnigaaEvMerge4
namespace Go.Proofs.Ytchfiiiippnigaa
open Go.RowKit

/-- Those of the two ways. -/
def spk (l : List PE) : List PE := l.filter fun a => decide (a.dir = 0 ∨ a.dir = 1)
theorem spk_next {l : List PE} {k : Nat} {a : PE} (h : l[k]? = some a) : spk (l.take (k + 1)) = spk (l.take k) ++ if a.dir = 0 ∨ a.dir = 1 then [a] else [] := by
  have hk := (List.getElem?_eq_some_iff.1 h).1
  have e : l[k] = a := (List.getElem?_eq_some_iff.1 h).2
  rw [List.take_succ_eq_append_getElem hk, e, spk, List.filter_append, ← spk]
  congr 1
  by_cases hd : a.dir = 0 ∨ a.dir = 1 <;> simp [hd]
theorem spk_len (l : List PE) : (spk l).length ≤ l.length := List.length_filter_le _ _
theorem spk_whole (l : List PE) : whole (spk l) ≤ whole l := by
  induction l with
  | nil => simp [spk]
  | cons a l ih =>
    unfold spk at *
    rw [List.filter_cons]
    split
    · rw [whole_cons, whole_cons]; omega
    · rw [whole_cons]; omega
theorem spk_turnsF (l : List PE) : ∀ acc, turnsF acc (spk l) = turnsF acc l := by
  induction l with
  | nil => intro acc; rfl
  | cons a l ih =>
    intro acc
    have e : turnsF acc (a :: l) = turnsF (tput acc a.dir a.data) l := rfl
    rw [e]
    by_cases hd : a.dir = 0 ∨ a.dir = 1
    · have : spk (a :: l) = a :: spk l := by simp [spk, hd]
      rw [this]; exact ih _
    · have : spk (a :: l) = spk l := by simp [spk, hd]
      rw [this, ih, tput_far acc (fun h => hd (.inl h)) (fun h => hd (.inr h))]

set_option maxRecDepth 100000 in
set_option maxHeartbeats 2000000 in
theorem spoken_is (v : Value) (L : List Ev) (w : World) (h : Evs w v L) (hn : L.length ≤ 4194304) :
    Calls Try.prog 24 #[v] w (EvtTo w (spk (pes L))) := by
  have hm := h.max
  obtain ⟨A, c, rfl, hle⟩ := h.form
  have HE := Lib.hid h
  have HL : Hid (∀ k, (spk ((pes L).take k)).length ≤ 4194304) := Lib.hid fun k => by have := spk_len ((pes L).take k); have := List.length_take_le' k (pes L); rw [pes_len] at this; omega
  clear h hle
  go_enter Try.func24, Try.ntmps24
  go_wp2_with fail
  go_loopw [3, 8] (fun s i wr => ∃ (k : Nat) (B : Option Addr) (d : Nat) (l : List Ev), k ≤ L.length ∧ i = .int .i64 k ∧ s = .slice B l.length d ∧ Hid (pes l = spk ((pes L).take k) ∧ ELi w (.slice B l.length d) l wr)) (fun _ i _ => L.length - (intOf i).toNat)
  case atStart => exact ⟨0, none, 0, [], by omega, rfl, rfl, Lib.hid ⟨rfl, none, EL.nil _ _ _, Below.refl _ _⟩⟩
  case round =>
    obtain ⟨k, B, dd, l, hk, rfl, rfl, HW⟩ := hrel
    by_cases hlt : k < L.length
    · obtain ⟨g, hel, hbel⟩ := HW.out.2
      have hll : l.length ≤ 4194304 := by have := HL.out k; rw [← HW.out.1, pes_len] at this; exact this
      obtain ⟨b, o, ⟨d, t, Aa, ca, bs⟩, rfl, ha, hat, hok, hbw⟩ := EvsIn.at (Evs.old HE.out) hlt
      have HN := Lib.hid (spk_next (pes_at ha))
      have HA := Lib.hid (hat.keep (W' := wr) (hbel.block b hbw))
      have c0 : wr.cell? ⟨b, o + k * 3, none⟩ = some (.int .i64 d) := HA.out.dir
      have c1 : wr.cell? ⟨b, o + k * 3 + 1, none⟩ = some (.int .i64 t) := HA.out.time
      have c2 : wr.cell? ⟨b, o + k * 3 + 2, none⟩ = some (.slice Aa bs.length ca) := HA.out.data
      have HO : Hid (∀ W, Below w.heap.size w W → EvOk (fun b => b < w.heap.size) W ⟨d, t, Aa, ca, bs⟩) := Lib.hid fun W hW => hok.keep fun b hb _ => hW.block b hb
      have X := Lib.hid (And.intro hel hbel)
      clear ha hat hok hel hbel HA
      by_cases hd : d = 0 ∨ d = 1
      · have HTT : Hid (pes (l ++ [⟨d, t, Aa, ca, bs⟩]) = spk ((pes L).take (k + 1))) := Lib.hid (by rw [HN.out, pes_snoc, HW.out.1]; simp [Ev.pe, hd])
        have HX : Hid (∀ W, W = wr.alloc (.cells #[.int .i64 d, .int .i64 t, .slice Aa bs.length ca] 44) → EL (fun b => b < w.heap.size) (fun b => w.heap.size ≤ b) W g (.slice B l.length dd) l ∧ Below w.heap.size w W) := Lib.hid fun W e => by rw [e]; exact ⟨X.out.1.alloc _, X.out.2.alloc X.out.2.size _⟩
        rcases hd with rfl | rfl
        · go_wp2_with (at_builtin; refine wpList_append_ev _ rfl (.tmp 20) (.tmp 22) rfl g _ l.length (evcs l) rfl ((HX.out _ rfl).1.row.alloc _) _ (evc ⟨0, t, Aa, ca, bs⟩) rfl (by have h1 := ev_src (w := wr.alloc (.cells #[.int .i64 0, .int .i64 t, .slice Aa bs.length ca] 44)) ⟨0, t, Aa, ca, bs⟩; rw [World.size_alloc] at h1; exact h1) (by omega) ?_; intro B' d' w7 gn hrow' hgr hgn; have Y := Lib.hid (And.intro hrow' (And.intro hgr hgn)); clear hrow' hgr hgn)
          go_roundw
          case rel => exact ⟨k + 1, B', d', l ++ [⟨0, t, Aa, ca, bs⟩], by omega, by go_num, by simp, Lib.hid ⟨HTT.out, by have := ELi.step (HX.out _ rfl).1 (HX.out _ rfl).2 (HO.out _ (HX.out _ rfl).2) Y.out.1 Y.out.2.1 Y.out.2.2; simpa using this⟩⟩
          case measure => simp [intOf]; omega
        · go_wp2_with (at_builtin; refine wpList_append_ev _ rfl (.tmp 20) (.tmp 22) rfl g _ l.length (evcs l) rfl ((HX.out _ rfl).1.row.alloc _) _ (evc ⟨1, t, Aa, ca, bs⟩) rfl (by have h1 := ev_src (w := wr.alloc (.cells #[.int .i64 1, .int .i64 t, .slice Aa bs.length ca] 44)) ⟨1, t, Aa, ca, bs⟩; rw [World.size_alloc] at h1; exact h1) (by omega) ?_; intro B' d' w7 gn hrow' hgr hgn; have Y := Lib.hid (And.intro hrow' (And.intro hgr hgn)); clear hrow' hgr hgn)
          go_roundw
          case rel => exact ⟨k + 1, B', d', l ++ [⟨1, t, Aa, ca, bs⟩], by omega, by go_num, by simp, Lib.hid ⟨HTT.out, by have := ELi.step (HX.out _ rfl).1 (HX.out _ rfl).2 (HO.out _ (HX.out _ rfl).2) Y.out.1 Y.out.2.1 Y.out.2.2; simpa using this⟩⟩
          case measure => simp [intOf]; omega
      · have HTT : Hid (pes l = spk ((pes L).take (k + 1))) := Lib.hid (by rw [HN.out, HW.out.1]; simp [Ev.pe, hd])
        have q0 : (d == 0) = false := by simpa using fun h => hd (.inl h)
        have q1 : (d == 1) = false := by simpa using fun h => hd (.inr h)
        clear hd
        go_wp2_with fail
        go_roundw
        case rel => exact ⟨k + 1, B, dd, l, by omega, by go_num, rfl, Lib.hid ⟨HTT.out, g, X.out.1.alloc _, X.out.2.alloc X.out.2.size _⟩⟩
        case measure => simp [intOf]; omega
    · obtain rfl : k = L.length := by omega
      rw [pes_all] at HW
      go_wp2_with fail
      go_ret
      obtain ⟨hp, g, hel, hbel⟩ := HW.out
      exact ⟨B, dd, l, rfl, hel.evsIn (by have := HL.out L.length; rw [pes_all, ← hp, pes_len] at this; omega) (fun _ _ => trivial) (fun _ _ => trivial), hp, hbel⟩
end Go.Proofs.Ytchfiiiippnigaa
