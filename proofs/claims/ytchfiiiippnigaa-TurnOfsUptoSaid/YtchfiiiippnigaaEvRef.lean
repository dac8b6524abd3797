/-
  The contract of the document's Bytes.
  Conditions: at most 1048576 bytes together.
-/
import Derived.Test.YtchfiiiippnigaaEvMem
import Derived.WalkKit
namespace Go.Proofs.Ytchfiiiippnigaa
open Go.RowKit

theorem byts_next {L : List Ev} {dir : Int} {k : Nat} {d t : Int} {Aa : Option Addr} {ca : Nat} {bs : List Nat} (h : L[k]? = some ⟨d, t, Aa, ca, bs⟩) : byts dir ((pes L).take (k + 1)) = byts dir ((pes L).take k) ++ (if d = dir then bs else []) := by
  rw [pes_take h, byts_append]
  congr 1
  simp [byts, Ev.pe]

set_option maxRecDepth 100000 in
theorem RBytes_any (dir : Int) (v : Value) (L : List Ev) (w : World) (h : Evs w v L) (hw : whole (pes L) ≤ 1048576) :
    Calls Try.prog 21 #[.int .i64 dir, v] w (BytTo w (byts dir (pes L))) := by
  obtain ⟨i0, hi0, hz0, hz1, hz2⟩ := info_parts byte_info
  have hm := h.max
  obtain ⟨A, c, rfl, hle⟩ := h.form
  have HE := Lib.hid h
  clear h hle
  go_enter Try.func21, Try.ntmps21
  go_wp2_with fail
  go_loopw [5, 6] (fun s i wr => ∃ (k : Nat) (B : Option Addr) (d : Nat) (g : Option Nat), k ≤ L.length ∧ i = .int .i64 k ∧ s = .slice B (byts dir ((pes L).take k)).length d ∧ Hid (RowAt w wr B d g (byts dir ((pes L).take k)))) (fun _ i _ => L.length - (intOf i).toNat)
  case atStart => exact ⟨0, none, 0, none, by omega, rfl, rfl, Row.nil _ _, by simp, Below.refl _ _⟩
  case round =>
    obtain ⟨k, B, dd, g, hk, rfl, rfl, HW⟩ := hrel
    by_cases hlt : k < L.length
    · obtain ⟨b, o, d, t, Aa, ca, bs, rfl, ha, c0, c1, c2, hbm, hok⟩ := HE.out.seeAt HW.out.2.2 hlt
      have HN := Lib.hid (byts_next (dir := dir) ha)
      have h1 := byts_le dir ((pes L).take k)
      have h2 := whole_at (pes_at ha)
      have h3 : (Ev.pe ⟨d, t, Aa, ca, bs⟩).data.length = bs.length := rfl
      have h4 : (byts dir ((pes L).take k)).length + bs.length ≤ 1048576 := by omega
      have HK := Lib.hid hok
      clear ha hok h1 h2 h3
      by_cases hd : d = dir
      · subst hd
        rw [if_pos rfl] at HN
        go_wp2_with (at_builtin; refine wpList_append_row _ rfl (.tmp 20) (.tmp 25) _ rfl 5 i0 _ 1 Try.underlying31 hi0 hz0 hz1 hz2 rfl g _ (bv (byts d ((pes L).take k))) rfl HW.out.1 _ (bv bs) rfl HK.out.rd (by rw [bv_len, bv_len]; simp only [maxLen]; omega) (by rw [bv_len, bv_len]; omega) ?_; intro B' d' w7 gn hrow' hgr hgn; simp only [bv_len] at hrow' ⊢; have Y := Lib.hid (And.intro hrow' (And.intro hgr hgn)); clear hrow' hgr hgn)
        go_round
        case rel => exact ⟨k + 1, B', d', gn, by omega, by go_num, by rw [HN.out, List.length_append], by rw [HN.out]; exact HW.out.more (Below.refl _ _) Y.out.1 Y.out.2.1 Y.out.2.2⟩
        case measure => simp [intOf]; omega
      · have hne : (d == dir) = false := by simpa using hd
        rw [if_neg hd, List.append_nil] at HN
        go_wp2_with fail
        go_round
        case rel => exact ⟨k + 1, B, dd, g, by omega, by go_num, by rw [HN.out], by rw [HN.out]; exact HW.out⟩
        case measure => simp [intOf]; omega
    · obtain rfl : k = L.length := by omega
      rw [pes_all] at HW ⊢
      go_wp2_with fail
      go_ret
      exact ⟨B, dd, g, rfl, HW.out.1, HW.out.2.1, HW.out.2.2⟩
end Go.Proofs.Ytchfiiiippnigaa
