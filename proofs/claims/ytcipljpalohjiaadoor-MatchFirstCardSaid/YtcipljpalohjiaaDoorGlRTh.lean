/-
  The document's Things.
  Conditions: a pattern of at most 9223372036854775807 bytes.
-/
import Derived.Test.YtcipljpalohjiaaDoorGlRSet
import Derived.Test.YtcipljpalohjiaaDoorGlRows
import Derived.Test.YtcipljpalohjiaaDoorStrMid
import Derived.OwnWalk
namespace Go.Proofs.YtcipljpalohjiaaDoor
open Go.RowKit

/-- A new thing that is like one byte. -/
theorem one_new (W : World) {d : Nat} (hd : d < 256) : Below W.heap.size W (W.alloc (.cells ((thCells noT).setIfInBounds (1 + d) (.bool true)) 68)) ∧
    Blk (W.alloc (.cells ((thCells noT).setIfInBounds (1 + d) (.bool true)) 68)) W.heap.size 68 (thCells (oneT d)) := by
  have e : thCells ⟨noT.any, fun j => decide (j = d) || noT.one j⟩ = thCells (oneT d) := th_ext rfl (fun c _ => by simp [noT, oneT])
  rw [Nat.add_comm 1 d, th_set noT hd, e]
  exact ⟨(Below.refl _ W).alloc (Nat.le_refl _) _, Blk.new W _ _⟩
theorem new_cell (W : World) {d : Nat} (hd : d < 256) : (W.alloc (.cells (thCells noT) 68)).cell? ⟨W.heap.size, 1 + d, none⟩ = some (.bool false) := by
  rw [Nat.add_comm 1 d, (Blk.new W 68 (thCells noT)).cell, th_at noT hd]
  rfl
theorem new_fz (W : World) (d : Nat) : (W.alloc (.cells (thCells noT) 68)).frozen? ⟨W.heap.size, 1 + d, none⟩ = false := (Blk.new W 68 (thCells noT)).frozen _

set_option maxRecDepth 100000 in
set_option maxHeartbeats 8000000 in
theorem RThings_is (p : List Nat) (hp : ∀ c ∈ p, c < 256) (hn : p.length ≤ 9223372036854775807) (w : World) :
    Calls Tryd.prog 22 #[.string (str p)] w (ThingsTo w p) := by
  obtain ⟨i0, hi0, hz0, hz1, hz2⟩ := th_info2
  have hsz := str_len p
  have HL := Lib.hid hp
  clear hp
  go_enter Tryd.func22, Tryd.ntmps22
  by_cases hbig : 1024 < p.length
  · go_wp2_with fail
    go_ret2
    exact ThingsTo.long hbig (Below.refl _ _)
  have hn2 : p.length ≤ 1024 := by omega
  go_wp2_with fail
  go_loopw [4, 5] (fun u v wr => ∃ (i : Nat) (l : List Thg) (A : Option Addr) (c : Nat), i ≤ p.length ∧ l.length ≤ i ∧ u = .slice A l.length c ∧ v = .int .i64 i ∧ Hid (ThI w (.slice A l.length c) l wr) ∧ Hid (thingsS p = (thingsS (p.drop i)).map (l ++ ·))) (fun _ v _ => p.length - (intOf v).toNat)
  case atStart => exact ⟨0, [], none, 0, by omega, by simp, rfl, rfl, Lib.hid (ThI.nil w), Lib.hid (by simp)⟩
  case round =>
    obtain ⟨i, l, A, c, hi, hli, rfl, rfl, HI, HF⟩ := hrel
    by_cases hlt : i < p.length
    · obtain ⟨a, ha⟩ : ∃ a, p[i]? = some a := ⟨_, List.getElem?_eq_getElem hlt⟩
      have ha256 := HL.out a (List.mem_of_getElem? ha)
      obtain ⟨hka, hxa⟩ := str_at HL.out ha
      have HA := Lib.hid ha
      clear ha
      have e1 : ((i + 1 : Nat) : Int) = (i : Int) + 1 := by omega
      have e2 : ((i + 2 : Nat) : Int) = (i : Int) + 2 := by omega
      obtain ⟨g, hr, hg, hb⟩ := HI.out
      have X := Lib.hid (And.intro hr (And.intro hg hb))
      clear hr hg hb
      by_cases h42 : a = 42
      · subst h42
        go_wp2_with (first | (with_reducible refine step_build_star ?_) | ((with_reducible refine step_row_th starT ?_ ?_); exact rfl) | (at_builtin; refine wpList_append_rowS _ rfl (.tmp 19) (.tmp 21) _ rfl 68 i0 _ 257 257 Tryd.underlying58 hi0 hz0 hz1 hz2 (th_size noT) g _ l.length (flatT l) rfl (X.out.1.alloc _) _ 1 (thCells starT).toList rfl (src_row _ starT) (by simp only [maxLen]; omega) (by omega) ?_; intro A1 c1 w7 gn hrow hgr hgn; have Y := Lib.hid (And.intro hrow (And.intro hgr hgn)); clear hrow hgr hgn))
        go_roundw
        case rel =>
          refine ⟨i + 1, l ++ [starT], A1, c1, by omega, by rw [List.length_append]; simp; omega, by simp, by go_num, Lib.hid (by rw [List.length_append]; exact ThI.grown X.out.2.1 (X.out.2.2.alloc X.out.2.2.size _) Y.out.1 Y.out.2.1 Y.out.2.2), Lib.hid ?_⟩
          rw [HF.out, things_step_star HA.out]
          cases thingsS (p.drop (i + 1)) <;> simp
        case measure => simp [intOf]; omega
      by_cases h63 : a = 63
      · subst h63
        clear X
        go_wp2_with fail
        refine (Rall_is wr).mono ?_
        rintro e w1 ⟨rfl, hb1⟩
        obtain ⟨g, hr, hg, hb⟩ := HI.out.below hb1
        have X := Lib.hid (And.intro hr (And.intro hg hb))
        clear hr hg hb HI hb1
        go_wp2_with (first | ((with_reducible refine step_row_th allT ?_ ?_); exact rfl) | (at_builtin; refine wpList_append_rowS _ rfl (.tmp 27) (.tmp 29) _ rfl 68 i0 _ 257 257 Tryd.underlying58 hi0 hz0 hz1 hz2 (th_size noT) g _ l.length (flatT l) rfl (X.out.1.alloc _) _ 1 (thCells allT).toList rfl (src_row _ allT) (by simp only [maxLen]; omega) (by omega) ?_; intro A1 c1 w7 gn hrow hgr hgn; have Y := Lib.hid (And.intro hrow (And.intro hgr hgn)); clear hrow hgr hgn))
        go_roundw
        case rel =>
          refine ⟨i + 1, l ++ [allT], A1, c1, by omega, by rw [List.length_append]; simp; omega, by simp, by go_num, Lib.hid (by rw [List.length_append]; exact ThI.grown X.out.2.1 (X.out.2.2.alloc X.out.2.2.size _) Y.out.1 Y.out.2.1 Y.out.2.2), Lib.hid ?_⟩
          rw [HF.out, things_step_all HA.out]
          cases thingsS (p.drop (i + 1)) <;> simp
        case measure => simp [intOf]; omega
      by_cases h91 : a = 91
      · subst h91
        go_wp2_with fail
        go_loopw [6] (fun v W => ∃ k : Nat, i + 2 ≤ k ∧ k ≤ p.length + 1 ∧ v = .int .i64 k ∧ W = wr ∧ Hid (∀ j, i + 2 ≤ j → j < k → p[j]? ≠ some 93 ∧ j < p.length)) (fun v _ => p.length + 1 - (intOf v).toNat)
        case atStart => exact ⟨i + 2, by omega, by omega, by go_num, rfl, Lib.hid (fun j _ _ => by omega)⟩
        case round =>
          obtain ⟨k, hik, hkp, rfl, rfl, HN⟩ := hrel
          by_cases hkl : k < p.length
          · obtain ⟨d, hd⟩ : ∃ d, p[k]? = some d := ⟨_, List.getElem?_eq_getElem hkl⟩
            obtain ⟨hkd, hxd⟩ := str_at HL.out hd
            have HD := Lib.hid hd
            clear hd
            by_cases h93 : d = 93
            · subst h93
              clear X
              go_wp2_with fail
              rw [strg_mid]
              refine (Rset_is ((p.take k).drop (i + 1)) (fun x hx => HL.out x (List.mem_of_mem_take (List.mem_of_mem_drop hx))) (by simp; omega) wr).mono ?_
              rintro e w1 ⟨rfl, hb1⟩
              obtain ⟨g, hr, hg, hb⟩ := HI.out.below hb1
              have X := Lib.hid (And.intro hr (And.intro hg hb))
              clear hr hg hb HI hb1
              go_wp2_with (first | ((with_reducible refine step_row_th (setT ((p.take k).drop (i + 1))) ?_ ?_); exact rfl) | (at_builtin; refine wpList_append_rowS _ rfl (.tmp 53) (.tmp 60) _ rfl 68 i0 _ 257 257 Tryd.underlying58 hi0 hz0 hz1 hz2 (th_size noT) g _ l.length (flatT l) rfl (X.out.1.alloc _) _ 1 (thCells (setT ((p.take k).drop (i + 1)))).toList rfl (src_row _ (setT ((p.take k).drop (i + 1)))) (by simp only [maxLen]; omega) (by omega) ?_; intro A1 c1 w7 gn hrow hgr hgn; have Y := Lib.hid (And.intro hrow (And.intro hgr hgn)); clear hrow hgr hgn))
              go_roundw
              case rel =>
                refine ⟨k + 1, l ++ [setT ((p.take k).drop (i + 1))], A1, c1, by omega, by rw [List.length_append]; simp; omega, by simp, by go_num, Lib.hid (by rw [List.length_append]; exact ThI.grown X.out.2.1 (X.out.2.2.alloc X.out.2.2.size _) Y.out.1 Y.out.2.1 Y.out.2.2), Lib.hid ?_⟩
                rw [HF.out, things_step_set HA.out hik HN.out HD.out]
                cases thingsS (p.drop (k + 1)) <;> simp
              case measure => simp [intOf]; omega
            · have q93 : ((d : Int) != 93) = true := by simp; omega
              go_wp2_with fail
              go_roundw
              case rel => exact ⟨k + 1, by omega, by omega, by go_num, trivial, Lib.hid (fun j h1 h2 => by
                rcases Nat.lt_or_ge j k with h3 | h3
                · exact HN.out j h1 h3
                · obtain rfl : j = k := by omega
                  rw [HD.out]
                  exact ⟨by simpa using h93, hkl⟩)⟩
              case measure => simp [intOf]; omega
          · go_wp2_with fail
            go_ret2
            exact ThingsTo.bad hbig X.out.2.2 (by rw [HF.out, things_step_open HA.out hik HN.out (by omega)]; rfl)
      by_cases h92 : a = 92
      · subst h92
        by_cases hend : i + 1 < p.length
        · obtain ⟨d, hd⟩ : ∃ d, p[i + 1]? = some d := ⟨_, List.getElem?_eq_getElem hend⟩
          have hd256 := HL.out d (List.mem_of_getElem? hd)
          obtain ⟨hkd, hxd⟩ := str_at HL.out hd
          have HD := Lib.hid hd
          clear hd X
          obtain ⟨b2, i2⟩ := one_new wr hd256
          obtain ⟨g, hr, hg, hb⟩ := HI.out.below b2
          have X := Lib.hid (And.intro hr (And.intro hg hb))
          have B := Lib.hid i2
          clear hr hg hb HI b2 i2
          have c0 := new_cell wr hd256
          have f0 := new_fz wr d
          go_wp2_with (first | (with_reducible refine step_build_no ?_) | (with_reducible refine step_alloc_th ?_) | ((with_reducible refine step_store_new noT (thCells noT) ?_ ?_ ?_ ?_); rfl; rfl; exact th_size _) | ((with_reducible refine step_load_th wr.heap.size (oneT d) ?_ ?_ ?_); rfl; exact B.out) | ((with_reducible refine step_row_th (oneT d) ?_ ?_); exact rfl) | (at_builtin; refine wpList_append_rowS _ rfl (.tmp 79) (.tmp 81) _ rfl 68 i0 _ 257 257 Tryd.underlying58 hi0 hz0 hz1 hz2 (th_size noT) g _ l.length (flatT l) rfl (X.out.1.alloc _) _ 1 (thCells (oneT d)).toList rfl (src_row _ (oneT d)) (by simp only [maxLen]; omega) (by omega) ?_; intro A1 c1 w7 gn hrow hgr hgn; have Y := Lib.hid (And.intro hrow (And.intro hgr hgn)); clear hrow hgr hgn))
          go_roundw
          case rel =>
            refine ⟨i + 2, l ++ [oneT d], A1, c1, by omega, by rw [List.length_append]; simp; omega, by simp, by go_num, Lib.hid (by rw [List.length_append]; exact ThI.grown X.out.2.1 (X.out.2.2.alloc X.out.2.2.size _) Y.out.1 Y.out.2.1 Y.out.2.2), Lib.hid ?_⟩
            rw [HF.out, things_step_back HA.out HD.out]
            cases thingsS (p.drop (i + 2)) <;> simp
          case measure => simp [intOf]; omega
        · go_wp2_with fail
          go_ret2
          exact ThingsTo.bad hbig X.out.2.2 (by rw [HF.out, things_step_cut HA.out (by omega)]; rfl)
      · clear X
        obtain ⟨b2, i2⟩ := one_new wr ha256
        obtain ⟨g, hr, hg, hb⟩ := HI.out.below b2
        have X := Lib.hid (And.intro hr (And.intro hg hb))
        have B := Lib.hid i2
        clear hr hg hb HI b2 i2
        have c0 := new_cell wr ha256
        have f0 := new_fz wr a
        go_wp2_with (first | (with_reducible refine step_build_no ?_) | (with_reducible refine step_alloc_th ?_) | ((with_reducible refine step_store_new noT (thCells noT) ?_ ?_ ?_ ?_); rfl; rfl; exact th_size _) | ((with_reducible refine step_load_th wr.heap.size (oneT a) ?_ ?_ ?_); rfl; exact B.out) | ((with_reducible refine step_row_th (oneT a) ?_ ?_); exact rfl) | (at_builtin; refine wpList_append_rowS _ rfl (.tmp 79) (.tmp 81) _ rfl 68 i0 _ 257 257 Tryd.underlying58 hi0 hz0 hz1 hz2 (th_size noT) g _ l.length (flatT l) rfl (X.out.1.alloc _) _ 1 (thCells (oneT a)).toList rfl (src_row _ (oneT a)) (by simp only [maxLen]; omega) (by omega) ?_; intro A1 c1 w7 gn hrow hgr hgn; have Y := Lib.hid (And.intro hrow (And.intro hgr hgn)); clear hrow hgr hgn))
        go_roundw
        case rel =>
          refine ⟨i + 1, l ++ [oneT a], A1, c1, by omega, by rw [List.length_append]; simp; omega, by simp, by go_num, Lib.hid (by rw [List.length_append]; exact ThI.grown X.out.2.1 (X.out.2.2.alloc X.out.2.2.size _) Y.out.1 Y.out.2.1 Y.out.2.2), Lib.hid ?_⟩
          rw [HF.out, things_step_one HA.out h42 h63 h91 h92]
          cases thingsS (p.drop (i + 1)) <;> simp
        case measure => simp [intOf]; omega
    · obtain rfl : i = p.length := by omega
      go_wp2_with fail
      go_ret2
      refine ThingsTo.good hbig (l := l) ?_ HI.out
      rw [HF.out, List.drop_of_length_le (Nat.le_refl _), things_nil]
      simp
end Go.Proofs.YtcipljpalohjiaaDoor
