/- The walk of DescrBuild. Nothing is claimed here. -/
import Derived.Test.YtjlcocalpjeghaaDoorDescrLawB
import Derived.Deep.Cut
namespace Go.Proofs.YtjlcocalpjeghaaDoor
open Go.RowKit

set_option maxHeartbeats 8000000 in
set_option maxRecDepth 100000 in
theorem DescrBuild_walk (a0 : Option Addr) (len0 cap0 : Nat) (z0 : List Int) (a1 : Option Addr) (len1 cap1 : Nat) (z1 : List Int) (a2 : Int) (w : World) (w0 : Came .i64 w a0 len0 cap0 z0) (w1 : Came .i64 w a1 len1 cap1 z1) (_w2 : (Lit.int .i64 a2).wf = true) (hw : Maxed w) :
    Calls Tryd.prog 6 #[.slice a0 len0 cap0, .slice a1 len1 cap1, .int .i64 a2] w fun e w' => e = .returned (.bool true) ∧ Below w.heap.size w w' := by
  obtain ⟨i0, hi0, iz0, iz1, iz2⟩ := info_parts typeinfo
  have HR0 := hide (came_cells w0 len0 (Nat.le_refl _))
  have HR1 := hide (came_cells w1 len1 (Nat.le_refl _))
  obtain ⟨hl0, hm0, hn0⟩ := came_lens w0
  obtain ⟨hl1, hm1, hn1⟩ := came_lens w1
  unfold maxLen at hm0 hm1
  have HW := hide hw
  have HPr : Hid (∀ (t : Ty), Fine t → ∀ W, Calls Tryd.prog 14 #[t.val] W fun e w' => ∃ p, e = .returned (.string p) ∧ nums p = putT t ∧ Below W.heap.size W w') := hide fun t ht W =>
    print_any t W ht.2.1 (by have := ht.2.2.1; omega) ht.2.2.2.1.1 ht.2.2.2.1.2 ht.2.2.2.2.1.1 ht.2.2.2.2.1.2
  have HWo : Hid (∀ (t : Ty), Fine t → ∀ W, Calls Tryd.prog 12 #[t.val] W fun e w' => e = .returned (.int .i64 (words t.kind)) ∧ Below W.heap.size W w') := hide fun t ht W =>
    words_any t W ht.2.2.2.2.1.1 ht.2.2.2.2.1.2
  obtain ⟨rt, hrt, hr1, hr2, rm, hrm, hr7⟩ := tmod7 a2
  clear w0 w1 hw
  generalize z0.take len0 = y0 at *
  generalize z1.take len1 = y1 at *
  go_enter Tryd.func6, Tryd.ntmps6
  go_wp2_with fail
  refine (dbegun_is w HW.out).mono ?_
  rintro e wb ⟨rfl, hb1⟩
  have B1 := hide hb1
  have hzb := hb1.size
  clear hb1
  have HAt := hide (show At (wb.alloc (.cells (tcells allTys).toArray 25)) wb.heap.size 25 (tcells allTys) from At.new _ _ _)
  rw [all_cells] at HAt
  go_wp2_with fail
  go_loopw [9, 10, 11, 12] (fun sv av dv iv wr => ∃ (j : Nat) (acc : List Ty) (q : ByteArray), j ≤ len0 ∧ j ≤ 20 ∧ iv = .int .i64 j ∧ acc.length = j ∧ (∀ t ∈ acc, Fine t) ∧ sv = .string q ∧ nums q = 40 :: acc.flatMap putT ∧ dv = .int .i64 (sumW acc) ∧
    wr.ownsRow (wb.heap.size + 1) 25 4 av j (tcells acc) ∧ At wr wb.heap.size 25 (tcells allTys) ∧ Below w.heap.size w wr ∧ wb.heap.size < wr.heap.size) (fun _ _ _ iv _ => len0 - (intOf iv).toNat)
  case atStart =>
    refine ⟨0, [], ⟨#[40]⟩, Nat.zero_le _, Nat.zero_le _, rfl, rfl, fun t ht => (by cases ht), rfl, rfl, rfl, World.ownsRow_nil _ _ _ _, ?_, B1.out.alloc B1.out.size _, by simp⟩
    rw [all_cells]; exact HAt.out
  case round =>
    obtain ⟨j, acc, q, hj0, hj20, rfl, hal, hfine, rfl, hq, rfl, hown, hat, hb, hsz⟩ := hrel
    clear HAt
    have HF := hide hfine
    have HQ := hide hq
    have HO := hide hown
    have HA := hide hat
    have HB := hide hb
    have hqz : q.size ≤ 1 + 260 * j := by
      rw [← nums_len, hq, List.length_cons]
      have := flat_len acc hfine
      rw [hal] at this; omega
    have hsr := sumW_range acc
    rw [hal] at hsr
    clear hfine hq hown hat hb
    by_cases hin : j < len0 ∧ j < 20
    · obtain ⟨hjl, hj2⟩ := hin
      obtain ⟨g0, o0, rfl, hg0, hc0⟩ := cells_at HR0.out hjl
      have kc : wr.cell? ⟨g0, o0 + j, none⟩ = some (.int .i64 (y0.getD j 0)) := by rw [← hc0]; exact HB.out.cell (p := ⟨g0, o0 + j, none⟩) hg0
      clear hc0
      generalize y0.getD j 0 = kx at *
      obtain ⟨t7, ht7, ht1, ht2, m, hm, hm7⟩ := tmod7 kx
      obtain ⟨gA, oA, hgA, hltA, c0, c1, c2, c3⟩ := (rd_all HA.out).cells4 hm7
      cases hgA
      have Hu := hide (fine_plain hm7)
      have Hv := hide (fun d h0 h1 => fine_arr (d := d) hm7 h0 h1)
      generalize allTys.getD m noTy = u at *
      obtain ⟨uk, un, ud, ux⟩ := u
      simp only [Nat.zero_add] at c0 c1 c2 c3
      obtain ⟨uq, huq⟩ : ∃ uq, strOfNums un = uq := ⟨_, rfl⟩
      rw [huq] at c1
      have HN := hide huq
      clear huq
      have hji : (j : Int) < (len0 : Int) := by omega
      have hjt : (j : Int) < 20 := by omega
      have hmi : (m : Int) < 7 := by omega
      by_cases hd1 : j < len1
      · obtain ⟨g1, o1, rfl, hg1, hd0⟩ := cells_at HR1.out hd1
        have kd : wr.cell? ⟨g1, o1 + j, none⟩ = some (.int .i64 (y1.getD j 0)) := by rw [← hd0]; exact HB.out.cell (p := ⟨g1, o1 + j, none⟩) hg1
        clear hd0
        generalize y1.getD j 0 = dx at *
        have hdi : (j : Int) < (len1 : Int) := by omega
        have hg1r : g1 < wr.heap.size := by have := HB.out.size; omega
        by_cases hda : 0 < dx
        · by_cases hdb : dx < 256
          · obtain ⟨dn, rfl⟩ : ∃ dn : Nat, dx = dn := ⟨dx.toNat, by omega⟩
            have HT : Hid (Fine ⟨91, un, dn, uk⟩) := hide (Hv.out dn (by omega) (by omega))
            have hP1 := HPr.out _ HT.out
            have hW1 := HWo.out _ HT.out
            rw [Ty.val_mk, HN.out] at hP1 hW1
            have hpl := HT.out.2.2.2.2.2
            obtain ⟨pl, hpl2⟩ : ∃ pl, putT ⟨91, un, dn, uk⟩ = pl := ⟨_, rfl⟩
            obtain ⟨wd, hwd⟩ : ∃ wd, words (⟨91, un, dn, uk⟩ : Ty).kind = wd := ⟨_, rfl⟩
            have hwr := words_range (⟨91, un, dn, uk⟩ : Ty).kind
            have HPL := hide hpl2
            have HWD := hide hwd
            rw [hpl2] at hP1 hpl
            rw [hwd] at hW1 hwr
            have HP1 := hide hP1
            have HW1 := hide hW1
            clear hpl2 hwd hP1 hW1
            go_wp2_with fail
            go_region
            go_upto_region 15 with fail
            obtain ⟨wx, hwx⟩ : ∃ wx, (wr.alloc (.cells #[.int .u8 91, .string uq, .int .i64 dn, .int .u8 uk] 25)).drew = wx := ⟨_, rfl⟩
            rw [hwx]
            have tx : At wx wr.heap.size 25 [.int .u8 91, .string uq, .int .i64 dn, .int .u8 uk] := by rw [← hwx]; exact At.new wr 25 [.int .u8 91, .string uq, .int .i64 dn, .int .u8 uk]
            have AX := hide (show At wx wb.heap.size 25 (tcells allTys) by rw [← hwx]; exact HA.out.alloc _)
            have HO1 : Hid (wx.ownsRow (wb.heap.size + 1) 25 4 u10 j (tcells acc)) := hide (by rw [← hwx]; exact World.ownsRow.alloc HO.out _)
            have BX := hide (show Below w.heap.size w wx by rw [← hwx]; exact (HB.out.alloc (by have := HB.out.size; omega) _).drew)
            have hzx : wx.heap.size = wr.heap.size + 1 := by rw [← hwx]; show (World.alloc wr _).heap.size = _; simp
            have hbw := HB.out.size
            clear hwx
            obtain ⟨d0, d1, d2, d3⟩ := c4_of tx
            go_wp2_with (at_builtin; go_loud (refine wpList_append_four _ rfl (.tmp 77) (.tmp 79) 32 rfl (wb.heap.size + 1) 25 i0 _ 40 Tryd.underlying32 hi0 iz0 iz1 iz2 rfl _ _ _ rfl HO1.out [.int .u8 91, .string uq, .int .i64 dn, .int .u8 uk] rfl _ (by first | exact hzx.symm | rfl) rfl rfl (by unfold maxLen; omega) (by omega) (by omega) ?_); intro v2 w3 hown3 hg3; have t3 := tx.grown hg3 (own_new HO.out); obtain ⟨e0, e1, e2, e3⟩ := c4_of t3)
            have A3 := hide (AX.out.grown hg3 (own_far HO1.out (by omega)))
            have T3 := hide t3
            have B3 := hide (below_own4 (B := w.heap.size) BX.out HO1.out hg3 (by omega) (by omega))
            have O3 := hide hown3
            have hz3 : wr.heap.size < w3.heap.size := by have := hg3.size; omega
            clear hown3 hg3 t3 AX BX tx d0 d1 d2 d3
            refine (HP1.out _).mono ?_
            rintro e w4 ⟨p, rfl, hp, hb4⟩
            have hpz : p.size ≤ 260 := by rw [← nums_len, hp]; exact hpl
            have HPN := hide hp
            have A4 := hide (A3.out.below hb4 A3.out.lt)
            have T4 := hide (T3.out.below hb4 T3.out.lt)
            have O4 := hide (own_below O3.out hb4)
            have B4 := hide (B3.out.trans (hb4.mono B3.out.size))
            have hz4 := hb4.size
            clear hb4 hp A3 T3 O3 B3 e0 e1 e2 e3
            obtain ⟨e0, e1, e2, e3⟩ := c4_of T4.out
            go_wp2_with fail
            refine (HW1.out _).mono ?_
            rintro e w5 ⟨rfl, hb5⟩
            have A5 := hide (A4.out.below hb5 A4.out.lt)
            have O5 := hide (own_below O4.out hb5)
            have B5 := hide (B4.out.trans (hb5.mono B4.out.size))
            have hz5 := hb5.size
            clear hb5 A4 T4 O4 B4 e0 e1 e2 e3
            go_wp2_with fail
            go_roundw
            case rel =>
              refine ⟨j + 1, acc ++ [⟨91, un, dn, uk⟩], q ++ p, by omega, by omega, by go_num, by simp [hal], ?_, rfl, ?_, ?_, ?_, A5.out, B5.out, by omega⟩
              · intro t ht
                rcases List.mem_append.1 ht with h | h
                · exact HF.out t h
                · rw [List.mem_singleton.1 h]; exact HT.out
              · rw [nums_app, HQ.out, HPN.out, List.flatMap_append, List.cons_append, ← HPL.out]; simp
              · rw [sumW_snoc, HWD.out]
              · rw [tcells_snoc, Ty.cells, HN.out]; exact O5.out
            case measure => simp [intOf]; omega

          · skip
            have HT : Hid (Fine ⟨uk, un, ud, ux⟩) := hide (Hu.out)
            have hP1 := HPr.out _ HT.out
            have hW1 := HWo.out _ HT.out
            rw [Ty.val_mk, HN.out] at hP1 hW1
            have hpl := HT.out.2.2.2.2.2
            obtain ⟨pl, hpl2⟩ : ∃ pl, putT ⟨uk, un, ud, ux⟩ = pl := ⟨_, rfl⟩
            obtain ⟨wd, hwd⟩ : ∃ wd, words (⟨uk, un, ud, ux⟩ : Ty).kind = wd := ⟨_, rfl⟩
            have hwr := words_range (⟨uk, un, ud, ux⟩ : Ty).kind
            have HPL := hide hpl2
            have HWD := hide hwd
            rw [hpl2] at hP1 hpl
            rw [hwd] at hW1 hwr
            have HP1 := hide hP1
            have HW1 := hide hW1
            clear hpl2 hwd hP1 hW1
            go_upto_region 15 with fail
            obtain ⟨wx, hwx⟩ : ∃ wx, wr.alloc (.cells #[.int .u8 uk, .string uq, .int .i64 ud, .int .u8 ux] 25) = wx := ⟨_, rfl⟩
            rw [hwx]
            have tx : At wx wr.heap.size 25 [.int .u8 uk, .string uq, .int .i64 ud, .int .u8 ux] := by rw [← hwx]; exact At.new wr 25 [.int .u8 uk, .string uq, .int .i64 ud, .int .u8 ux]
            have AX := hide (show At wx wb.heap.size 25 (tcells allTys) by rw [← hwx]; exact HA.out.alloc _)
            have HO1 : Hid (wx.ownsRow (wb.heap.size + 1) 25 4 u10 j (tcells acc)) := hide (by rw [← hwx]; exact World.ownsRow.alloc HO.out _)
            have BX := hide (show Below w.heap.size w wx by rw [← hwx]; exact HB.out.alloc (by have := HB.out.size; omega) _)
            have hzx : wx.heap.size = wr.heap.size + 1 := by rw [← hwx]; simp
            have hbw := HB.out.size
            clear hwx
            obtain ⟨d0, d1, d2, d3⟩ := c4_of tx
            go_wp2_with (at_builtin; go_loud (refine wpList_append_four _ rfl (.tmp 77) (.tmp 79) 32 rfl (wb.heap.size + 1) 25 i0 _ 40 Tryd.underlying32 hi0 iz0 iz1 iz2 rfl _ _ _ rfl HO1.out [.int .u8 uk, .string uq, .int .i64 ud, .int .u8 ux] rfl _ (by first | exact hzx.symm | rfl) rfl rfl (by unfold maxLen; omega) (by omega) (by omega) ?_); intro v2 w3 hown3 hg3; have t3 := tx.grown hg3 (own_new HO.out); obtain ⟨e0, e1, e2, e3⟩ := c4_of t3)
            have A3 := hide (AX.out.grown hg3 (own_far HO1.out (by omega)))
            have T3 := hide t3
            have B3 := hide (below_own4 (B := w.heap.size) BX.out HO1.out hg3 (by omega) (by omega))
            have O3 := hide hown3
            have hz3 : wr.heap.size < w3.heap.size := by have := hg3.size; omega
            clear hown3 hg3 t3 AX BX tx d0 d1 d2 d3
            refine (HP1.out _).mono ?_
            rintro e w4 ⟨p, rfl, hp, hb4⟩
            have hpz : p.size ≤ 260 := by rw [← nums_len, hp]; exact hpl
            have HPN := hide hp
            have A4 := hide (A3.out.below hb4 A3.out.lt)
            have T4 := hide (T3.out.below hb4 T3.out.lt)
            have O4 := hide (own_below O3.out hb4)
            have B4 := hide (B3.out.trans (hb4.mono B3.out.size))
            have hz4 := hb4.size
            clear hb4 hp A3 T3 O3 B3 e0 e1 e2 e3
            obtain ⟨e0, e1, e2, e3⟩ := c4_of T4.out
            go_wp2_with fail
            refine (HW1.out _).mono ?_
            rintro e w5 ⟨rfl, hb5⟩
            have A5 := hide (A4.out.below hb5 A4.out.lt)
            have O5 := hide (own_below O4.out hb5)
            have B5 := hide (B4.out.trans (hb5.mono B4.out.size))
            have hz5 := hb5.size
            clear hb5 A4 T4 O4 B4 e0 e1 e2 e3
            go_wp2_with fail
            go_roundw
            case rel =>
              refine ⟨j + 1, acc ++ [⟨uk, un, ud, ux⟩], q ++ p, by omega, by omega, by go_num, by simp [hal], ?_, rfl, ?_, ?_, ?_, A5.out, B5.out, by omega⟩
              · intro t ht
                rcases List.mem_append.1 ht with h | h
                · exact HF.out t h
                · rw [List.mem_singleton.1 h]; exact HT.out
              · rw [nums_app, HQ.out, HPN.out, List.flatMap_append, List.cons_append, ← HPL.out]; simp
              · rw [sumW_snoc, HWD.out]
              · rw [tcells_snoc, Ty.cells, HN.out]; exact O5.out
            case measure => simp [intOf]; omega

        · skip
          have HT : Hid (Fine ⟨uk, un, ud, ux⟩) := hide (Hu.out)
          have hP1 := HPr.out _ HT.out
          have hW1 := HWo.out _ HT.out
          rw [Ty.val_mk, HN.out] at hP1 hW1
          have hpl := HT.out.2.2.2.2.2
          obtain ⟨pl, hpl2⟩ : ∃ pl, putT ⟨uk, un, ud, ux⟩ = pl := ⟨_, rfl⟩
          obtain ⟨wd, hwd⟩ : ∃ wd, words (⟨uk, un, ud, ux⟩ : Ty).kind = wd := ⟨_, rfl⟩
          have hwr := words_range (⟨uk, un, ud, ux⟩ : Ty).kind
          have HPL := hide hpl2
          have HWD := hide hwd
          rw [hpl2] at hP1 hpl
          rw [hwd] at hW1 hwr
          have HP1 := hide hP1
          have HW1 := hide hW1
          clear hpl2 hwd hP1 hW1
          go_upto_region 15 with fail
          obtain ⟨wx, hwx⟩ : ∃ wx, wr.alloc (.cells #[.int .u8 uk, .string uq, .int .i64 ud, .int .u8 ux] 25) = wx := ⟨_, rfl⟩
          rw [hwx]
          have tx : At wx wr.heap.size 25 [.int .u8 uk, .string uq, .int .i64 ud, .int .u8 ux] := by rw [← hwx]; exact At.new wr 25 [.int .u8 uk, .string uq, .int .i64 ud, .int .u8 ux]
          have AX := hide (show At wx wb.heap.size 25 (tcells allTys) by rw [← hwx]; exact HA.out.alloc _)
          have HO1 : Hid (wx.ownsRow (wb.heap.size + 1) 25 4 u10 j (tcells acc)) := hide (by rw [← hwx]; exact World.ownsRow.alloc HO.out _)
          have BX := hide (show Below w.heap.size w wx by rw [← hwx]; exact HB.out.alloc (by have := HB.out.size; omega) _)
          have hzx : wx.heap.size = wr.heap.size + 1 := by rw [← hwx]; simp
          have hbw := HB.out.size
          clear hwx
          obtain ⟨d0, d1, d2, d3⟩ := c4_of tx
          go_wp2_with (at_builtin; go_loud (refine wpList_append_four _ rfl (.tmp 77) (.tmp 79) 32 rfl (wb.heap.size + 1) 25 i0 _ 40 Tryd.underlying32 hi0 iz0 iz1 iz2 rfl _ _ _ rfl HO1.out [.int .u8 uk, .string uq, .int .i64 ud, .int .u8 ux] rfl _ (by first | exact hzx.symm | rfl) rfl rfl (by unfold maxLen; omega) (by omega) (by omega) ?_); intro v2 w3 hown3 hg3; have t3 := tx.grown hg3 (own_new HO.out); obtain ⟨e0, e1, e2, e3⟩ := c4_of t3)
          have A3 := hide (AX.out.grown hg3 (own_far HO1.out (by omega)))
          have T3 := hide t3
          have B3 := hide (below_own4 (B := w.heap.size) BX.out HO1.out hg3 (by omega) (by omega))
          have O3 := hide hown3
          have hz3 : wr.heap.size < w3.heap.size := by have := hg3.size; omega
          clear hown3 hg3 t3 AX BX tx d0 d1 d2 d3
          refine (HP1.out _).mono ?_
          rintro e w4 ⟨p, rfl, hp, hb4⟩
          have hpz : p.size ≤ 260 := by rw [← nums_len, hp]; exact hpl
          have HPN := hide hp
          have A4 := hide (A3.out.below hb4 A3.out.lt)
          have T4 := hide (T3.out.below hb4 T3.out.lt)
          have O4 := hide (own_below O3.out hb4)
          have B4 := hide (B3.out.trans (hb4.mono B3.out.size))
          have hz4 := hb4.size
          clear hb4 hp A3 T3 O3 B3 e0 e1 e2 e3
          obtain ⟨e0, e1, e2, e3⟩ := c4_of T4.out
          go_wp2_with fail
          refine (HW1.out _).mono ?_
          rintro e w5 ⟨rfl, hb5⟩
          have A5 := hide (A4.out.below hb5 A4.out.lt)
          have O5 := hide (own_below O4.out hb5)
          have B5 := hide (B4.out.trans (hb5.mono B4.out.size))
          have hz5 := hb5.size
          clear hb5 A4 T4 O4 B4 e0 e1 e2 e3
          go_wp2_with fail
          go_roundw
          case rel =>
            refine ⟨j + 1, acc ++ [⟨uk, un, ud, ux⟩], q ++ p, by omega, by omega, by go_num, by simp [hal], ?_, rfl, ?_, ?_, ?_, A5.out, B5.out, by omega⟩
            · intro t ht
              rcases List.mem_append.1 ht with h | h
              · exact HF.out t h
              · rw [List.mem_singleton.1 h]; exact HT.out
            · rw [nums_app, HQ.out, HPN.out, List.flatMap_append, List.cons_append, ← HPL.out]; simp
            · rw [sumW_snoc, HWD.out]
            · rw [tcells_snoc, Ty.cells, HN.out]; exact O5.out
          case measure => simp [intOf]; omega

      · have hdi : ¬ (j : Int) < (len1 : Int) := by omega
        have HT : Hid (Fine ⟨uk, un, ud, ux⟩) := hide (Hu.out)
        have hP1 := HPr.out _ HT.out
        have hW1 := HWo.out _ HT.out
        rw [Ty.val_mk, HN.out] at hP1 hW1
        have hpl := HT.out.2.2.2.2.2
        obtain ⟨pl, hpl2⟩ : ∃ pl, putT ⟨uk, un, ud, ux⟩ = pl := ⟨_, rfl⟩
        obtain ⟨wd, hwd⟩ : ∃ wd, words (⟨uk, un, ud, ux⟩ : Ty).kind = wd := ⟨_, rfl⟩
        have hwr := words_range (⟨uk, un, ud, ux⟩ : Ty).kind
        have HPL := hide hpl2
        have HWD := hide hwd
        rw [hpl2] at hP1 hpl
        rw [hwd] at hW1 hwr
        have HP1 := hide hP1
        have HW1 := hide hW1
        clear hpl2 hwd hP1 hW1
        go_upto_region 15 with fail
        obtain ⟨wx, hwx⟩ : ∃ wx, wr.alloc (.cells #[.int .u8 uk, .string uq, .int .i64 ud, .int .u8 ux] 25) = wx := ⟨_, rfl⟩
        rw [hwx]
        have tx : At wx wr.heap.size 25 [.int .u8 uk, .string uq, .int .i64 ud, .int .u8 ux] := by rw [← hwx]; exact At.new wr 25 [.int .u8 uk, .string uq, .int .i64 ud, .int .u8 ux]
        have AX := hide (show At wx wb.heap.size 25 (tcells allTys) by rw [← hwx]; exact HA.out.alloc _)
        have HO1 : Hid (wx.ownsRow (wb.heap.size + 1) 25 4 u10 j (tcells acc)) := hide (by rw [← hwx]; exact World.ownsRow.alloc HO.out _)
        have BX := hide (show Below w.heap.size w wx by rw [← hwx]; exact HB.out.alloc (by have := HB.out.size; omega) _)
        have hzx : wx.heap.size = wr.heap.size + 1 := by rw [← hwx]; simp
        have hbw := HB.out.size
        clear hwx
        obtain ⟨d0, d1, d2, d3⟩ := c4_of tx
        go_wp2_with (at_builtin; go_loud (refine wpList_append_four _ rfl (.tmp 77) (.tmp 79) 32 rfl (wb.heap.size + 1) 25 i0 _ 40 Tryd.underlying32 hi0 iz0 iz1 iz2 rfl _ _ _ rfl HO1.out [.int .u8 uk, .string uq, .int .i64 ud, .int .u8 ux] rfl _ (by first | exact hzx.symm | rfl) rfl rfl (by unfold maxLen; omega) (by omega) (by omega) ?_); intro v2 w3 hown3 hg3; have t3 := tx.grown hg3 (own_new HO.out); obtain ⟨e0, e1, e2, e3⟩ := c4_of t3)
        have A3 := hide (AX.out.grown hg3 (own_far HO1.out (by omega)))
        have T3 := hide t3
        have B3 := hide (below_own4 (B := w.heap.size) BX.out HO1.out hg3 (by omega) (by omega))
        have O3 := hide hown3
        have hz3 : wr.heap.size < w3.heap.size := by have := hg3.size; omega
        clear hown3 hg3 t3 AX BX tx d0 d1 d2 d3
        refine (HP1.out _).mono ?_
        rintro e w4 ⟨p, rfl, hp, hb4⟩
        have hpz : p.size ≤ 260 := by rw [← nums_len, hp]; exact hpl
        have HPN := hide hp
        have A4 := hide (A3.out.below hb4 A3.out.lt)
        have T4 := hide (T3.out.below hb4 T3.out.lt)
        have O4 := hide (own_below O3.out hb4)
        have B4 := hide (B3.out.trans (hb4.mono B3.out.size))
        have hz4 := hb4.size
        clear hb4 hp A3 T3 O3 B3 e0 e1 e2 e3
        obtain ⟨e0, e1, e2, e3⟩ := c4_of T4.out
        go_wp2_with fail
        refine (HW1.out _).mono ?_
        rintro e w5 ⟨rfl, hb5⟩
        have A5 := hide (A4.out.below hb5 A4.out.lt)
        have O5 := hide (own_below O4.out hb5)
        have B5 := hide (B4.out.trans (hb5.mono B4.out.size))
        have hz5 := hb5.size
        clear hb5 A4 T4 O4 B4 e0 e1 e2 e3
        go_wp2_with fail
        go_roundw
        case rel =>
          refine ⟨j + 1, acc ++ [⟨uk, un, ud, ux⟩], q ++ p, by omega, by omega, by go_num, by simp [hal], ?_, rfl, ?_, ?_, ?_, A5.out, B5.out, by omega⟩
          · intro t ht
            rcases List.mem_append.1 ht with h | h
            · exact HF.out t h
            · rw [List.mem_singleton.1 h]; exact HT.out
          · rw [nums_app, HQ.out, HPN.out, List.flatMap_append, List.cons_append, ← HPL.out]; simp
          · rw [sumW_snoc, HWD.out]
          · rw [tcells_snoc, Ty.cells, HN.out]; exact O5.out
        case measure => simp [intOf]; omega

    · obtain ⟨A', c', rfl, hrd', hcc1, hcc2, _⟩ := own_rd HO.out
      obtain ⟨gA, oA, hgA, hltA, c0, c1, c2, c3⟩ := (rd_all HA.out).cells4 hr7
      cases hgA
      have Hu := hide (fine_plain hr7)
      generalize allTys.getD rm noTy = u at *
      obtain ⟨uk, un, ud, ux⟩ := u
      simp only [Nat.zero_add] at c0 c1 c2 c3
      obtain ⟨uq, huq⟩ : ∃ uq, strOfNums un = uq := ⟨_, rfl⟩
      rw [huq] at c1
      have HN := hide huq
      clear huq
      have hmi : (rm : Int) < 7 := by omega
      have hP1 := HPr.out _ Hu.out
      have hpl := Hu.out.2.2.2.2.2
      have hE := eqtype_same ⟨uk, un, ud, ux⟩
      rw [Ty.val_mk, HN.out] at hP1 hE
      have HP1 := hide hP1
      have HE := hide hE
      clear hP1 hE
      have HE1 := hide (fun u => eqtype_same u)
      have HS1 : Hid (∀ (p : ByteArray) (W : World), nums p = putT ⟨uk, un, ud, ux⟩ → p.size ≤ 260 → Maxed W → Calls Tryd.prog 15 #[.string (q ++ ⟨#[41]⟩ ++ p)] W (SigTold (some (acc, ⟨uk, un, ud, ux⟩)) W)) := hide fun p W hp hpz hW => by
        have := method4_any (q ++ ⟨#[41]⟩ ++ p) W (by rw [ByteArray.size_append, ByteArray.size_append]; show q.size + 1 + p.size ≤ _; omega) hW
        have he : nums (q ++ ⟨#[41]⟩ ++ p) = 40 :: (acc.flatMap putT ++ 41 :: putT ⟨uk, un, ud, ux⟩) := by
          rw [nums_app, nums_app, HQ.out, hp]; simp [nums]
        rwa [he, sig_put acc _ (fun t ht => (HF.out t ht).1) Hu.out.1] at this
      have HA1 : Hid (∀ W, Maxed W → Calls Tryd.prog 17 #[.string (q ++ ⟨#[41, 86]⟩)] W fun e w' => e = .returned (.int .i64 (sumW acc)) ∧ Below W.heap.size W w') := hide fun W hW => by
        have := dargs_any (q ++ ⟨#[41, 86]⟩) W (by rw [ByteArray.size_append]; show q.size + 2 ≤ _; omega) hW
        have he : nums (q ++ ⟨#[41, 86]⟩) = 40 :: (acc.flatMap putT ++ 41 :: [86]) := by
          rw [nums_app, HQ.out]; simp [nums]
        rwa [he, argsW, sig_putV acc (fun t ht => (HF.out t ht).1)] at this
      have hbw := HB.out.size
      have es : (sumW acc == sumW acc) = true := beq_self_eq_true _
      have R0 := hide hrd'
      unfold maxLen at hcc2
      clear hrd' HPr HWo
      have hcase : ¬ ((j : Int) < len0) ∨ ((j : Int) < len0 ∧ ¬ (j : Int) < 20) := by omega
      rcases hcase with hji | ⟨hji, hjt⟩
      all_goals
        go_wp2_with fail
        refine (HP1.out _).mono ?_
        rintro e w4 ⟨p, rfl, hp, hb4⟩
        have hpz : p.size ≤ 260 := by rw [← nums_len, hp]; exact hpl
        have HS2 := hide (fun W => HS1.out p W hp hpz)
        have T4 := hide ((At.new wr 25 [.int .u8 uk, .string uq, .int .i64 ud, .int .u8 ux]).below hb4 (by simp))
        have B4 := hide ((HB.out.alloc hbw _).trans (hb4.mono (by simp; omega)))
        have R4 : Hid (RdT w4 w4.heap.size A' acc.length acc) := hide (by
          have := ((R0.out.below ((Below.refl _ wr).alloc (Nat.le_refl _) (.cells #[.int .u8 uk, .string uq, .int .i64 ud, .int .u8 ux] 25))).below (hb4.mono (by simp))).mono (B' := w4.heap.size) (by have := hb4.size; simp at this; omega)
          rwa [hal])
        have hz4 : wr.heap.size < w4.heap.size := by have := hb4.size; simp at this; omega
        clear hb4 hp R0
        have hsz1 : (q ++ ⟨#[41]⟩ : ByteArray).size = q.size + 1 := by rw [ByteArray.size_append]; rfl
        go_wp2_with fail
        refine (HS2.out _ (HW.out.below B4.out)).mono ?_
        rintro e w5 ⟨hb5, ⟨h, _⟩ | ⟨ts, t, A, c, h, rfl, hrd, hc1, hc2⟩⟩
        · cases h
        · cases h
          rw [Ty.val_mk, HN.out, hal]
          have T5 := hide (T4.out.below hb5 T4.out.lt)
          have B5 := hide (B4.out.trans (hb5.mono B4.out.size))
          have R5 := hide ((R4.out.below hb5).mono hb5.size)
          have Q5 := hide hrd
          have hz5 := hb5.size
          unfold maxLen at hc2
          clear hb5 hrd T4 B4 R4
          obtain ⟨e0, e1, e2, e3⟩ := c4_of T5.out
          have hz45 : wr.heap.size < w5.heap.size := by omega
          have ej : ((j : Int) != (j : Int)) = false := by simp
          go_wp2_with fail
          refine (HE.out _).mono ?_
          rintro e w6 ⟨rfl, hb6⟩
          have B6 := hide ((B5.out.alloc B5.out.size _).trans (hb6.mono (by have := B5.out.size; simp; omega)))
          have C6 := hide (((Below.refl w5.heap.size w5).alloc (Nat.le_refl _) _).trans (hb6.mono (by simp)))
          clear hb6
          go_wp2_with fail
          go_loopw [18] (fun iv wx => ∃ i : Nat, i ≤ acc.length ∧ iv = .int .i64 i ∧ Below w.heap.size w wx ∧ Below w5.heap.size w5 wx) (fun iv _ => acc.length - (intOf iv).toNat)
          case atStart => exact ⟨0, Nat.zero_le _, rfl, B6.out, C6.out⟩
          case round =>
            obtain ⟨i, hi, rfl, hb, hc⟩ := hrel
            have HB5 := hide hb
            have HC5 := hide hc
            by_cases hlt : i < acc.length
            · obtain ⟨g, o, rfl, hg, k0, k1, k2, k3⟩ := (Q5.out.below hc).cells4 hlt
              obtain ⟨g2, o2, rfl, hg2, l0, l1, l2, l3⟩ := (R5.out.below hc).cells4 hlt
              generalize acc.getD i noTy = v at *
              obtain ⟨vk, vn, vd, vx⟩ := v
              have hE1 := HE1.out ⟨vk, vn, vd, vx⟩
              rw [Ty.val_mk] at hE1
              simp only at k0 k1 k2 k3 l0 l1 l2 l3
              generalize strOfNums vn = vq at *
              have hsz := hc.size
              have hH := held2_drew (⟨k0, k1, k2, k3, l0, l1, l2, l3, hb, hc, by omega, by omega⟩ : Held2 w w5 g (o + i * 4) g2 (o2 + i * 4) (.int .u8 vk) (.string vq) (.int .i64 vd) (.int .u8 vx) wr)
              have HE2 : Hid (∀ W, Held2 w w5 g (o + i * 4) g2 (o2 + i * 4) (.int .u8 vk) (.string vq) (.int .i64 vd) (.int .u8 vx) W → Calls Tryd.prog 11 #[.agg #[.int .u8 vk, .string vq, .int .i64 vd, .int .u8 vx], .agg #[.int .u8 vk, .string vq, .int .i64 vd, .int .u8 vx]] W fun e w' => e = .returned (.bool true) ∧ Held2 w w5 g (o + i * 4) g2 (o2 + i * 4) (.int .u8 vk) (.string vq) (.int .i64 vd) (.int .u8 vx) w') := hide fun W h =>
                (hE1 W).mono fun e w' ⟨he, hb⟩ => ⟨he, held2_below h hb⟩
              have hi0 : (0 : Int) ≤ (i : Int) := by omega
              have hi1 : (i : Int) < (j : Int) := by omega
              clear hE1 k0 k1 k2 k3 l0 l1 l2 l3 hb hc hsz HE1 HE HA1 HP1 HS1 HS2
              go_wp2_with fail
              refine wp_region_text (fun W => Held2 w w5 g (o + i * 4) g2 (o2 + i * 4) (.int .u8 vk) (.string vq) (.int .i64 vd) (.int .u8 vx) W) (by kernel_rfl) (by kernel_rfl) (by kernel_rfl) hH ?_
              repeat (first
                | (refine text_skip (by rfl) ?_
                   simp only [Act.put, List.setIfInBounds_toArray, List.set_cons_zero, List.set_cons_succ])
                | (refine text_value (v := ?_) (by rfl) ?_ ?_
                   rotate_left
                   · (intro w hSw; (try dsimp only at hSw); go_simp; try with_reducible rfl)
                   simp only [Act.put, List.setIfInBounds_toArray, List.set_cons_zero, List.set_cons_succ])
                | (refine text_call (v := ?_) (f := ?_) (args := ?_) (by rfl) ?_ ?_ ?_
                   rotate_left 3
                   · (intro w hSw; (try dsimp only at hSw); go_simp; refine And.intro ?_ ?_ <;> with_reducible rfl)
                   · (intro w hSw; first | exact HE2.out _ hSw | fail)
                   simp only [Act.put, List.setIfInBounds_toArray, List.set_cons_zero, List.set_cons_succ])
                | fail)
              refine text_end ?_
              intro W hSw
              obtain ⟨_, _, _, _, _, _, _, _, hB, hC, _, _⟩ := hSw
              clear hH
              go_wp2_with fail
              go_roundw
              case rel => exact ⟨i + 1, by omega, by go_num, hB, hC⟩
              case measure => simp [intOf]; omega
            · have hij : ¬ (i : Int) < (j : Int) := by omega
              go_wp2_with fail
              refine (HA1.out _ (HW.out.below HB5.out)).mono ?_
              rintro e w7 ⟨rfl, hb7⟩
              have B7 := hide (HB5.out.trans (hb7.mono HB5.out.size))
              clear hb7
              go_wp2_with fail
              go_ret
              exact ⟨rfl, B7.out⟩
end Go.Proofs.YtjlcocalpjeghaaDoor
