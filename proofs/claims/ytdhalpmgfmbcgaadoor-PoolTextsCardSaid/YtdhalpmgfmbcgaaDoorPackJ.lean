/- Texts of one stage, merged. Nothing is claimed here. -/
import Derived.Test.YtdhalpmgfmbcgaaDoorPackH
namespace Go.Proofs.YtdhalpmgfmbcgaaDoor
open Go.RowKit
def CameB (w : World) (a : Option Addr) (len cap : Nat) (B : Nat → Bool) : Prop :=
  (a = none ∧ len = 0 ∧ cap = 0) ∨ ∃ x, a = some x ∧ len ≤ cap ∧ cap ≤ maxLen ∧ ∀ i, i < cap → w.cell? (x.add i) = some (.bool (B i))
theorem camesB_cell {w : World} {a : Option Addr} {len cap : Nat} {B : Nat → Bool} (h : CameB w a len cap B) {j : Nat} (hj : j < len) : ∃ g o, a = some ⟨g, o, none⟩ ∧ g < w.heap.size ∧ w.cell? ⟨g, o + j, none⟩ = some (.bool (B j)) := by
  rcases h with ⟨_, rfl, _⟩ | ⟨x, rfl, hl, _, hc⟩
  · omega
  · obtain ⟨g, o, spot⟩ := x
    have h0 := hc 0 (by omega)
    have hs : spot = none := by simpa [Addr.add] using World.cell?_spot h0
    subst hs
    refine ⟨g, o, rfl, World.block_lt_of_cell? w _ (by simpa [add_none] using h0), ?_⟩
    have := hc j (by omega)
    rwa [add_none] at this
theorem cells_app (k : IntKind) (a b : List Int) : cells k (a ++ b) = cells k a ++ cells k b := List.map_append
/-- A literal of bytes as a row of the call's own. -/
theorem own_lit (w : World) (xs : List Value) (hl : xs.length ≤ 1000) : (w.alloc (.cells xs.toArray 5)).ownsRow w.heap.size 5 1 (.slice (some ⟨w.heap.size, 0, none⟩) xs.length xs.length) xs.length xs :=
  ⟨by omega, .inr ⟨w.heap.size, xs.length, xs.toArray, rfl, Nat.le_refl _, heap_alloc_new w _, Nat.le_refl _, by unfold maxLen; omega, by simp, by simp⟩⟩

set_option maxHeartbeats 4000000 in
set_option maxRecDepth 100000 in
theorem PoolTexts_walk (a0 : Int) (a1 : Option Addr) (len1 cap1 : Nat) (B : Nat → Bool) (w : World) (w0 : (Lit.int .i64 a0).wf = true) (w1 : CameB w a1 len1 cap1 B) (hmx : Maxed w) :
    Calls Tryd.prog 4 #[.int .i64 a0, .slice a1 len1 cap1] w fun e w' => e = .returned (.bool true) ∧ Below w.heap.size w w' := by
  have HR := hide reads_pool
  have HC := hide says_class
  have HT := hide says_text
  have W1 := hide w1
  have MX := hide hmx
  clear w1 hmx
  by_cases hn : a0 < 0 ∨ 60 < a0
  · rcases (by omega : a0 < 0 ∨ (¬ a0 < 0 ∧ 60 < a0)) with h1 | ⟨h1, h2⟩
    all_goals
      clear hn
      go_enter Tryd.func4, Tryd.ntmps4
      go_wp2_with fail
      refine (pbegun_is HR.out HC.out w MX.out).mono ?_
      rintro e w2 ⟨rfl, hb2⟩
      have HB := hide hb2
      clear hb2
      go_wp2_with fail
      go_ret
      exact ⟨rfl, HB.out⟩
  · obtain ⟨n, rfl⟩ : ∃ n : Nat, a0 = n := ⟨a0.toNat, by omega⟩
    have hn1 : ¬ (n : Int) < 0 := by omega
    have hn2 : ¬ (60 : Int) < n := by omega
    have hn3 : n ≤ 60 := by omega
    clear hn
    go_enter Tryd.func4, Tryd.ntmps4
    go_wp2_with fail
    refine (pbegun_is HR.out HC.out w MX.out).mono ?_
    rintro e w2 ⟨rfl, hb2⟩
    have HB := hide hb2
    clear hb2
    go_wp2_with fail
    obtain ⟨i0, hi0, hz0, hz1, hz2⟩ := info_parts u8info
    obtain ⟨g, hg⟩ : ∃ g : Nat → Bool, g = fun i => decide (i < len1) && B i := ⟨_, rfl⟩
    have hbase : w.heap.size ≤ w2.heap.size := HB.out.size
    go_loopw [6, 7, 8] (fun bv cv iv wr => ∃ k : Nat, k ≤ n ∧ iv = .int .i64 k ∧ cv = .int .i64 (((bodyC 0 ((List.range k).map g)).length + 1 : Nat) : Int) ∧
      wr.ownsRow w2.heap.size 5 1 bv (bodyB 0 ((List.range k).map g)).length (cells .u8 (bodyB 0 ((List.range k).map g))) ∧ Below w2.heap.size w2 wr) (fun _ _ iv _ => n - (intOf iv).toNat)
    case atStart => exact ⟨0, Nat.zero_le _, rfl, rfl, World.ownsRow_nil _ _ _ _, Below.refl _ _⟩
    case round =>
      obtain ⟨k, hk, rfl, rfl, hown, hb⟩ := hrel
      by_cases hlt : k < n
      · have hbl := bodyB_len ((List.range k).map g) 0
        have hcl := bodyC_len ((List.range k).map g) 0
        simp only [List.length_map, List.length_range] at hbl hcl
        have SB := hide (bodyB_succ g k)
        have SC := hide (bodyC_succ g k)
        generalize bodyB 0 ((List.range k).map g) = xs at *
        generalize bodyC 0 ((List.range k).map g) = cs at *
        have Hown := hide hown
        have Hb := hide hb
        have hbs := hb.size
        clear hown hb
        have hd1 : decide ((k : Int) < (n : Int)) = true := by simp; omega
        by_cases hl : k < len1
        · obtain ⟨gg, o, rfl, hgg, hc0⟩ := camesB_cell W1.out hl
          have hcell : wr.cell? ⟨gg, o + k, none⟩ = some (.bool (B k)) := by
            rw [Hb.out.cell (p := ⟨gg, o + k, none⟩) (by show gg < _; omega), HB.out.cell (p := ⟨gg, o + k, none⟩) hgg]; exact hc0
          clear hc0
          have hgk : g k = B k := by rw [hg]; simp [hl]
          have hl' : (k : Int) < (len1 : Int) := by omega
          cases qb : B k
          · rw [qb] at hgk hcell
            have hr0 : (k : Int).tmod 26 = ((k % 26 : Nat) : Int) := by rw [Int.tmod_eq_emod_of_nonneg (by omega)]; omega
            have hr1 : (97 : Int) + ((k % 26 : Nat) : Int) ≤ 122 := by omega
            go_wp2_with (at_builtin; go_loud (refine wpList_append_lits _ rfl (.tmp 47) (.tmp 52) 22 rfl w2.heap.size 5 i0 _ 1 Tryd.underlying22 hi0 hz0 hz1 hz2 rfl _ _ _ rfl Hown.out _ 4 rfl rfl rfl (by unfold maxLen; omega) (by omega) hbs ?_); intro v3 w3 hown3 hg3)
            have Hb3 := hide (below_own Hb.out Hown.out hg3 Hb.out.size)
            clear hg3
            go_roundw
            case rel => exact ⟨k + 1, by omega, by go_num, by rw [SC.out, hgk]; simp [itemC]; try omega, by rw [SB.out, hgk, cells_app, List.length_append]; exact hown3, Hb3.out⟩
            case measure => simp [intOf]; omega
          · rw [qb] at hgk hcell
            go_wp2_with (at_builtin; go_loud (refine wpList_append_lits _ rfl (.tmp 40) (.tmp 43) 22 rfl w2.heap.size 5 i0 _ 1 Tryd.underlying22 hi0 hz0 hz1 hz2 rfl _ _ _ rfl Hown.out _ 9 rfl rfl rfl (by unfold maxLen; omega) (by omega) hbs ?_); intro v3 w3 hown3 hg3)
            have Hb3 := hide (below_own Hb.out Hown.out hg3 Hb.out.size)
            clear hg3
            go_roundw
            case rel => exact ⟨k + 1, by omega, by go_num, by rw [SC.out, hgk]; simp [itemC]; try omega, by rw [SB.out, hgk, cells_app, List.length_append]; exact hown3, Hb3.out⟩
            case measure => simp [intOf]; omega
        · have hgk : g k = false := by rw [hg]; simp [hl]
          have hl' : ¬ (k : Int) < (len1 : Int) := by omega
          have hr0 : (k : Int).tmod 26 = ((k % 26 : Nat) : Int) := by rw [Int.tmod_eq_emod_of_nonneg (by omega)]; omega
          have hr1 : (97 : Int) + ((k % 26 : Nat) : Int) ≤ 122 := by omega
          go_wp2_with (at_builtin; go_loud (refine wpList_append_lits _ rfl (.tmp 47) (.tmp 52) 22 rfl w2.heap.size 5 i0 _ 1 Tryd.underlying22 hi0 hz0 hz1 hz2 rfl _ _ _ rfl Hown.out _ 4 rfl rfl rfl (by unfold maxLen; omega) (by omega) hbs ?_); intro v3 w3 hown3 hg3)
          have Hb3 := hide (below_own Hb.out Hown.out hg3 Hb.out.size)
          clear hg3
          go_roundw
          case rel => exact ⟨k + 1, by omega, by go_num, by rw [SC.out, hgk]; simp [itemC]; try omega, by rw [SB.out, hgk, cells_app, List.length_append]; exact hown3, Hb3.out⟩
          case measure => simp [intOf]; omega
      · obtain rfl : k = n := by omega
        have hbl := bodyB_len ((List.range k).map g) 0
        have hcl := bodyC_len ((List.range k).map g) 0
        simp only [List.length_map, List.length_range] at hbl hcl
        have HP := hide (texts_pool ((List.range k).map g) (by simp; omega) _ rfl)
        have Hown := hide hown
        have Hb := hide hb
        have hbs := hb.size
        clear hown hb
        have hd1 : decide ((k : Int) < (k : Int)) = false := by simp
        obtain ⟨A, c, rfl, hsrc, hlc⟩ := own_src Hown.out
        have Hsrc := hide hsrc
        have hBB := bodyB_bytes ((List.range k).map g) 0 (by simp; omega)
        have HX := hide hBB
        generalize hxs : bodyB 0 ((List.range k).map g) = xs at *
        generalize hcs : bodyC 0 ((List.range k).map g) = cs at *
        have hm1 : ((cs.length : Int) + 1) / 256 = (((cs.length + 1) / 256 : Nat) : Int) := by omega
        have hm2 : (cs.length : Int) + 1 = (((cs.length + 1) % 256 : Nat) : Int) := by omega
        have HM := hide (And.intro hm1 hm2)
        have HOwn := hide (own_lit wr [.int .u8 (((cs.length : Int) + 1) / 256), .int .u8 ((cs.length : Int) + 1)] (by simp))
        have HRd := hide (hsrc.rd.below ((Below.refl wr.heap.size wr).alloc (Nat.le_refl _) (.cells #[.int .u8 (((cs.length : Int) + 1) / 256), .int .u8 ((cs.length : Int) + 1)] 5)))
        clear hsrc hBB hm1 hm2
        go_wp2_with (at_builtin; refine wpList_append_rd _ rfl (.tmp 62) (.tmp 63) 22 rfl wr.heap.size 5 i0 _ 1 Tryd.underlying22 hi0 hz0 hz1 hz2 rfl (.slice (some ⟨wr.heap.size, 0, none⟩) 2 2) 2 [.int .u8 (((cs.length : Int) + 1) / 256), .int .u8 ((cs.length : Int) + 1)] rfl HOwn.out _ A xs.length c _ rfl HRd.out (cells_one .u8 xs) (by unfold maxLen; omega) (by omega) (by simp) ?_)
        intro v3 w3 hown3 hg3
        obtain ⟨A3, c3, rfl, hsrc3, hlc3⟩ := own_src hown3
        have hl3 : (.int .u8 (((cs.length : Int) + 1) / 256) :: .int .u8 ((cs.length : Int) + 1) :: cells .u8 xs : List Value) = bys ((((cs.length + 1) / 256 : Nat) : Int) :: (((cs.length + 1) % 256 : Nat) : Int) :: xs) := by
          rw [HM.out.1, HM.out.2]; rfl
        have hsrc4 : Src w3 wr.heap.size 5 A3 (2 + xs.length) (bys ((((cs.length + 1) / 256 : Nat) : Int) :: (((cs.length + 1) % 256 : Nat) : Int) :: xs)) := by rw [← hl3]; exact hsrc3
        have hb3 : Below w2.heap.size w2 w3 := (Hb.out.alloc hbs _).grown hg3 (by have := Hb.out.size; simp; omega) (by
          intro q hq
          simp [Value.ownBlock] at hq
          omega)
        have Hb3 := hide (HB.out.trans (hb3.mono HB.out.size))
        have HN := hide (new_any A3 (2 + xs.length) c3 _ w3 _ hsrc4.rd (Nat.le_refl _) (by omega) (by
          intro x hx
          rcases List.mem_cons.1 hx with rfl | hx
          · omega
          · rcases List.mem_cons.1 hx with rfl | hx
            · omega
            · exact HX.out x hx))
        clear hown3 hg3 hsrc3 hsrc4 hl3 hb3 HOwn HRd
        go_wp2_with fail
        refine HN.out.mono ?_
        rintro e w4 ⟨gc, gb, rfl, hc4, hg4, hgb4, hb4⟩
        have Hb4 := hide (Hb3.out.trans (hb4.mono Hb3.out.size))
        have hz3 := Hb3.out.size
        have HRR := hide (HR.out gc gb _ 0 w4 (MX.out.below Hb4.out) hc4)
        clear hc4 hb4 HN
        go_wp2_with fail
        refine HRR.out.mono ?_
        rintro e w5 ⟨hg5, h5⟩
        rw [List.drop_zero, HP.out] at h5
        rcases h5 with ⟨h5, _⟩ | ⟨ps, m, A5, c5, h5, rfl, hrd5, _, _⟩
        · cases h5
        · cases h5
          have Hb5 := hide (Hb4.out.grown hg5 Hb4.out.size (by intro q hq; cases hq; omega))
          have HR5 := hide hrd5
          have hl5 : (noC :: cs).length = cs.length + 1 := rfl
          have hb6 : (((cs.length + 1 : Nat) : Int) != (cs.length : Int) + 1) = false := by simp
          clear hg5 hrd5 HRR
          have HG : Hid (g = fun i => decide (i < len1) && B i) := hide hg
          have HXY := hide (And.intro hxs hcs)
          have hgc : w.heap.size ≤ w5.heap.size := Hb5.out.size
          clear hxs hcs hg Hb3 Hb4 HX HP Hown Hsrc Hb HM hbl hlc hlc3
          go_wp2_with fail
          go_loopw [11, 12] (fun av iv wr => ∃ j : Nat, j ≤ k ∧ iv = .int .i64 j ∧ av = .int .i64 (((bodyC 0 ((List.range j).map g)).length + 1 : Nat) : Int) ∧ Below w5.heap.size w5 wr) (fun _ iv _ => k - (intOf iv).toNat)
          case atStart => exact ⟨0, Nat.zero_le _, rfl, rfl, Below.refl _ _⟩
          case round =>
            obtain ⟨j, hj, rfl, rfl, hbj⟩ := hrel
            by_cases hlt : j < k
            · have hd1 : decide ((j : Int) < (k : Int)) = true := by simp; omega
              obtain ⟨t, ht⟩ := bodyC_at g k j hlt
              rw [HXY.out.2] at ht
              have SC := hide (bodyC_succ g j)
              generalize bodyC 0 ((List.range j).map g) = p0 at *
              have HT2 := hide ht
              have Hbj := hide hbj
              have hbjs := hbj.size
              have hrj := (HR5.out.below hbj).mono hbj.size
              have hp0 : p0.length ≤ cs.length := by rw [ht]; simp
              clear hbj ht
              have hlong : g j = true → (noC :: cs).getD (p0.length + 1) noC = ⟨5, [], j, 0, 0⟩ ∧ (noC :: cs).getD (p0.length + 1 + 1) noC = noC ∧ p0.length + 1 + 1 < cs.length + 1 := fun h => by
                rw [HT2.out, h]
                simp [itemC, List.getD]
              have htext : g j = false → (noC :: cs).getD (p0.length + 1) noC = ⟨1, [97 + ((j % 26 : Nat) : Int)], 0, 0, 0⟩ ∧ p0.length + 1 < cs.length + 1 := fun h => by
                rw [HT2.out, h]
                simp [itemC, List.getD]
              by_cases hl : j < len1
              · obtain ⟨gg, o, rfl, hgg, hc0⟩ := camesB_cell W1.out hl
                have hcell : wr.cell? ⟨gg, o + j, none⟩ = some (.bool (B j)) := by
                  rw [(Hb5.out.trans (Hbj.out.mono hgc)).cell (p := ⟨gg, o + j, none⟩) hgg]; exact hc0
                clear hc0
                have hgj0 : g j = B j := by rw [HG.out]; simp [hl]
                have hl' : (j : Int) < (len1 : Int) := by omega
                cases qb : B j
                · rw [qb] at hgj0 hcell
                  have hgj := hgj0
                  obtain ⟨e1, e3⟩ := htext hgj
                  have hr0 : (j : Int).tmod 26 = ((j % 26 : Nat) : Int) := by rw [Int.tmod_eq_emod_of_nonneg (by omega)]; omega
                  have hr1 : (97 : Int) + ((j % 26 : Nat) : Int) ≤ 122 := by omega
                  have hta : textAt (noC :: cs) ((p0.length + 1 : Nat) : Int) = some [97 + ((j % 26 : Nat) : Int)] := by
                    unfold textAt
                    rw [atC_in hrj.1 e3, e1]; rfl
                  have HTx := hide (HT.out A5 (cs.length + 1) c5 (noC :: cs) ((p0.length + 1 : Nat) : Int) wr hrj)
                  rw [hta] at HTx
                  have HTy : Hid (Calls Tryd.prog 13 #[.slice A5 (cs.length + 1) c5, .int .i64 ((p0.length : Int) + 1)] wr fun e w' => e = .returned (.tuple #[.string (strOfNums [97 + ((j % 26 : Nat) : Int)]), .bool true]) ∧ Below wr.heap.size wr w') := HTx
                  rw [hgj] at SC
                  have hcv : ∀ W : World, (convert 22 9 (.slice (some ⟨W.heap.size, 0, none⟩) 1 1)).run Tryd.prog (W.alloc (.cells #[.int .u8 (97 + ((j % 26 : Nat) : Int))] 5)) = .ok (.string (strOfNums [97 + ((j % 26 : Nat) : Int)])) (W.alloc (.cells #[.int .u8 (97 + ((j % 26 : Nat) : Int))] 5)) := fun W =>
                    str_of (c := 1) (B := W.heap.size + 1) (xs := [97 + ((j % 26 : Nat) : Int)]) (Rd.made W 5 (cells .u8 [97 + ((j % 26 : Nat) : Int)]))
                  have hmod : ((j % 26 : Nat) : Int) = (j : Int) % 26 := by omega
                  clear hrj e1 e3 hta HTx hlong htext
                  generalize hsq : strOfNums [97 + ((j % 26 : Nat) : Int)] = sq at *
                  rw [hmod] at hcv
                  have hne : (sq.toList != sq.toList) = false := by simp
                  have heq : (sq.toList == sq.toList) = true := beq_self_eq_true _
                  go_wp2_with fail
                  refine HTy.out.mono ?_
                  rintro e w6 ⟨rfl, hb6⟩
                  have hcv6 := hcv w6
                  have Hb6 := hide (Hbj.out.trans (hb6.mono Hbj.out.size))
                  have hs6 := Hb6.out.size
                  clear hb6
                  go_wp2_with fail
                  go_roundw
                  case rel => exact ⟨j + 1, by omega, by go_num, by rw [SC.out]; simp [itemC], Hb6.out.alloc hs6 _⟩
                  case measure => simp [intOf]; omega
                · rw [qb] at hgj0 hcell
                  have hgj := hgj0
                  obtain ⟨e1, e2, e3⟩ := hlong hgj
                  obtain ⟨gp, op, rfl, _, c0, _, c2, _⟩ := hrj.cells5 (show p0.length + 1 < cs.length + 1 by omega)
                  obtain ⟨gp', op', hgp, _, d0, _⟩ := hrj.cells5 e3
                  cases hgp
                  rw [e1] at c0 c2
                  rw [e2] at d0
                  rw [hgj] at SC
                  simp only [noC] at c0 c2 d0
                  have z1 : (p0.length : Int) + 1 < (cs.length : Int) + 1 := by omega
                  have z2 : (p0.length : Int) + 1 + 1 < (cs.length : Int) + 1 := by omega
                  clear hrj e1 e2 hlong htext
                  go_wp2_with fail
                  go_roundw
                  case rel => exact ⟨j + 1, by omega, by go_num, by rw [SC.out]; simp [itemC]; omega, Hbj.out⟩
                  case measure => simp [intOf]; omega
              · have hgj : g j = false := by rw [HG.out]; simp [hl]
                have hl' : ¬ (j : Int) < (len1 : Int) := by omega
                obtain ⟨e1, e3⟩ := htext hgj
                have hr0 : (j : Int).tmod 26 = ((j % 26 : Nat) : Int) := by rw [Int.tmod_eq_emod_of_nonneg (by omega)]; omega
                have hr1 : (97 : Int) + ((j % 26 : Nat) : Int) ≤ 122 := by omega
                have hta : textAt (noC :: cs) ((p0.length + 1 : Nat) : Int) = some [97 + ((j % 26 : Nat) : Int)] := by
                  unfold textAt
                  rw [atC_in hrj.1 e3, e1]; rfl
                have HTx := hide (HT.out A5 (cs.length + 1) c5 (noC :: cs) ((p0.length + 1 : Nat) : Int) wr hrj)
                rw [hta] at HTx
                have HTy : Hid (Calls Tryd.prog 13 #[.slice A5 (cs.length + 1) c5, .int .i64 ((p0.length : Int) + 1)] wr fun e w' => e = .returned (.tuple #[.string (strOfNums [97 + ((j % 26 : Nat) : Int)]), .bool true]) ∧ Below wr.heap.size wr w') := HTx
                rw [hgj] at SC
                have hcv : ∀ W : World, (convert 22 9 (.slice (some ⟨W.heap.size, 0, none⟩) 1 1)).run Tryd.prog (W.alloc (.cells #[.int .u8 (97 + ((j % 26 : Nat) : Int))] 5)) = .ok (.string (strOfNums [97 + ((j % 26 : Nat) : Int)])) (W.alloc (.cells #[.int .u8 (97 + ((j % 26 : Nat) : Int))] 5)) := fun W =>
                  str_of (c := 1) (B := W.heap.size + 1) (xs := [97 + ((j % 26 : Nat) : Int)]) (Rd.made W 5 (cells .u8 [97 + ((j % 26 : Nat) : Int)]))
                have hmod : ((j % 26 : Nat) : Int) = (j : Int) % 26 := by omega
                clear hrj e1 e3 hta HTx hlong htext
                generalize hsq : strOfNums [97 + ((j % 26 : Nat) : Int)] = sq at *
                rw [hmod] at hcv
                have hne : (sq.toList != sq.toList) = false := by simp
                have heq : (sq.toList == sq.toList) = true := beq_self_eq_true _
                go_wp2_with fail
                refine HTy.out.mono ?_
                rintro e w6 ⟨rfl, hb6⟩
                have hcv6 := hcv w6
                have Hb6 := hide (Hbj.out.trans (hb6.mono Hbj.out.size))
                have hs6 := Hb6.out.size
                clear hb6
                go_wp2_with fail
                go_roundw
                case rel => exact ⟨j + 1, by omega, by go_num, by rw [SC.out]; simp [itemC], Hb6.out.alloc hs6 _⟩
                case measure => simp [intOf]; omega
            · obtain rfl : j = k := by omega
              have hd1 : decide ((j : Int) < (j : Int)) = false := by simp
              have Hbj := hide (Hb5.out.trans (hbj.mono hgc))
              clear hbj
              go_wp2_with fail
              go_ret
              exact ⟨rfl, Hbj.out⟩
end Go.Proofs.YtdhalpmgfmbcgaaDoor
