/- The beginning of the statements of stage 8. Nothing is claimed here. -/
import Derived.Test.YtlgknednfgpgfaaMapsBeg
namespace Go.Proofs.Ytlgknednfgpgfaa
open Go.RowKit

theorem rd_new (w : World) (xs : List Int) : Rd (w.alloc (.cells (bys xs).toArray 5)) (w.heap.size + 1) (some ⟨w.heap.size, 0, none⟩) xs.length (bys xs) := by
  have := Rd.made w 5 (bys xs)
  rwa [bys_len] at this
def mBytes : List Int := [0, 2, 5, 252, 0, 3, 7, 0, 2]
def mTwo : List Mp := [⟨5, 5, [], []⟩, ⟨252, 3, [⟨7, 2⟩], []⟩]
theorem mbytes_read : mapsI mBytes mPool = some mTwo := by rfl
theorem mframes_read : framesF mPool 3 1 mTwo (-1) (cutF []) = some [⟨5, [], []⟩, ⟨9, [⟨7, [97], 0⟩], []⟩] := by rfl
theorem mTwo_good : ∀ m ∈ mTwo, GoodM mPool m := (mapsI_good (xs := mBytes) (ps := mPool) (fun x hx => by
  simp only [mBytes, List.mem_cons, List.not_mem_nil, or_false] at hx
  rcases hx with rfl | rfl | rfl | rfl | rfl | rfl | rfl | rfl | rfl <;> decide) mbytes_read).2

set_option maxHeartbeats 4000000 in
set_option maxRecDepth 100000 in
theorem mbegun_any (w : World) : Calls Try.prog 5 #[] w fun e w' => e = .returned (.bool true) ∧ Below w.heap.size w w' := by
  have HP := hide mpool_any
  have hr := rd_new w mBytes
  have hba := (Below.refl w.heap.size w).alloc (Nat.le_refl _) (.cells (bys mBytes).toArray 5)
  have HR := hide hr
  have HB := hide hba
  have hbx : IsBytes mBytes := fun x hx => by
    simp only [mBytes, List.mem_cons, List.not_mem_nil, or_false] at hx
    rcases hx with rfl | rfl | rfl | rfl | rfl | rfl | rfl | rfl | rfl <;> decide
  clear hr hba
  go_enter Try.func5, Try.ntmps5
  go_wp2_with fail
  change Calls _ _ _ (w.alloc (.cells (bys mBytes).toArray 5)) _
  have hz0 : (w.alloc (.cells (bys mBytes).toArray 5)).heap.size = w.heap.size + 1 := by simp
  generalize w.alloc (.cells (bys mBytes).toArray 5) = wa at *
  refine (HP.out wa).mono ?_
  rintro e w1 ⟨A1, rfl, hp1, hb1⟩
  have hzz := hb1.size
  have HM := hide (smRead_any (some ⟨w.heap.size, 0, none⟩) 9 9 mBytes A1 5 5 mPool w1 wa.heap.size (by rw [hz0]; exact HR.out.below (by rw [← hz0]; exact hb1)) hzz (by decide) hbx hp1)
  rw [mbytes_read] at HM
  have HB1 := hide (HB.out.trans (hb1.mono (by omega)))
  clear hb1 hp1 hz0
  go_wp2_with fail
  refine HM.out.mono ?_
  rintro e w2 ⟨⟨V, L, rfl, hL, hown, hrows⟩, hb2⟩
  obtain ⟨A2, c2, rfl, hmap⟩ := maps_at hown hrows
  have HB2 := hide (HB1.out.trans (hb2.mono HB1.out.size))
  have hl2 : L.length = 2 := by have := congrArg List.length hL; simpa [mTwo] using this
  rw [hl2] at hmap ⊢
  have HMap := hide hmap
  have HL := hide hL
  clear hown hrows hb2 HM hmap hL
  go_wp2_with fail
  refine (HP.out w2).mono ?_
  rintro e w3 ⟨A3, rfl, hp3, hb3⟩
  have hg3 : ∀ x ∈ L, GoodM mPool x.1 := fun x hx => mTwo_good x.1 (by rw [← HL.out]; exact List.mem_map_of_mem hx)
  have HF := hide (smFrames_any 0 none 0 0 (.slice none 0 0) A2 2 c2 A3 5 5 3 1 [] L mPool w3 (fun v hv => by cases hv) (RdF.nil _ _ _) (by decide) ((HMap.out.below hb3).mono' hb3.size) (by decide) hg3 hp3 (by decide) none 0 0 rfl)
  rw [HL.out, mframes_read] at HF
  have HB3 := hide (HB2.out.trans (hb3.mono HB2.out.size))
  have HMap3 := hide ((HMap.out.below hb3).mono' hb3.size)
  clear hp3 hb3 hg3 HMap
  go_wp2_with fail
  refine HF.out.mono ?_
  rintro e w4 ⟨⟨V4, X, rfl, hX, hown, hrows⟩, hb4⟩
  have hXl : X.length = 2 := by have := congrArg List.length hX; simpa using this
  obtain ⟨x1, x2, rfl⟩ : ∃ x y, X = [x, y] := by
    match X, hXl with
    | [x, y], _ => exact ⟨x, y, rfl⟩
  simp only [List.map_cons, List.map_nil, List.cons.injEq, and_true] at hX
  obtain ⟨hx1, hx2⟩ := hX
  obtain ⟨g4, c4, hV4, hg4, hc4⟩ := orow_cell hown (by simp)
  rw [hXl] at hV4
  subst hV4
  have q3 : w4.cell? ⟨g4, 3, none⟩ = some (.int .i64 9) := by rw [hc4 3 (.int .i64 x2.1.at_) rfl, hx2]
  have hr2 := (hrows x2 (by simp)).1
  rw [hx2] at hr2
  obtain ⟨g5, c5, he5, hg5, hc5⟩ := orow_cell hr2 (by decide)
  have q4 : w4.cell? ⟨g4, 4, none⟩ = some (.slice (some ⟨g5, 0, none⟩) 3 c5) := by rw [hc4 4 x2.2.1 rfl, he5]
  have q5 : w4.cell? ⟨g5, 1, none⟩ = some (.string (strOfNums [97])) := hc5 1 _ rfl
  rw [show strOfNums [97] = ⟨#[97]⟩ from rfl] at q5
  have hm4 := HMap3.out.below hb4
  obtain ⟨g6, he6, _, p0, p1, p2, p3⟩ := hm4.at4 (j := 0) (by decide) (by omega)
  subst he6
  obtain ⟨g7, he7, _, r0, r1, r2, r3⟩ := hm4.at4 (j := 1) (by decide) (by omega)
  simp only [Option.some.injEq, Addr.mk.injEq, and_true] at he7
  subst he7
  have hl0 : L[0].1.delta = 5 := by
    have := congrArg (fun l => (l.getD 0 noM).delta) HL.out
    simpa [List.getD, hl2, mTwo] using this
  have hl1 : L[1].1.delta = 3 := by
    have := congrArg (fun l => (l.getD 1 noM).delta) HL.out
    simpa [List.getD, hl2, mTwo] using this
  rw [hl0] at p1
  rw [hl1] at r1
  simp only [Nat.zero_mul, Nat.zero_add, Nat.one_mul, Nat.reduceAdd] at p1 r1
  have HB4 := hide (HB3.out.trans (hb4.mono HB3.out.size))
  clear hc4 hc5 hown hrows hm4 hb4 hr2 HF p0 p2 p3 r0 r2 r3 he5
  go_wp2_with fail
  go_ret
  exact ⟨rfl, HB4.out⟩
end Go.Proofs.Ytlgknednfgpgfaa
