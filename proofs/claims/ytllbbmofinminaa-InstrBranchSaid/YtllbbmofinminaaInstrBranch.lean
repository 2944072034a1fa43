/- The statement InstrBranch, walked. Nothing is claimed here. -/
import Derived.Test.YtllbbmofinminaaInstrBegun
namespace Go.Proofs.Ytllbbmofinminaa
open Go.RowKit

theorem make_bytes (n : Nat) (hn : n ≤ 200) (W : World) : (Instr.makeSlice 22 (.int .i64 (n : Int)) (.int .i64 (n : Int))).run Try.prog W = .ok (.slice (some ⟨W.heap.size, 0, none⟩) n n) (W.alloc (.cells (Array.replicate n (.int .u8 0)) 5)) := by
  obtain ⟨i0, hi0, iz0, iz1, iz2⟩ := info_parts u8info
  have := run_make (P := Try.prog) W 22 5 i0 _ Try.underlying22 hi0 iz0 .i64 .i64 (n : Int) (n : Int) (by omega) (by omega) (by rw [iz2]; omega) (by omega)
  rw [this, iz1]
  rw [show madeCells (Value.int .u8 0).cells ((n : Int).toNat * 1) = Array.replicate n (.int .u8 0) from by rw [made_nums, Int.toNat_natCast, List.map_replicate, List.toArray_replicate]]
  rfl


theorem puts3 (v a b c : Value) (p : Nat) : (((Array.replicate (p + 3) v).setIfInBounds p a).setIfInBounds (p + 1) b).setIfInBounds (p + 2) c = (List.replicate p v ++ [a, b, c]).toArray := by
  apply Array.toList_inj.1
  simp only [Array.toList_setIfInBounds, Array.toList_replicate]
  rw [show List.replicate (p + 3) v = List.replicate p v ++ [v, v, v] from by rw [← List.replicate_append_replicate]; rfl]
  simp
theorem puts5 (v a b c d e : Value) (p : Nat) : (((((Array.replicate (p + 5) v).setIfInBounds p a).setIfInBounds (p + 1) b).setIfInBounds (p + 2) c).setIfInBounds (p + 3) d).setIfInBounds (p + 4) e = (List.replicate p v ++ [a, b, c, d, e]).toArray := by
  apply Array.toList_inj.1
  simp only [Array.toList_setIfInBounds, Array.toList_replicate]
  rw [show List.replicate (p + 5) v = List.replicate p v ++ [v, v, v, v, v] from by rw [← List.replicate_append_replicate]; rfl]
  simp
/-- Noughts, and the branch. -/
def branch3 (p : Nat) (op d : Int) : List Int := List.replicate p 0 ++ [op, d / 256 % 256, d % 256]
def branch5 (p : Nat) (d : Int) : List Int := List.replicate p 0 ++ [200, d / 16777216 % 256, d / 65536 % 256, d / 256 % 256, d % 256]
theorem b1_pre (p k : Nat) (l : List Int) : b1 (List.replicate p 0 ++ l) (p + k) = l.getD k 0 := by
  unfold b1
  rw [List.getD, List.getElem?_append_right (by simp), List.length_replicate, Nat.add_sub_cancel_left]
  rfl
theorem b1_pre0 (p : Nat) (l : List Int) : b1 (List.replicate p 0 ++ l) p = l.getD 0 0 := b1_pre p 0 l
theorem shape_branch {op : Int} (h3 : 153 ≤ op) (h4 : op ≤ 167) : shapeT op = 8 := by
  have : op = 153 ∨ op = 154 ∨ op = 155 ∨ op = 156 ∨ op = 157 ∨ op = 158 ∨ op = 159 ∨ op = 160 ∨ op = 161 ∨ op = 162 ∨ op = 163 ∨ op = 164 ∨ op = 165 ∨ op = 166 ∨ op = 167 := by omega
  rcases this with rfl | rfl | rfl | rfl | rfl | rfl | rfl | rfl | rfl | rfl | rfl | rfl | rfl | rfl | rfl <;> rfl
theorem branch3_len (p : Nat) (op d : Int) : (branch3 p op d).length = p + 3 := by simp [branch3]
theorem branch5_len (p : Nat) (d : Int) : (branch5 p d).length = p + 5 := by simp [branch5]
theorem branch3_byte (p : Nat) (op d : Int) (h3 : 153 ≤ op) (h4 : op ≤ 167) : IsBytes (branch3 p op d) := by
  intro x hx
  simp only [branch3, List.mem_append, List.mem_replicate, List.mem_cons, List.not_mem_nil, or_false] at hx
  rcases hx with ⟨_, rfl⟩ | rfl | rfl | rfl <;> omega
theorem branch5_byte (p : Nat) (d : Int) : IsBytes (branch5 p d) := by
  intro x hx
  simp only [branch5, List.mem_append, List.mem_replicate, List.mem_cons, List.not_mem_nil, or_false] at hx
  rcases hx with ⟨_, rfl⟩ | rfl | rfl | rfl | rfl | rfl <;> omega
theorem branch3_ins (p : Nat) (op d : Int) (h1 : -32768 ≤ d) (h2 : d ≤ 32767) (h3 : 153 ≤ op) (h4 : op ≤ 167) : insI (branch3 p op d) p = some ⟨p, 3, op, false, p + d, 0, [], []⟩ := by
  have e0 : b1 (branch3 p op d) p = op := b1_pre0 p _
  have e1 : b2 (branch3 p op d) (p + 1) = d / 256 % 256 * 256 + d % 256 := by unfold b2; rw [show p + 1 + 1 = p + 2 from rfl]; unfold branch3; rw [b1_pre, b1_pre]; rfl
  unfold insI
  dsimp only
  rw [if_neg (by rw [branch3_len]; simp; omega), Int.toNat_natCast, e0, shape_branch h3 h4]
  show plainI 8 _ _ = _
  unfold plainI
  rw [branch3_len, e0, if_neg (by show ¬ _ < 1 + 2; omega)]
  show some (⟨p, 3, op, false, p + sg 16 (b2 (((branch3 p op d).drop (p + 1)).take 2) 0), 0, [], []⟩ : Ins) = _
  rw [b2_take _ _ _ (by omega), b2_drop, Nat.add_zero, e1]
  congr 2
  have : sg 16 (d / 256 % 256 * 256 + d % 256) = d := by simp only [sg]; simp; split <;> omega
  rw [this]
theorem branch5_ins (p : Nat) (d : Int) (h1 : -32768 ≤ d) (h2 : d ≤ 32767) : insI (branch5 p d) p = some ⟨p, 5, 200, false, p + d, 0, [], []⟩ := by
  have e0 : b1 (branch5 p d) p = 200 := b1_pre0 p _
  have e1 : b4 (branch5 p d) (p + 1) = (d / 16777216 % 256 * 256 + d / 65536 % 256) * 65536 + (d / 256 % 256 * 256 + d % 256) := by
    unfold b4 b2
    rw [show p + 1 + 1 = p + 2 from rfl, show p + 1 + 2 = p + 3 from rfl, show p + 3 + 1 = p + 4 from rfl]
    unfold branch5
    rw [b1_pre, b1_pre, b1_pre, b1_pre]
    rfl
  unfold insI
  dsimp only
  rw [if_neg (by rw [branch5_len]; simp; omega), Int.toNat_natCast, e0, show shapeT 200 = 9 from rfl]
  show plainI 9 _ _ = _
  unfold plainI
  rw [branch5_len, e0, if_neg (by show ¬ _ < 1 + 4; omega)]
  show some (⟨p, 5, 200, false, p + sg 32 (b4 (((branch5 p d).drop (p + 1)).take 4) 0), 0, [], []⟩ : Ins) = _
  rw [b4_take _ _ _ (by omega), b4_drop, Nat.add_zero, e1]
  congr 2
  have : sg 32 ((d / 16777216 % 256 * 256 + d / 65536 % 256) * 65536 + (d / 256 % 256 * 256 + d % 256)) = d := by simp only [sg]; simp; split <;> omega
  rw [this]
theorem branch3_at (w : World) (p : Nat) (op d : Int) (g : Nat) (hg : g = w.heap.size) : At (w.alloc (.cells ((((Array.replicate (p + 3) (.int .u8 0)).setIfInBounds p (.int .u8 op)).setIfInBounds (p + 1) (.int .u8 (d / 256 % 256))).setIfInBounds (p + 2) (.int .u8 (d % 256))) 5)) g 5 (bys (branch3 p op d)) := by
  subst hg
  rw [puts3]
  have := At.new w 5 (bys (branch3 p op d))
  rwa [show bys (branch3 p op d) = List.replicate p (.int .u8 0) ++ [.int .u8 op, .int .u8 (d / 256 % 256), .int .u8 (d % 256)] by simp [bys, branch3]] at this ⊢
theorem branch5_at (w : World) (p : Nat) (d : Int) (g : Nat) (hg : g = w.heap.size) : At (w.alloc (.cells ((((((Array.replicate (p + 5) (.int .u8 0)).setIfInBounds p (.int .u8 200)).setIfInBounds (p + 1) (.int .u8 (d / 16777216 % 256))).setIfInBounds (p + 2) (.int .u8 (d / 65536 % 256))).setIfInBounds (p + 3) (.int .u8 (d / 256 % 256))).setIfInBounds (p + 4) (.int .u8 (d % 256))) 5)) g 5 (bys (branch5 p d)) := by
  subst hg
  rw [puts5]
  have := At.new w 5 (bys (branch5 p d))
  rwa [show bys (branch5 p d) = List.replicate p (.int .u8 0) ++ [.int .u8 200, .int .u8 (d / 16777216 % 256), .int .u8 (d / 65536 % 256), .int .u8 (d / 256 % 256), .int .u8 (d % 256)] by simp [bys, branch5]] at this ⊢
theorem branch_out (a0 a1 a2 : Int) (w : World) (h : a0 < 0 ∨ 100 < a0 ∨ a1 < -32768 ∨ 32767 < a1 ∨ a2 < 153 ∨ 167 < a2) :
    Calls Try.prog 5 #[.int .i64 a0, .int .i64 a1, .int .i64 a2] w fun e w' => e = .returned (.bool true) ∧ Below w.heap.size w w' := by
  have HBG := hide ibegun_any
  by_cases g0 : a0 < 0
  · clear h
    go_enter Try.func5, Try.ntmps5
    go_wp2_with fail
    refine (HBG.out _).mono ?_
    rintro e w2 ⟨rfl, hb2⟩
    have HB2 := hide hb2
    clear hb2
    go_wp2_with fail
    go_ret
    exact ⟨rfl, HB2.out⟩
  · have q0 := Int.not_lt.1 g0
    by_cases g1 : 100 < a0
    · clear h
      go_enter Try.func5, Try.ntmps5
      go_wp2_with fail
      refine (HBG.out _).mono ?_
      rintro e w2 ⟨rfl, hb2⟩
      have HB2 := hide hb2
      clear hb2
      go_wp2_with fail
      go_ret
      exact ⟨rfl, HB2.out⟩
    · have q1 := Int.not_lt.1 g1
      by_cases g2 : a1 < -32768
      · clear h
        go_enter Try.func5, Try.ntmps5
        go_wp2_with fail
        refine (HBG.out _).mono ?_
        rintro e w2 ⟨rfl, hb2⟩
        have HB2 := hide hb2
        clear hb2
        go_wp2_with fail
        go_ret
        exact ⟨rfl, HB2.out⟩
      · have q2 := Int.not_lt.1 g2
        by_cases g3 : 32767 < a1
        · clear h
          go_enter Try.func5, Try.ntmps5
          go_wp2_with fail
          refine (HBG.out _).mono ?_
          rintro e w2 ⟨rfl, hb2⟩
          have HB2 := hide hb2
          clear hb2
          go_wp2_with fail
          go_ret
          exact ⟨rfl, HB2.out⟩
        · have q3 := Int.not_lt.1 g3
          by_cases g4 : a2 < 153
          · clear h
            go_enter Try.func5, Try.ntmps5
            go_wp2_with fail
            refine (HBG.out _).mono ?_
            rintro e w2 ⟨rfl, hb2⟩
            have HB2 := hide hb2
            clear hb2
            go_wp2_with fail
            go_ret
            exact ⟨rfl, HB2.out⟩
          · have q4 := Int.not_lt.1 g4
            have g5 : 167 < a2 := by omega
            clear h
            go_enter Try.func5, Try.ntmps5
            go_wp2_with fail
            refine (HBG.out _).mono ?_
            rintro e w2 ⟨rfl, hb2⟩
            have HB2 := hide hb2
            clear hb2
            go_wp2_with fail
            go_ret
            exact ⟨rfl, HB2.out⟩

set_option maxRecDepth 100000 in
set_option maxHeartbeats 1000000 in
theorem branch_in (p : Nat) (d op : Int) (w : World) (hp : p ≤ 100) (h1 : -32768 ≤ d) (h2 : d ≤ 32767) (h3 : 153 ≤ op) (h4 : op ≤ 167) :
    Calls Try.prog 5 #[.int .i64 p, .int .i64 d, .int .i64 op] w fun e w' => e = .returned (.bool true) ∧ Below w.heap.size w w' := by
  have HBG := hide ibegun_any
  have HA1 : Hid (∀ W : World, Calls Try.prog 8 #[.slice (some ⟨W.heap.size, 0, none⟩) (p + 3) (p + 3), .int .i64 p] (W.alloc (.cells ((((Array.replicate (p + 3) (.int .u8 0)).setIfInBounds p (.int .u8 op)).setIfInBounds (p + 1) (.int .u8 (d / 256 % 256))).setIfInBounds (p + 2) (.int .u8 (d % 256))) 5)) fun e w' => InsR (W.alloc (.cells ((((Array.replicate (p + 3) (.int .u8 0)).setIfInBounds p (.int .u8 op)).setIfInBounds (p + 1) (.int .u8 (d / 256 % 256))).setIfInBounds (p + 2) (.int .u8 (d % 256))) 5)) w' e (some ⟨p, 3, op, false, p + d, 0, [], []⟩)) := hide fun W => by
    have h := (branch3_at W p op d _ rfl).bytes
    rw [branch3_len] at h
    have := iat_any _ (p + 3) (p + 3) p _ _ _ h (Nat.le_refl _) (branch3_byte p op d h3 h4) (Nat.le_refl _) (by omega)
    rwa [branch3_ins p op d h1 h2 h3 h4] at this
  have HA2 : Hid (∀ (W : World) (g : Nat), g = W.heap.size → Calls Try.prog 8 #[.slice (some ⟨g, 0, none⟩) (p + 5) (p + 5), .int .i64 p] (W.alloc (.cells ((((((Array.replicate (p + 5) (.int .u8 0)).setIfInBounds p (.int .u8 200)).setIfInBounds (p + 1) (.int .u8 (d / 16777216 % 256))).setIfInBounds (p + 2) (.int .u8 (d / 65536 % 256))).setIfInBounds (p + 3) (.int .u8 (d / 256 % 256))).setIfInBounds (p + 4) (.int .u8 (d % 256))) 5)) fun e w' => InsR (W.alloc (.cells ((((((Array.replicate (p + 5) (.int .u8 0)).setIfInBounds p (.int .u8 200)).setIfInBounds (p + 1) (.int .u8 (d / 16777216 % 256))).setIfInBounds (p + 2) (.int .u8 (d / 65536 % 256))).setIfInBounds (p + 3) (.int .u8 (d / 256 % 256))).setIfInBounds (p + 4) (.int .u8 (d % 256))) 5)) w' e (some ⟨p, 5, 200, false, p + d, 0, [], []⟩)) := hide fun W g hg => by
    have h := (branch5_at W p d g hg).bytes
    rw [branch5_len] at h
    have := iat_any _ (p + 5) (p + 5) p _ _ _ h (Nat.le_refl _) (branch5_byte p d) (Nat.le_refl _) (by omega)
    rwa [branch5_ins p d h1 h2] at this
  have hmk1 := make_bytes (p + 3) (by omega)
  have hmk2 := make_bytes (p + 5) (by omega)
  rw [show ((p + 3 : Nat) : Int) = (p : Int) + 3 by omega] at hmk1
  rw [show ((p + 5 : Nat) : Int) = (p : Int) + 5 by omega] at hmk2
  have n0 : ¬ ((p : Int) < 0) := by omega
  have n1 : ¬ ((100 : Int) < p) := by omega
  have n2 : ¬ (d < -32768) := by omega
  have n3 : ¬ (32767 < d) := by omega
  have n4 : ¬ (op < 153) := by omega
  have n5 : ¬ (167 < op) := by omega
  go_enter Try.func5, Try.ntmps5
  go_wp2_with fail
  refine (HBG.out _).mono ?_
  rintro e w2 ⟨rfl, hb2⟩
  have HB2 := hide hb2
  clear hb2
  go_wp2_with fail
  refine (HA1.out w2).mono ?_
  rintro e w3 ⟨⟨v, rfl, T, K, rfl, hT, hK⟩, hb3⟩
  obtain ⟨ta, tl, tc, rfl⟩ := hT.shape
  obtain ⟨ka, kl, kc, rfl⟩ := hK.shape
  have HB3 := hide (HB2.out.trans (((Below.refl w2.heap.size w2).alloc (Nat.le_refl _) (.cells (((Array.replicate (p + 3) (.int .u8 0)).setIfInBounds p (.int .u8 op)).setIfInBounds (p + 1) (.int .u8 (d / 256 % 256))|>.setIfInBounds (p + 2) (.int .u8 (d % 256))) 5)).trans (hb3.mono (by simp)) |>.mono HB2.out.size))
  have hz3 := HB3.out.size
  clear hb3 HB2 HA1 hT hK
  go_wp2_with fail
  refine (HA2.out (w3.alloc (.cells #[.int .i64 (p : Int), .int .i64 3, .int .i64 op, .bool false, .int .i64 (p + d), .int .i64 0, .slice ta tl tc, .slice ka kl kc] 28)) (w3.heap.size + 1) (by simp)).mono ?_
  rintro e w4 ⟨⟨v, rfl, T, K, rfl, hT, hK⟩, hb4⟩
  obtain ⟨ta2, tl2, tc2, rfl⟩ := hT.shape
  obtain ⟨ka2, kl2, kc2, rfl⟩ := hK.shape
  have hx := ((At.new w3 28 [.int .i64 (p : Int), .int .i64 3, .int .i64 op, .bool false, .int .i64 (p + d), .int .i64 0, .slice ta tl tc, .slice ka kl kc]).alloc (.cells ((((((Array.replicate (p + 5) (.int .u8 0)).setIfInBounds p (.int .u8 200)).setIfInBounds (p + 1) (.int .u8 (d / 16777216 % 256))).setIfInBounds (p + 2) (.int .u8 (d / 65536 % 256))).setIfInBounds (p + 3) (.int .u8 (d / 256 % 256))).setIfInBounds (p + 4) (.int .u8 (d % 256))) 5)).below hb4 (by simp; omega)
  have x4 := cell_alloc (hx.cell 4) hx.lt
  have x1 := cell_alloc (hx.cell 1) hx.lt
  have HB4 := hide (((HB3.out.alloc hz3 (.cells #[.int .i64 (p : Int), .int .i64 3, .int .i64 op, .bool false, .int .i64 (p + d), .int .i64 0, .slice ta tl tc, .slice ka kl kc] 28)).alloc (by simp; omega) (.cells ((((((Array.replicate (p + 5) (.int .u8 0)).setIfInBounds p (.int .u8 200)).setIfInBounds (p + 1) (.int .u8 (d / 16777216 % 256))).setIfInBounds (p + 2) (.int .u8 (d / 65536 % 256))).setIfInBounds (p + 3) (.int .u8 (d / 256 % 256))).setIfInBounds (p + 4) (.int .u8 (d % 256))) 5)).trans (hb4.mono (by simp; omega)))
  have hz4 := HB4.out.size
  clear hb4 HB3 HA2 hT hK hx
  go_wp2_with fail
  go_ret
  exact ⟨rfl, HB4.out.alloc hz4 _⟩

theorem InstrBranch_walk (a0 a1 a2 : Int) (_ : (Lit.int .i64 a0).wf = true) (_ : (Lit.int .i64 a1).wf = true) (_ : (Lit.int .i64 a2).wf = true) (w : World) :
    Calls Try.prog 5 #[.int .i64 a0, .int .i64 a1, .int .i64 a2] w fun e w' => e = .returned (.bool true) ∧ Below w.heap.size w w' := by
  by_cases h : a0 < 0 ∨ 100 < a0 ∨ a1 < -32768 ∨ 32767 < a1 ∨ a2 < 153 ∨ 167 < a2
  · exact branch_out a0 a1 a2 w h
  · obtain ⟨p, rfl⟩ := Int.eq_ofNat_of_zero_le (show 0 ≤ a0 by omega)
    exact branch_in p a1 a2 w (by omega) (by omega) (by omega) (by omega) (by omega)
end Go.Proofs.Ytllbbmofinminaa
