/- What the documents' reader of texts gives. Nothing is claimed here. -/
import Derived.Test.YtjlcocalpjeghaaDoorMutfDecode
namespace Go.Proofs.YtjlcocalpjeghaaDoor
open Go.RowKit

theorem drop_at (l : List Int) (k j : Nat) : (l.drop k).getD j 0 = l.getD (k + j) 0 := by simp [List.getD]
theorem nand192 : ∀ n : Fin 256, (bits BinOp.and IntKind.u8 (n.val : Int) 192 != 128) = !trl (n.val : Int) := by decide +kernel

theorem rcont_yes (s : ByteArray) (i : Nat) (w : World) (hi : i < s.size) (h : trl ((s[i].toNat : Nat) : Int) = true) :
    Calls Tryd.prog 65 #[.string s, .int .i64 i] w fun e w' => e = .returned (.tuple #[.int .u16 (((s[i].toNat : Nat) : Int) % 64), .bool true]) ∧ w = w' := by
  have e1 : (bits BinOp.and IntKind.u8 ((s[i].toNat : Nat) : Int) 192 != 128) = false := by
    obtain ⟨n, hn⟩ := byte_fin (byte_range s[i]); rw [hn, nand192, ← hn, h]; rfl
  have b := byte_range s[i]
  go_enter Tryd.func65, Tryd.ntmps65
  go_wp2
  go_ret2
  exact ⟨rfl, rfl⟩
theorem rcont_no (s : ByteArray) (i : Nat) (w : World) (h : ∀ hi : i < s.size, trl ((s[i].toNat : Nat) : Int) = false) :
    Calls Tryd.prog 65 #[.string s, .int .i64 i] w fun e w' => e = .returned (.tuple #[.int .u16 0, .bool false]) ∧ w = w' := by
  by_cases hi : i < s.size
  · have e1 : (bits BinOp.and IntKind.u8 ((s[i].toNat : Nat) : Int) 192 != 128) = true := by
      obtain ⟨n, hn⟩ := byte_fin (byte_range s[i]); rw [hn, nand192, ← hn, h hi]; rfl
    have b := byte_range s[i]
    clear h
    go_enter Tryd.func65, Tryd.ntmps65
    go_wp2
    go_ret2
    exact ⟨rfl, rfl⟩
  · clear h
    go_enter Tryd.func65, Tryd.ntmps65
    go_wp2
    go_ret2
    exact ⟨rfl, rfl⟩

theorem rdec_step {l us : List Int} {k n : Nat} {c : Int} {D : Option (List Int)} (h1 : one (l.drop k) = (c, n)) (h0 : n ≠ 0) (hd : D = (dec (l.drop k)).map (us ++ ·)) : D = (dec (l.drop (k + n))).map ((us ++ [c]) ++ ·) := by
  rw [hd, dec_some (by rw [h1]; exact h0), h1, Option.map_map, List.drop_drop]
  congr 1
  funext x
  simp

/-- The ways that a char may begin at a place. -/
inductive Kind1 (s : ByteArray) (k : Nat) (hk : k < s.size) : Prop
  | one (h0 : (1 : Int) ≤ ((s[k].toNat : Nat) : Int)) (h1 : ((s[k].toNat : Nat) : Int) ≤ (127 : Int)) (h : one ((nums s).drop k) = (((s[k].toNat : Nat) : Int), 1))
  | two (h0 : (192 : Int) ≤ ((s[k].toNat : Nat) : Int)) (h1 : ((s[k].toNat : Nat) : Int) < (224 : Int)) (hl : k + 1 < s.size) (ht : trl ((s[k + 1].toNat : Nat) : Int) = true)
      (h : one ((nums s).drop k) = (((s[k].toNat : Nat) : Int) % 32 * 64 + ((s[k + 1].toNat : Nat) : Int) % 64, 2))
  | three (h0 : (224 : Int) ≤ ((s[k].toNat : Nat) : Int)) (h1 : ((s[k].toNat : Nat) : Int) < (240 : Int)) (hl : k + 2 < s.size) (ht : trl ((s[k + 1].toNat : Nat) : Int) = true) (ht2 : trl ((s[k + 2].toNat : Nat) : Int) = true)
      (h : one ((nums s).drop k) = (((s[k].toNat : Nat) : Int) % 16 * 4096 + ((s[k + 1].toNat : Nat) : Int) % 64 * 64 + ((s[k + 2].toNat : Nat) : Int) % 64, 3))
  | two_no (h0 : (192 : Int) ≤ ((s[k].toNat : Nat) : Int)) (h1 : ((s[k].toNat : Nat) : Int) < (224 : Int)) (ht : ∀ hl : k + 1 < s.size, trl ((s[k + 1].toNat : Nat) : Int) = false) (h : (one ((nums s).drop k)).2 = 0)
  | three_no1 (h0 : (224 : Int) ≤ ((s[k].toNat : Nat) : Int)) (h1 : ((s[k].toNat : Nat) : Int) < (240 : Int)) (ht : ∀ hl : k + 1 < s.size, trl ((s[k + 1].toNat : Nat) : Int) = false) (ht2 : ∀ hl : k + 2 < s.size, trl ((s[k + 2].toNat : Nat) : Int) = false) (h : (one ((nums s).drop k)).2 = 0)
  | three_no2 (h0 : (224 : Int) ≤ ((s[k].toNat : Nat) : Int)) (h1 : ((s[k].toNat : Nat) : Int) < (240 : Int)) (hl : k + 1 < s.size) (ht : trl ((s[k + 1].toNat : Nat) : Int) = true) (ht2 : ∀ hl : k + 2 < s.size, trl ((s[k + 2].toNat : Nat) : Int) = false) (h : (one ((nums s).drop k)).2 = 0)
  | three_no3 (h0 : (224 : Int) ≤ ((s[k].toNat : Nat) : Int)) (h1 : ((s[k].toNat : Nat) : Int) < (240 : Int)) (hl : k + 2 < s.size) (ht : ∀ hl : k + 1 < s.size, trl ((s[k + 1].toNat : Nat) : Int) = false) (ht2 : trl ((s[k + 2].toNat : Nat) : Int) = true) (h : (one ((nums s).drop k)).2 = 0)
  | low (h0 : ((s[k].toNat : Nat) : Int) < (1 : Int)) (h : (one ((nums s).drop k)).2 = 0)
  | other (h0 : (127 : Int) < ((s[k].toNat : Nat) : Int)) (h1 : ((s[k].toNat : Nat) : Int) < (192 : Int) ∨ (240 : Int) ≤ ((s[k].toNat : Nat) : Int)) (h : (one ((nums s).drop k)).2 = 0)
theorem one_drop (s : ByteArray) (k : Nat) (hk : k < s.size) (a : Int) (ha : a = ((s[k].toNat : Nat) : Int)) : one ((nums s).drop k) =
    if 1 ≤ a ∧ a ≤ 127 then (a, 1)
    else if 192 ≤ a ∧ a < 224 ∧ k + 1 < s.size ∧ trl ((nums s).getD (k + 1) 0) = true then ((a - 192) * 64 + ((nums s).getD (k + 1) 0 - 128), 2)
    else if 224 ≤ a ∧ a < 240 ∧ k + 2 < s.size ∧ trl ((nums s).getD (k + 1) 0) = true ∧ trl ((nums s).getD (k + 2) 0) = true then ((a - 224) * 4096 + ((nums s).getD (k + 1) 0 - 128) * 64 + ((nums s).getD (k + 2) 0 - 128), 3)
    else (0, 0) := by
  have e1 : (2 ≤ ((nums s).drop k).length) = (k + 1 < s.size) := by rw [List.length_drop, nums_len]; exact propext ⟨fun _ => by omega, fun _ => by omega⟩
  have e2 : (3 ≤ ((nums s).drop k).length) = (k + 2 < s.size) := by rw [List.length_drop, nums_len]; exact propext ⟨fun _ => by omega, fun _ => by omega⟩
  unfold one
  rw [drop_at, drop_at, drop_at, Nat.add_zero, num_at s k hk, ← ha]
  simp only [e1, e2]
theorem kind1 (s : ByteArray) (k : Nat) (hk : k < s.size) : Kind1 s k hk := by
  obtain ⟨a, ha⟩ : ∃ a : Int, a = ((s[k].toNat : Nat) : Int) := ⟨_, rfl⟩
  have h := one_drop s k hk a ha
  have ba := byte_range s[k]
  rw [← ha] at ba
  by_cases c1 : 1 ≤ a ∧ a ≤ 127
  · rw [if_pos c1, ha] at h
    rw [ha] at c1
    exact .one c1.1 c1.2 h
  · rw [if_neg c1] at h
    by_cases c2 : 192 ≤ a ∧ a < 224
    · by_cases c3 : ∃ hl : k + 1 < s.size, trl ((s[k + 1].toNat : Nat) : Int) = true
      · obtain ⟨hl, ht⟩ := c3
        rw [num_at s _ hl, if_pos ⟨c2.1, c2.2, hl, ht⟩] at h
        have t := (trl_iff _).1 ht
        refine .two (by omega) (by omega) hl ht (h.trans ?_)
        rw [← ha, Prod.mk.injEq]
        exact ⟨by omega, rfl⟩
      · have ht : ∀ hl : k + 1 < s.size, trl ((s[k + 1].toNat : Nat) : Int) = false := fun hl => by
          cases e : trl ((s[k + 1].toNat : Nat) : Int)
          · rfl
          · exact absurd ⟨hl, e⟩ c3
        rw [if_neg (fun x => by have := ht x.2.2.1; rw [← num_at s _ x.2.2.1, x.2.2.2] at this; cases this), if_neg (fun x => by omega)] at h
        exact .two_no (by omega) (by omega) ht (by rw [h])
    · rw [if_neg (fun x => c2 ⟨x.1, x.2.1⟩)] at h
      by_cases c3 : 224 ≤ a ∧ a < 240
      · by_cases d1 : ∃ hl : k + 1 < s.size, trl ((s[k + 1].toNat : Nat) : Int) = true
        · obtain ⟨hl, ht⟩ := d1
          by_cases d2 : ∃ hl : k + 2 < s.size, trl ((s[k + 2].toNat : Nat) : Int) = true
          · obtain ⟨hl2, ht2⟩ := d2
            rw [num_at s _ hl, num_at s _ hl2, if_pos ⟨c3.1, c3.2, hl2, ht, ht2⟩] at h
            have t := (trl_iff _).1 ht
            have t2 := (trl_iff _).1 ht2
            refine .three (by omega) (by omega) hl2 ht ht2 (h.trans ?_)
            rw [← ha, Prod.mk.injEq]
            exact ⟨by omega, rfl⟩
          · have ht2 : ∀ hl : k + 2 < s.size, trl ((s[k + 2].toNat : Nat) : Int) = false := fun hl => by
              cases e : trl ((s[k + 2].toNat : Nat) : Int)
              · rfl
              · exact absurd ⟨hl, e⟩ d2
            rw [if_neg (fun x => by have := ht2 x.2.2.1; rw [← num_at s _ x.2.2.1, x.2.2.2.2] at this; cases this)] at h
            exact .three_no2 (by omega) (by omega) hl ht ht2 (by rw [h])
        · have ht : ∀ hl : k + 1 < s.size, trl ((s[k + 1].toNat : Nat) : Int) = false := fun hl => by
            cases e : trl ((s[k + 1].toNat : Nat) : Int)
            · rfl
            · exact absurd ⟨hl, e⟩ d1
          rw [if_neg (fun x => by have := ht (by omega); rw [← num_at s _ (by omega), x.2.2.2.1] at this; cases this)] at h
          by_cases d2 : ∃ hl : k + 2 < s.size, trl ((s[k + 2].toNat : Nat) : Int) = true
          · obtain ⟨hl2, ht2⟩ := d2
            exact .three_no3 (by omega) (by omega) hl2 ht ht2 (by rw [h])
          · have ht2 : ∀ hl : k + 2 < s.size, trl ((s[k + 2].toNat : Nat) : Int) = false := fun hl => by
              cases e : trl ((s[k + 2].toNat : Nat) : Int)
              · rfl
              · exact absurd ⟨hl, e⟩ d2
            exact .three_no1 (by omega) (by omega) ht ht2 (by rw [h])
      · rw [if_neg (fun x => c3 ⟨x.1, x.2.1⟩)] at h
        by_cases c4 : a < 1
        · exact .low (by omega) (by rw [h])
        · exact .other (by omega) (by omega) (by rw [h])

theorem lead224 (b : UInt8) : (bits BinOp.and IntKind.u8 ((b.toNat : Nat) : Int) 224 == 192) = (decide ((192 : Int) ≤ ((b.toNat : Nat) : Int)) && decide (((b.toNat : Nat) : Int) < (224 : Int))) := by
  obtain ⟨n, hn⟩ := byte_fin (byte_range b); rw [hn, and224]
theorem lead240 (b : UInt8) : (bits BinOp.and IntKind.u8 ((b.toNat : Nat) : Int) 240 == 224) = (decide ((224 : Int) ≤ ((b.toNat : Nat) : Int)) && decide (((b.toNat : Nat) : Int) < (240 : Int))) := by
  obtain ⟨n, hn⟩ := byte_fin (byte_range b); rw [hn, and240]

set_option maxHeartbeats 2000000 in
set_option maxRecDepth 100000 in
theorem rdecode_any (s : ByteArray) (w : World) (hm : s.size ≤ 1000000) : Calls Tryd.prog 53 #[.string s] w (Decoded (dec (nums s)) w) := by
  obtain ⟨i0, hi0, hz0, hz1, hz2⟩ := info_parts u16info
  obtain ⟨D, hD⟩ : ∃ D, dec (nums s) = D := ⟨_, rfl⟩
  rw [hD]
  have HD := hide hD
  clear hD
  go_enter Tryd.func53, Tryd.ntmps53
  go_wp2_with fail
  go_loopw [4, 5] (fun uv iv wr => ∃ (k : Nat) (us : List Int), iv = .int .i64 k ∧ k ≤ s.size ∧ us.length ≤ k ∧ D = (dec ((nums s).drop k)).map (us ++ ·) ∧ wr.ownsRow w.heap.size 93 1 uv us.length (cells .u16 us) ∧ Below w.heap.size w wr) (fun _ iv _ => s.size - (intOf iv).toNat)
  case atStart => exact ⟨0, [], rfl, by simp, by simp, by rw [← HD.out]; simp, World.ownsRow_nil _ _ _ _, Below.refl _ _⟩
  case round =>
    obtain ⟨k, us, rfl, hk, hl, hd, hown, hb⟩ := hrel
    have Hd := hide hd
    have Hown := hide hown
    have Hb := hide hb
    clear hd hown hb HD
    by_cases hlt : k < s.size
    · have b0 := byte_range s[k]
      have HOWN : Hid (∀ c : Int, (wr.alloc (.cells #[.int .u16 c] 93)).ownsRow w.heap.size 93 1 u4 us.length (cells .u16 us)) := hide fun c => World.ownsRow.alloc (w := wr) Hown.out _
      have HB : Hid (∀ c : Int, Below w.heap.size w (wr.alloc (.cells #[.int .u16 c] 93))) := hide fun c => Hb.out.alloc Hb.out.size _
      have HR : Hid (∀ c : Int, Rd (wr.alloc (.cells #[.int .u16 c] 93)) (wr.heap.size + 1) (some ⟨wr.heap.size, 0, none⟩) 1 [.int .u16 c]) := hide fun c => Rd.made wr 93 [.int .u16 c]
      rcases kind1 s k hlt with ⟨h0, h1, h⟩ | ⟨h0, h1, hl2, ht, h⟩ | ⟨h0, h1, hl2, ht, ht2, h⟩ | ⟨h0, h1, ht, h⟩ | ⟨h0, h1, ht, ht2, h⟩ | ⟨h0, h1, hl2, ht, ht2, h⟩ | ⟨h0, h1, hl2, ht, ht2, h⟩ | ⟨h0, h⟩ | ⟨h0, h1, h⟩
      · have H := hide h
        clear h
        go_wp2_with (at_builtin; go_loud (refine wpList_append_rd _ rfl (.tmp 27) (.tmp 30) 80 rfl w.heap.size 93 i0 _ 2 Tryd.underlying80 hi0 hz0 hz1 hz2 rfl u4 us.length (cells .u16 us) rfl (HOWN.out _) (wr.heap.size + 1) (some ⟨wr.heap.size, 0, none⟩) 1 1 [.int .u16 (((s[k].toNat : Nat) : Int))] rfl (HR.out _) ?_ ?_ ?_ ?_ ?_))
        · intro v hv; simp at hv; subst hv; rfl
        · unfold maxLen; omega
        · omega
        · exact (HB.out _).size
        · intro v3 w3 hown3 hg3
          have Hown3 := hide hown3
          have Hb3 := hide (below_own (HB.out _) (HOWN.out _) hg3 (HB.out _).size)
          clear hown3 hg3
          go_wp2
          go_roundw
          case rel => exact ⟨k + 1, us ++ [_], by go_num, by omega, by simp; omega, rdec_step H.out (by decide) Hd.out, by simpa [cells] using Hown3.out, Hb3.out⟩
          case measure => simp [intOf]; omega

      · have H := hide h
        have H1 : Hid (∀ W, Calls Tryd.prog 65 #[.string s, .int .i64 ((k : Int) + 1)] W fun e w' => e = .returned (.tuple #[.int .u16 (((s[k + 1].toNat : Nat) : Int) % 64), .bool true]) ∧ W = w') := hide fun W => rcont_yes s (k + 1) W hl2 ht
        have e1 : (bits BinOp.and IntKind.u8 ((s[k].toNat : Nat) : Int) 224 == 192) = true := by rw [lead224]; simp; omega
        have b1 := byte_range s[k + 1]
        clear h ht
        go_wp2_with (first | (go_at_call 65; refine (H1.out _).mono ?_; rintro e w1 ⟨rfl, rfl⟩) | (at_builtin; go_loud (refine wpList_append_rd _ rfl (.tmp 47) (.tmp 54) 80 rfl w.heap.size 93 i0 _ 2 Tryd.underlying80 hi0 hz0 hz1 hz2 rfl u4 us.length (cells .u16 us) rfl (HOWN.out _) (wr.heap.size + 1) (some ⟨wr.heap.size, 0, none⟩) 1 1 [.int .u16 (((s[k].toNat : Nat) : Int) % 32 * 64 + ((s[k + 1].toNat : Nat) : Int) % 64)] rfl (HR.out _) ?_ ?_ ?_ ?_ ?_)))
        · intro v hv; simp at hv; subst hv; rfl
        · unfold maxLen; omega
        · omega
        · exact (HB.out _).size
        · intro v3 w3 hown3 hg3
          have Hown3 := hide hown3
          have Hb3 := hide (below_own (HB.out _) (HOWN.out _) hg3 (HB.out _).size)
          clear hown3 hg3
          go_wp2
          go_roundw
          case rel => exact ⟨k + 2, us ++ [_], by go_num, by omega, by simp; omega, rdec_step H.out (by decide) Hd.out, by simpa [cells] using Hown3.out, Hb3.out⟩
          case measure => simp [intOf]; omega

      · have H := hide h
        have H1 : Hid (∀ W, Calls Tryd.prog 65 #[.string s, .int .i64 ((k : Int) + 1)] W fun e w' => e = .returned (.tuple #[.int .u16 (((s[k + 1].toNat : Nat) : Int) % 64), .bool true]) ∧ W = w') := hide fun W => rcont_yes s (k + 1) W (by omega) ht
        have H2 : Hid (∀ W, Calls Tryd.prog 65 #[.string s, .int .i64 ((k : Int) + 2)] W fun e w' => e = .returned (.tuple #[.int .u16 (((s[k + 2].toNat : Nat) : Int) % 64), .bool true]) ∧ W = w') := hide fun W => rcont_yes s (k + 2) W hl2 ht2
        have e1 : (bits BinOp.and IntKind.u8 ((s[k].toNat : Nat) : Int) 224 == 192) = false := by rw [lead224]; simp; omega
        have e2 : (bits BinOp.and IntKind.u8 ((s[k].toNat : Nat) : Int) 240 == 224) = true := by rw [lead240]; simp; omega
        have b1 := byte_range s[k + 1]
        have b2 := byte_range s[k + 2]
        clear h ht ht2
        go_wp2_with (first | (go_at_call 65; (with_reducible refine (H1.out _).mono ?_); rintro e w1 ⟨rfl, rfl⟩) | (go_at_call 65; (with_reducible refine (H2.out _).mono ?_); rintro e w1 ⟨rfl, rfl⟩) | (at_builtin; go_loud (refine wpList_append_rd _ rfl (.tmp 82) (.tmp 92) 80 rfl w.heap.size 93 i0 _ 2 Tryd.underlying80 hi0 hz0 hz1 hz2 rfl u4 us.length (cells .u16 us) rfl (HOWN.out _) (wr.heap.size + 1) (some ⟨wr.heap.size, 0, none⟩) 1 1 [.int .u16 (((s[k].toNat : Nat) : Int) % 16 * 4096 + ((s[k + 1].toNat : Nat) : Int) % 64 * 64 + ((s[k + 2].toNat : Nat) : Int) % 64)] rfl (HR.out _) ?_ ?_ ?_ ?_ ?_)))
        · intro v hv; simp at hv; subst hv; rfl
        · unfold maxLen; omega
        · omega
        · exact (HB.out _).size
        · intro v3 w3 hown3 hg3
          have Hown3 := hide hown3
          have Hb3 := hide (below_own (HB.out _) (HOWN.out _) hg3 (HB.out _).size)
          clear hown3 hg3
          go_wp2
          go_roundw
          case rel => exact ⟨k + 3, us ++ [_], by go_num, by omega, by simp; omega, rdec_step H.out (by decide) Hd.out, by simpa [cells] using Hown3.out, Hb3.out⟩
          case measure => simp [intOf]; omega

      · have H := hide (dec_none (l := (nums s).drop k) (fun e => by have := congrArg List.length e; rw [List.length_drop, nums_len] at this; simp at this; omega) h)
        have H1 : Hid (∀ W, Calls Tryd.prog 65 #[.string s, .int .i64 ((k : Int) + 1)] W fun e w' => e = .returned (.tuple #[.int .u16 0, .bool false]) ∧ W = w') := hide fun W => rcont_no s (k + 1) W ht
        have e1 : (bits BinOp.and IntKind.u8 ((s[k].toNat : Nat) : Int) 224 == 192) = true := by rw [lead224]; simp; omega
        clear h ht
        go_wp2_with (go_at_call 65; (with_reducible refine (H1.out _).mono ?_); rintro e w1 ⟨rfl, rfl⟩)
        go_ret2
        exact ⟨Hb.out, .inl ⟨by rw [Hd.out, H.out]; rfl, rfl⟩⟩
      · have H := hide (dec_none (l := (nums s).drop k) (fun e => by have := congrArg List.length e; rw [List.length_drop, nums_len] at this; simp at this; omega) h)
        have H1 : Hid (∀ W, Calls Tryd.prog 65 #[.string s, .int .i64 ((k : Int) + 1)] W fun e w' => e = .returned (.tuple #[.int .u16 (0), .bool false]) ∧ W = w') := hide fun W => rcont_no s (k + 1) W ht
        have H2 : Hid (∀ W, Calls Tryd.prog 65 #[.string s, .int .i64 ((k : Int) + 2)] W fun e w' => e = .returned (.tuple #[.int .u16 (0), .bool false]) ∧ W = w') := hide fun W => rcont_no s (k + 2) W ht2
        have e1 : (bits BinOp.and IntKind.u8 ((s[k].toNat : Nat) : Int) 224 == 192) = false := by rw [lead224]; simp; omega
        have e2 : (bits BinOp.and IntKind.u8 ((s[k].toNat : Nat) : Int) 240 == 224) = true := by rw [lead240]; simp; omega
        clear h ht ht2
        go_wp2_with (first | (go_at_call 65; (with_reducible refine (H1.out _).mono ?_); rintro e w1 ⟨rfl, rfl⟩) | (go_at_call 65; (with_reducible refine (H2.out _).mono ?_); rintro e w1 ⟨rfl, rfl⟩))
        go_ret2
        exact ⟨Hb.out, .inl ⟨by rw [Hd.out, H.out]; rfl, rfl⟩⟩
      · have H := hide (dec_none (l := (nums s).drop k) (fun e => by have := congrArg List.length e; rw [List.length_drop, nums_len] at this; simp at this; omega) h)
        have H1 : Hid (∀ W, Calls Tryd.prog 65 #[.string s, .int .i64 ((k : Int) + 1)] W fun e w' => e = .returned (.tuple #[.int .u16 (((s[k + 1].toNat : Nat) : Int) % 64), .bool true]) ∧ W = w') := hide fun W => rcont_yes s (k + 1) W hl2 ht
        have H2 : Hid (∀ W, Calls Tryd.prog 65 #[.string s, .int .i64 ((k : Int) + 2)] W fun e w' => e = .returned (.tuple #[.int .u16 (0), .bool false]) ∧ W = w') := hide fun W => rcont_no s (k + 2) W ht2
        have e1 : (bits BinOp.and IntKind.u8 ((s[k].toNat : Nat) : Int) 224 == 192) = false := by rw [lead224]; simp; omega
        have e2 : (bits BinOp.and IntKind.u8 ((s[k].toNat : Nat) : Int) 240 == 224) = true := by rw [lead240]; simp; omega
        clear h ht ht2
        go_wp2_with (first | (go_at_call 65; (with_reducible refine (H1.out _).mono ?_); rintro e w1 ⟨rfl, rfl⟩) | (go_at_call 65; (with_reducible refine (H2.out _).mono ?_); rintro e w1 ⟨rfl, rfl⟩))
        go_ret2
        exact ⟨Hb.out, .inl ⟨by rw [Hd.out, H.out]; rfl, rfl⟩⟩
      · have H := hide (dec_none (l := (nums s).drop k) (fun e => by have := congrArg List.length e; rw [List.length_drop, nums_len] at this; simp at this; omega) h)
        have H1 : Hid (∀ W, Calls Tryd.prog 65 #[.string s, .int .i64 ((k : Int) + 1)] W fun e w' => e = .returned (.tuple #[.int .u16 (0), .bool false]) ∧ W = w') := hide fun W => rcont_no s (k + 1) W ht
        have H2 : Hid (∀ W, Calls Tryd.prog 65 #[.string s, .int .i64 ((k : Int) + 2)] W fun e w' => e = .returned (.tuple #[.int .u16 (((s[k + 2].toNat : Nat) : Int) % 64), .bool true]) ∧ W = w') := hide fun W => rcont_yes s (k + 2) W hl2 ht2
        have e1 : (bits BinOp.and IntKind.u8 ((s[k].toNat : Nat) : Int) 224 == 192) = false := by rw [lead224]; simp; omega
        have e2 : (bits BinOp.and IntKind.u8 ((s[k].toNat : Nat) : Int) 240 == 224) = true := by rw [lead240]; simp; omega
        clear h ht ht2
        go_wp2_with (first | (go_at_call 65; (with_reducible refine (H1.out _).mono ?_); rintro e w1 ⟨rfl, rfl⟩) | (go_at_call 65; (with_reducible refine (H2.out _).mono ?_); rintro e w1 ⟨rfl, rfl⟩))
        go_ret2
        exact ⟨Hb.out, .inl ⟨by rw [Hd.out, H.out]; rfl, rfl⟩⟩
      · have H := hide (dec_none (l := (nums s).drop k) (fun e => by have := congrArg List.length e; rw [List.length_drop, nums_len] at this; simp at this; omega) h)
        have e1 : (bits BinOp.and IntKind.u8 ((s[k].toNat : Nat) : Int) 224 == 192) = false := by rw [lead224]; simp; omega
        have e2 : (bits BinOp.and IntKind.u8 ((s[k].toNat : Nat) : Int) 240 == 224) = false := by rw [lead240]; simp; omega
        clear h
        go_wp2_with fail
        go_ret2
        exact ⟨Hb.out, .inl ⟨by rw [Hd.out, H.out]; rfl, rfl⟩⟩
      · have H := hide (dec_none (l := (nums s).drop k) (fun e => by have := congrArg List.length e; rw [List.length_drop, nums_len] at this; simp at this; omega) h)
        have e1 : (bits BinOp.and IntKind.u8 ((s[k].toNat : Nat) : Int) 224 == 192) = false := by rw [lead224]; simp; omega
        have e2 : (bits BinOp.and IntKind.u8 ((s[k].toNat : Nat) : Int) 240 == 224) = false := by rw [lead240]; simp; omega
        clear h h1
        go_wp2_with fail
        go_ret2
        exact ⟨Hb.out, .inl ⟨by rw [Hd.out, H.out]; rfl, rfl⟩⟩
    · have hn : (nums s).drop k = [] := List.drop_eq_nil_of_le (by rw [nums_len]; omega)
      have Hn := hide hn
      clear hn
      go_wp2_with fail
      go_ret2
      refine ⟨Hb.out, .inr ⟨us, u4, ?_, rfl, Hown.out⟩⟩
      rw [Hd.out, Hn.out]
      simp [dec_nil]
end Go.Proofs.YtjlcocalpjeghaaDoor
