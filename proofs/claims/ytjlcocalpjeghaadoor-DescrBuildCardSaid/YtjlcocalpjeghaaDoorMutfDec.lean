/- What Decode of package mutf gives. Nothing is claimed here. -/
import Derived.Test.YtjlcocalpjeghaaDoorMutfSpec
import Derived.Test.YtjlcocalpjeghaaDoorProg
import Derived.Deep.QuietTactic
import Derived.BigQuiet
import Derived.WalkSpells
import Derived.Deep.OwnRows
namespace Go.Proofs.YtjlcocalpjeghaaDoor
open Go.RowKit

theorem and192 : ∀ n : Fin 256, (bits BinOp.and IntKind.u8 (n.val : Int) 192 == 128) = trl (n.val : Int) := by decide +kernel
theorem and224 : ∀ n : Fin 256, (bits BinOp.and IntKind.u8 (n.val : Int) 224 == 192) = (decide (192 ≤ (n.val : Int)) && decide ((n.val : Int) < 224)) := by decide +kernel
theorem and240 : ∀ n : Fin 256, (bits BinOp.and IntKind.u8 (n.val : Int) 240 == 224) = (decide (224 ≤ (n.val : Int)) && decide ((n.val : Int) < 240)) := by decide +kernel
theorem byte_fin {b : Int} (h : 0 ≤ b ∧ b < 256) : ∃ n : Fin 256, b = (n.val : Int) := ⟨⟨b.toNat, by omega⟩, by simp; omega⟩

theorem istrail_any (b : Int) (h : 0 ≤ b ∧ b < 256) (w : World) : Calls Tryd.prog 77 #[.int .u8 b] w fun e w' => e = .returned (.bool (trl b)) ∧ w = w' := by
  obtain ⟨n, rfl⟩ := byte_fin h
  have H := hide (and192 n)
  go_enter Tryd.func77, Tryd.ntmps77
  go_wp2
  go_ret
  exact ⟨ret_bool H.out, rfl⟩
theorem mbits_any (b : Int) (h : 0 ≤ b ∧ b < 256) (w : World) : Calls Tryd.prog 78 #[.int .u8 b] w fun e w' => e = .returned (.int .u16 (b % 64)) ∧ w = w' := by
  go_enter Tryd.func78, Tryd.ntmps78
  go_wp2
  go_ret
  exact ⟨rfl, rfl⟩

theorem or6 (x y : Int) (h0 : 0 ≤ x) (h1 : x < 1024) (h2 : 0 ≤ y) (h3 : y < 64) : bits .or .u16 (x * 64) y = x * (64 : Int) + y :=
  bits_join .u16 16 (by decide) wraps_u16 6 _ _ (by omega) (by omega) (by omega) h2 (by omega) (by omega)
theorem or12 (x y : Int) (h0 : 0 ≤ x) (h1 : x < 16) (h2 : 0 ≤ y) (h3 : y < 4096) : bits .or .u16 (x * 4096) y = x * (4096 : Int) + y :=
  bits_join .u16 16 (by decide) wraps_u16 12 _ _ (by omega) (by omega) (by omega) h2 (by omega) (by omega)

theorem or18 (x y z : Int) (h0 : 0 ≤ x) (h1 : x < 16) (h2 : 0 ≤ y) (h3 : y < 64) (h4 : 0 ≤ z) (h5 : z < 64) : bits .or .u16 (x * 4096 + y * 64) z = x * 4096 + y * 64 + z :=
  bits_join .u16 16 (by decide) wraps_u16 6 _ _ (by omega) (by omega) (by omega) h4 (by omega) (by omega)

/-- What first gives. -/
def Firsts (s : ByteArray) (w : World) (e : Ending) (w' : World) : Prop :=
  e = .returned (.tuple #[.int .u16 (one (nums s)).1, .int .i64 ((one (nums s)).2 : Nat)]) ∧ ∃ m, w' = w.drewN m
theorem Firsts.mk {s : ByteArray} {w w' : World} {e : Ending} {c k : Int} {n : Nat} (h : one (nums s) = (c, n)) (hk : k = (n : Int)) (he : e = .returned (.tuple #[.int .u16 c, .int .i64 k])) (hw : ∃ m, w' = w.drewN m) : Firsts s w e w' := by
  unfold Firsts
  rw [h, he, hk]
  exact ⟨rfl, hw⟩

set_option maxRecDepth 100000 in
theorem first_one (s : ByteArray) (w : World) (hz : 1 ≤ s.size) (hm : s.size ≤ 1000000) (h0 : (1 : Int) ≤ ((s[0].toNat : Nat) : Int)) (h1 : ((s[0].toNat : Nat) : Int) ≤ (127 : Int)) :
    Calls Tryd.prog 71 #[.string s] w (Firsts s w) := by
  have Hone := hide (show one (nums s) = (((s[0].toNat : Nat) : Int), 1) by unfold one; rw [num_at s 0 (by omega), if_pos ⟨h0, h1⟩])
  go_enter Tryd.func71, Tryd.ntmps71
  go_wp2_with fail
  go_ret2
  exact Firsts.mk Hone.out rfl rfl ⟨0, rfl⟩

set_option maxRecDepth 100000 in
theorem first_two (s : ByteArray) (w : World) (hz : 2 ≤ s.size) (hm : s.size ≤ 1000000) (h0 : (192 : Int) ≤ ((s[0].toNat : Nat) : Int)) (h1 : ((s[0].toNat : Nat) : Int) < (224 : Int)) (h2 : trl (s[1].toNat : Nat) = true) :
    Calls Tryd.prog 71 #[.string s] w (Firsts s w) := by
  have Hone := hide (show one (nums s) = ((((s[0].toNat : Nat) : Int) - (192 : Int)) * (64 : Int) + (((s[1].toNat : Nat) : Int) - (128 : Int)), 2) by
    unfold one; rw [num_at s 0 (by omega), num_at s 1 (by omega), if_neg (by omega), if_pos ⟨h0, h1, by rw [nums_len]; omega, h2⟩])
  have e1 : (bits BinOp.and IntKind.u8 ((s[0].toNat : Nat) : Int) 224 == 192) = true := by
    obtain ⟨n, hn⟩ := byte_fin (byte_range s[0]); rw [hn, and224]; rw [hn] at h0 h1; simp; omega
  have ht := (trl_iff _).1 h2
  have Hor := hide (or6 (((s[0].toNat : Nat) : Int) % 32) (((s[1].toNat : Nat) : Int) % 64) (by omega) (by omega) (by omega) (by omega))
  go_enter Tryd.func71, Tryd.ntmps71
  go_wp2_with (first
    | (go_at_call 77; refine (istrail_any _ (byte_range _) _).mono ?_; rintro e w1 ⟨rfl, rfl⟩)
    | (go_at_call 78; refine (mbits_any _ (byte_range _) _).mono ?_; rintro e w1 ⟨rfl, rfl⟩))
  go_ret2
  exact Firsts.mk Hone.out rfl (ret_tup2 (Hor.out.trans (by omega)) rfl) ⟨0, rfl⟩

set_option maxRecDepth 100000 in
theorem first_three (s : ByteArray) (w : World) (hz : 3 ≤ s.size) (hm : s.size ≤ 1000000) (h0 : (224 : Int) ≤ ((s[0].toNat : Nat) : Int)) (h1 : ((s[0].toNat : Nat) : Int) < (240 : Int)) (h2 : trl (s[1].toNat : Nat) = true) (h3 : trl (s[2].toNat : Nat) = true) :
    Calls Tryd.prog 71 #[.string s] w (Firsts s w) := by
  have Hone := hide (show one (nums s) = ((((s[0].toNat : Nat) : Int) - (224 : Int)) * (4096 : Int) + (((s[1].toNat : Nat) : Int) - (128 : Int)) * (64 : Int) + (((s[2].toNat : Nat) : Int) - (128 : Int)), 3) by
    unfold one; rw [num_at s 0 (by omega), num_at s 1 (by omega), num_at s 2 (by omega), if_neg (by omega), if_neg (by omega), if_pos ⟨h0, h1, by rw [nums_len]; omega, h2, h3⟩])
  have e1 : (bits BinOp.and IntKind.u8 ((s[0].toNat : Nat) : Int) 224 == 192) = false := by
    obtain ⟨n, hn⟩ := byte_fin (byte_range s[0]); rw [hn, and224]; rw [hn] at h0 h1; simp; omega
  have e2 : (bits BinOp.and IntKind.u8 ((s[0].toNat : Nat) : Int) 240 == 224) = true := by
    obtain ⟨n, hn⟩ := byte_fin (byte_range s[0]); rw [hn, and240]; rw [hn] at h0 h1; simp; omega
  have ht := (trl_iff _).1 h2
  have ht3 := (trl_iff _).1 h3
  have Hor1 := hide (or12 (((s[0].toNat : Nat) : Int) % 16) (((s[1].toNat : Nat) : Int) % 64 * 64) (by omega) (by omega) (by omega) (by omega))
  have Hor2 := hide (or18 (((s[0].toNat : Nat) : Int) % 16) (((s[1].toNat : Nat) : Int) % 64) (((s[2].toNat : Nat) : Int) % 64) (by omega) (by omega) (by omega) (by omega) (by omega) (by omega))
  go_enter Tryd.func71, Tryd.ntmps71
  go_wp2_with (first
    | (go_at_call 77; refine (istrail_any _ (byte_range _) _).mono ?_; rintro e w1 ⟨rfl, rfl⟩)
    | (go_at_call 78; refine (mbits_any _ (byte_range _) _).mono ?_; rintro e w1 ⟨rfl, rfl⟩))
  go_quiet ((go_at_call 78; exact quiet_same (mbits_any _ (byte_range _) _)))
  go_wp2
  go_ret2
  rw [Hor1.out, Hor2.out]
  exact Firsts.mk Hone.out rfl (ret_tup2 (by omega) rfl) ⟨_, rfl⟩

set_option maxRecDepth 100000 in
theorem first_none (s : ByteArray) (w : World) (hz : 1 ≤ s.size) (hm : s.size ≤ 1000000) (h : (one (nums s)).2 = 0) :
    Calls Tryd.prog 71 #[.string s] w (Firsts s w) := by
  have hone : one (nums s) = (0, 0) := by
    unfold one at h ⊢
    split at h
    · cases h
    · split at h
      · cases h
      · split at h
        · cases h
        · rename_i a b c
          rw [if_neg a, if_neg b, if_neg c]
  have n1 : ¬ ((1 : Int) ≤ ((s[0].toNat : Nat) : Int) ∧ ((s[0].toNat : Nat) : Int) ≤ (127 : Int)) := fun c => by
    unfold one at h; rw [num_at s 0 (by omega), if_pos c] at h; cases h
  have n2 : ∀ h1 : 1 < s.size, (192 : Int) ≤ ((s[0].toNat : Nat) : Int) → ((s[0].toNat : Nat) : Int) < (224 : Int) → trl (s[1].toNat : Nat) = false := fun h1 a b => by
    cases e : trl (s[1].toNat : Nat)
    · rfl
    · unfold one at h
      rw [num_at s 0 (by omega), num_at s 1 h1, if_neg n1, if_pos ⟨a, b, by rw [nums_len]; omega, e⟩] at h; cases h
  have n3 : ∀ h2 : 2 < s.size, (224 : Int) ≤ ((s[0].toNat : Nat) : Int) → ((s[0].toNat : Nat) : Int) < (240 : Int) → trl (s[1].toNat : Nat) = true → trl (s[2].toNat : Nat) = false := fun h2 a b d => by
    cases e : trl (s[2].toNat : Nat)
    · rfl
    · unfold one at h
      rw [num_at s 0 (by omega), num_at s 1 (by omega), num_at s 2 h2, if_neg n1, if_neg (fun x => by omega), if_pos ⟨a, b, by rw [nums_len]; omega, d, e⟩] at h; cases h
  have b0 := byte_range s[0]
  have e1 : (bits BinOp.and IntKind.u8 ((s[0].toNat : Nat) : Int) 224 == 192) = (decide ((192 : Int) ≤ ((s[0].toNat : Nat) : Int)) && decide (((s[0].toNat : Nat) : Int) < (224 : Int))) := by
    obtain ⟨n, hn⟩ := byte_fin b0; rw [hn, and224]
  have e2 : (bits BinOp.and IntKind.u8 ((s[0].toNat : Nat) : Int) 240 == 224) = (decide ((224 : Int) ≤ ((s[0].toNat : Nat) : Int)) && decide (((s[0].toNat : Nat) : Int) < (240 : Int))) := by
    obtain ⟨n, hn⟩ := byte_fin b0; rw [hn, and240]
  have Hone := hide hone
  have N2 := hide n2
  have N3 := hide n3
  clear h hone n2 n3
  by_cases c1 : (192 : Int) ≤ ((s[0].toNat : Nat) : Int) ∧ ((s[0].toNat : Nat) : Int) < (224 : Int)
  · have f1 : (bits BinOp.and IntKind.u8 ((s[0].toNat : Nat) : Int) 224 == 192) = true := by rw [e1]; simp [c1]
    have f2 : (bits BinOp.and IntKind.u8 ((s[0].toNat : Nat) : Int) 240 == 224) = false := by rw [e2]; simp; omega
    have g1 : (127 : Int) < ((s[0].toNat : Nat) : Int) := by omega
    by_cases hz2 : 2 ≤ s.size
    · have t1 := N2.out (by omega) c1.1 c1.2
      clear n1 c1 e1 e2
      go_enter Tryd.func71, Tryd.ntmps71
      go_wp2_with (go_at_call 77; refine (istrail_any _ (byte_range _) _).mono ?_; rintro e w1 ⟨rfl, rfl⟩)
      go_ret2
      exact Firsts.mk Hone.out rfl rfl ⟨0, rfl⟩
    · clear n1 c1 e1 e2
      go_enter Tryd.func71, Tryd.ntmps71
      go_wp2_with fail
      go_ret2
      exact Firsts.mk Hone.out rfl rfl ⟨0, rfl⟩
  · have f1 : (bits BinOp.and IntKind.u8 ((s[0].toNat : Nat) : Int) 224 == 192) = false := by rw [e1]; simp; omega
    by_cases c2 : (224 : Int) ≤ ((s[0].toNat : Nat) : Int) ∧ ((s[0].toNat : Nat) : Int) < (240 : Int)
    · have f2 : (bits BinOp.and IntKind.u8 ((s[0].toNat : Nat) : Int) 240 == 224) = true := by rw [e2]; simp [c2]
      have g1 : (127 : Int) < ((s[0].toNat : Nat) : Int) := by omega
      by_cases hz2 : 3 ≤ s.size
      · cases t1 : trl (s[1].toNat : Nat)
        · clear n1 c1 c2 e1 e2
          go_enter Tryd.func71, Tryd.ntmps71
          go_wp2_with (go_at_call 77; refine (istrail_any _ (byte_range _) _).mono ?_; rintro e w1 ⟨rfl, rfl⟩)
          go_ret2
          exact Firsts.mk Hone.out rfl rfl ⟨0, rfl⟩
        · have t2 := N3.out (by omega) c2.1 c2.2 t1
          clear n1 c1 c2 e1 e2
          go_enter Tryd.func71, Tryd.ntmps71
          go_wp2_with (go_at_call 77; refine (istrail_any _ (byte_range _) _).mono ?_; rintro e w1 ⟨rfl, rfl⟩)
          go_ret2
          exact Firsts.mk Hone.out rfl rfl ⟨0, rfl⟩
      · clear n1 c1 c2 e1 e2
        go_enter Tryd.func71, Tryd.ntmps71
        go_wp2_with fail
        go_ret2
        exact Firsts.mk Hone.out rfl rfl ⟨0, rfl⟩
    · have f2 : (bits BinOp.and IntKind.u8 ((s[0].toNat : Nat) : Int) 240 == 224) = false := by rw [e2]; simp; omega
      rcases Int.lt_or_le ((s[0].toNat : Nat) : Int) (1 : Int) with g1 | g1
      · clear n1 c1 c2 e1 e2
        go_enter Tryd.func71, Tryd.ntmps71
        go_wp2_with fail
        go_ret2
        exact Firsts.mk Hone.out rfl rfl ⟨0, rfl⟩
      · have g2 : (127 : Int) < ((s[0].toNat : Nat) : Int) := by omega
        clear n1 c1 c2 e1 e2
        go_enter Tryd.func71, Tryd.ntmps71
        go_wp2_with fail
        go_ret2
        exact Firsts.mk Hone.out rfl rfl ⟨0, rfl⟩

theorem first_any (s : ByteArray) (w : World) (hz : 1 ≤ s.size) (hm : s.size ≤ 1000000) : Calls Tryd.prog 71 #[.string s] w (Firsts s w) := by
  by_cases h : (one (nums s)).2 = 0
  · exact first_none s w hz hm h
  · have h2 := h
    unfold one at h2
    split at h2
    · rename_i c
      rw [num_at s 0 (by omega)] at c
      exact first_one s w hz hm c.1 c.2
    · split at h2
      · rename_i c
        have hl := c.2.2.1
        rw [nums_len] at hl
        rw [num_at s 0 (by omega), num_at s 1 (by omega)] at c
        exact first_two s w hl hm c.1 c.2.1 c.2.2.2
      · split at h2
        · rename_i c
          have hl := c.2.2.1
          rw [nums_len] at hl
          rw [num_at s 0 (by omega), num_at s 1 (by omega), num_at s 2 (by omega)] at c
          exact first_three s w hl hm c.1 c.2.1 c.2.2.2.1 c.2.2.2.2
        · exact absurd rfl h2
end Go.Proofs.YtjlcocalpjeghaaDoor
