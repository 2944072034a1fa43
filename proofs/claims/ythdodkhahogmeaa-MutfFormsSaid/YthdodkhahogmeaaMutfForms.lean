/- The walk of MutfForms. Nothing is claimed here. -/
import Derived.Test.YthdodkhahogmeaaMutfLaws
namespace Go.Proofs.Ythdodkhahogmeaa
open Go.RowKit

def good : List ByteArray := [⟨#[]⟩, ⟨#[1]⟩, ⟨#[127]⟩, ⟨#[192, 128]⟩, ⟨#[193, 129]⟩, ⟨#[194, 128]⟩, ⟨#[223, 191]⟩, ⟨#[224, 128, 128]⟩, ⟨#[224, 129, 129]⟩, ⟨#[239, 191, 191]⟩, ⟨#[237, 160, 128]⟩]
def bad : List ByteArray := [⟨#[0]⟩, ⟨#[128]⟩, ⟨#[191]⟩, ⟨#[192]⟩, ⟨#[192, 0]⟩, ⟨#[224, 128]⟩, ⟨#[224, 128, 127]⟩, ⟨#[240, 159, 152, 128]⟩, ⟨#[255]⟩, ⟨#[97, 195]⟩]
theorem good_all : ∀ k : Fin 11, (good[k.val]?).isSome = true ∧ (dec (nums ((good[k.val]?).getD ⟨#[]⟩))).isSome = true ∧ ((good[k.val]?).getD ⟨#[]⟩).size ≤ 10 := by decide +kernel
theorem bad_all : ∀ k : Fin 10, (bad[k.val]?).isSome = true ∧ (dec (nums ((bad[k.val]?).getD ⟨#[]⟩))) = none ∧ ((bad[k.val]?).getD ⟨#[]⟩).size ≤ 10 := by decide +kernel
theorem good_at (k : Nat) (h : k < 11) : ∃ s u, good[k]? = some s ∧ dec (nums s) = some u ∧ s.size ≤ 10 := by
  obtain ⟨h1, h2, h3⟩ := good_all ⟨k, h⟩
  dsimp only at h1 h2 h3
  obtain ⟨s, hs⟩ := Option.isSome_iff_exists.1 h1
  rw [hs] at h2 h3
  obtain ⟨u, hu⟩ := Option.isSome_iff_exists.1 h2
  exact ⟨s, u, hs, hu, h3⟩
theorem bad_at (k : Nat) (h : k < 10) : ∃ s, bad[k]? = some s ∧ dec (nums s) = none ∧ s.size ≤ 10 := by
  obtain ⟨h1, h2, h3⟩ := bad_all ⟨k, h⟩
  dsimp only at h1 h2 h3
  obtain ⟨s, hs⟩ := Option.isSome_iff_exists.1 h1
  rw [hs] at h2 h3
  exact ⟨s, hs, h2, h3⟩

set_option maxHeartbeats 1000000 in
set_option maxRecDepth 100000 in
theorem MutfForms_walk (w : World) : Calls Try.prog 6 #[] w fun e w' => e = .returned (.bool true) ∧ Below w.heap.size w w' := by
  go_enter Try.func6, Try.ntmps6
  go_wp2_with fail
  have hat : At (w.alloc (.cells (good.map Value.string).toArray 9)) w.heap.size 9 (good.map Value.string) := At.new _ _ _
  go_loopw [2, 3, 4] (fun iv _ _ wr => ∃ k : Nat, k ≤ 11 ∧ iv = .int .i64 k ∧ At wr w.heap.size 9 (good.map Value.string) ∧ Below w.heap.size w wr) (fun iv _ _ _ => 11 - (intOf iv).toNat)
  case atStart => exact ⟨0, by omega, rfl, hat, (Below.refl _ _).alloc (Nat.le_refl _) _⟩
  case round =>
    obtain ⟨k, hk, rfl, hat, hb⟩ := hrel
    have Hat := hide hat
    have Hb := hide hb
    clear hb
    by_cases hlt : k < 11
    · obtain ⟨s, u, hs, hd, hz⟩ := good_at k hlt
      have hcell : wr.cell? ⟨w.heap.size, k, none⟩ = some (.string s) := by rw [hat.cell, List.getElem?_map, hs]; rfl
      have HD : Hid (∀ W, Calls Try.prog 9 #[.string s] W (Decoded (some u) W)) := hide fun W => by
        have := decode_any s W (by omega)
        rwa [hd] at this
      clear hat hs hd
      go_wp2_with fail
      refine (HD.out _).mono ?_
      rintro e w3 ⟨hb3, ⟨h, _⟩ | ⟨u3, v, h, rfl, hown⟩⟩
      · cases h
      · cases h
        have Hb3 := hide (Hb.out.trans (hb3.mono Hb.out.size))
        have Hat3 := hide (Hat.out.below hb3 Hat.out.lt)
        clear hb3 hown
        go_wp2_with fail
        go_roundw
        case rel => exact ⟨k + 1, by omega, by go_num, Hat3.out, Hb3.out⟩
        case measure => simp [intOf]; omega
    · obtain rfl : k = 11 := by omega
      clear hat
      go_wp2_with fail
      have hat : At (wr.alloc (.cells (bad.map Value.string).toArray 9)) wr.heap.size 9 (bad.map Value.string) := At.new _ _ _
      have hb : Below w.heap.size w (wr.alloc (.cells (bad.map Value.string).toArray 9)) := Hb.out.alloc Hb.out.size _
      obtain ⟨wo, hwo⟩ : ∃ wo : World, wo = wr := ⟨_, rfl⟩
      subst hwo
      go_loopw [6, 7, 8] (fun iv _ _ wr => ∃ k : Nat, k ≤ 10 ∧ iv = .int .i64 k ∧ At wr wo.heap.size 9 (bad.map Value.string) ∧ Below w.heap.size w wr) (fun iv _ _ _ => 10 - (intOf iv).toNat)
      case atStart => exact ⟨0, by omega, rfl, hat, hb⟩
      case round =>
        obtain ⟨k, hk, rfl, hat, hb⟩ := hrel
        have Hat := hide hat
        have Hb := hide hb
        clear hb
        by_cases hlt : k < 10
        · obtain ⟨s, hs, hd, hz⟩ := bad_at k hlt
          have hcell : wr.cell? ⟨wo.heap.size, k, none⟩ = some (.string s) := by rw [hat.cell, List.getElem?_map, hs]; rfl
          have HD : Hid (∀ W, Calls Try.prog 9 #[.string s] W (Decoded none W)) := hide fun W => by
            have := decode_any s W (by omega)
            rwa [hd] at this
          clear hat hs hd
          go_wp2_with fail
          refine (HD.out _).mono ?_
          rintro e w3 ⟨hb3, ⟨h, rfl⟩ | ⟨u3, v, h, rfl, hown⟩⟩
          · have Hb3 := hide (Hb.out.trans (hb3.mono Hb.out.size))
            have Hat3 := hide (Hat.out.below hb3 Hat.out.lt)
            clear hb3 h
            go_wp2_with fail
            go_roundw
            case rel => first | exact ⟨k + 1, by omega, by go_num, Hat3.out, Hb3.out⟩ | ((repeat apply Exists.intro); exact ⟨⟨k + 1, by omega, by go_num, Hat3.out, Hb3.out⟩, rfl⟩)
            case measure => simp [intOf]; omega
          · cases h
        · obtain rfl : k = 10 := by omega
          clear hat
          go_wp2_with (go_at_call 7; refine (mbegun_is _).mono ?_; rintro e w4 ⟨rfl, hb4⟩)
          go_ret
          exact ⟨rfl, Hb.out.trans (hb4.mono Hb.out.size)⟩
end Go.Proofs.Ythdodkhahogmeaa
