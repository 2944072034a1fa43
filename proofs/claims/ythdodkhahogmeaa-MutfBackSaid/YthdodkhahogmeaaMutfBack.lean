/- The walk of MutfBack. Nothing is claimed here. -/
import Derived.Test.YthdodkhahogmeaaMutfLaws
import Derived.Deep.RegionWith
namespace Go.Proofs.Ythdodkhahogmeaa
open Go.RowKit

/-- Whatever stood there stands there still. -/
def Later (w w' : World) : Prop := Below w.heap.size w w'
theorem Later.refl (w : World) : Later w w := Below.refl _ _
theorem Later.trans {a b c : World} (h : Later a b) (k : Later b c) : Later a c := Below.trans h (Below.mono k h.size)

/-- A slice that will be the string S, whatever is made later. -/
def Strs (w0 w : World) (S : ByteArray) (e : Ending) (w' : World) : Prop :=
  ∃ A n c, e = .returned (.slice A n c) ∧ Later w w' ∧ Later w0 w' ∧ ∀ W, Later w' W → (convert 30 9 (.slice A n c)).run Try.prog W = .ok (.string S) W
theorem strs_of {w0 w w' : World} {ys : List Int} {e : Ending} (h0 : Later w0 w) (h : Made8 w ys e w') : Strs w0 w (strOfNums ys) e w' := by
  obtain ⟨v, rfl, hown, hb⟩ := h
  obtain ⟨A, c, rfl, hs, _⟩ := own_src hown
  exact ⟨A, _, c, rfl, hb, h0.trans hb, fun W hW => str_of (c := c) (hs.rd.below hW)⟩

set_option maxHeartbeats 4000000 in
set_option maxRecDepth 100000 in
theorem MutfBack_long (a0 : Option Addr) (len0 cap0 : Nat) (z0 : List Int) (w : World) (w0 : Came .u16 w a0 len0 cap0 z0) (hlong : 100 < len0) :
    Calls Try.prog 4 #[.slice a0 len0 cap0] w fun e w' => e = .returned (.bool true) ∧ Below w.heap.size w w' := by
  obtain ⟨hlc, hcm, hnil⟩ := came_lens w0
  unfold maxLen at hcm
  have hw := came_wf w0
  obtain ⟨x, rfl⟩ : ∃ x, a0 = some x := by
    cases a0 with
    | none => have := hnil rfl; omega
    | some x => exact ⟨x, rfl⟩
  clear hnil
  have hrd := came_cells w0 100 (by omega)
  have hch : IsChars (z0.take 100) := fun x hx => by
    have := hw x (List.mem_of_mem_take hx)
    have h2 : 0 ≤ x ∧ x ≤ 65535 := by simpa [Lit.wf, IntKind.min, IntKind.max, IntKind.signed, IntKind.bits] using this
    omega
  generalize z0.take 100 = us at *
  have HE : Hid (∀ W, Later w W → Calls Try.prog 12 #[.slice (some x) 100 cap0] W fun e w' => e = .returned (.string (strOfNums (enc us))) ∧ Below W.heap.size W w') := hide fun W h =>
    encode_any (some x) 100 cap0 us W w.heap.size (hrd.below h) h.size hch (by omega)
  have HRE : Hid (∀ W, Later w W → Calls Try.prog 13 #[.slice (some x) 100 cap0] W fun e w' => e = .returned (.string (strOfNums (enc us))) ∧ Below W.heap.size W w') := hide fun W h =>
    rencode_any (some x) 100 cap0 us W w.heap.size (hrd.below h) h.size hch (by omega)
  have HO : Hid (∀ W, Later w W → Calls Try.prog 14 #[.slice (some x) 100 cap0] W (Strs w W (strOfNums (outs us)))) := hide fun W h =>
    (out_any (some x) 100 cap0 us W w.heap.size (hrd.below h) h.size hch (by omega)).mono fun e w' hh => strs_of h hh
  have HRO : Hid (∀ W, Later w W → Calls Try.prog 15 #[.slice (some x) 100 cap0] W (Strs w W (strOfNums (outs us)))) := hide fun W h =>
    (rout_any (some x) 100 cap0 us W w.heap.size (hrd.below h) h.size hch (by omega)).mono fun e w' hh => strs_of h hh
  have hel : (enc us).length ≤ 300 := by have := enc_len us; have h2 := hrd.1; rw [cells_len] at h2; omega
  have hen : nums (strOfNums (enc us)) = enc us := nums_of _ (enc_bytes hch)
  have hsz : (strOfNums (enc us)).size ≤ 300 := by rw [strOfNums_size]; exact hel
  have hdec : dec (nums (strOfNums (enc us))) = some us := by rw [hen]; exact dec_enc us hch
  have hul : us.length = 100 := by have h2 := hrd.1; rwa [cells_len] at h2
  have Hrd := hide hrd
  have Hul := hide hul
  clear hen hel hul hw w0 hrd hch
  generalize strOfNums (enc us) = S at *
  generalize strOfNums (outs us) = T at *
  have HD : Hid (∀ W, Calls Try.prog 9 #[.string S] W (Decoded (some us) W)) := hide fun W => by
    have := decode_any S W (by omega)
    rwa [hdec] at this
  clear hdec
  go_enter Try.func4, Try.ntmps4
  go_wp2_with fail
  refine (mbegun_is w).mono ?_
  rintro e w1 ⟨rfl, hb1⟩
  go_wp2_with fail
  refine (HE.out _ hb1).mono ?_
  rintro e w2 ⟨rfl, hb2⟩
  have hb2' : Later w w2 := Later.trans hb1 hb2
  go_wp2_with fail
  refine (HD.out _).mono ?_
  rintro e w3 ⟨hb3, ⟨h, _⟩ | ⟨u, v, h, rfl, hown⟩⟩
  · cases h
  · cases h
    obtain ⟨A, c, rfl, hs, _⟩ := own_src hown
    have hl3 : Later w w3 := Later.trans hb2' hb3
    have Hr := hide hs.rd
    have HS : Hid (∀ W, Later w3.drew W → Calls Try.prog 11 #[.slice (some x) 100 cap0, .slice A us.length c] W fun e w' => e = .returned (.bool true) ∧ Later W w') := hide fun W h => by
      rw [Hul.out] at Hr ⊢
      refine (same_yes (some x) A 100 cap0 c us W _ _ (Hrd.out.below (Later.trans (below_drewN hl3 1) h)) ((Rd.drewN Hr.out 1).below h) (by omega)).mono ?_
      rintro e w' ⟨he, m, rfl⟩
      exact ⟨he, below_drewN (Below.refl _ _) m⟩
    have HL3 : Hid (Later w w3.drew) := hide (below_drewN hl3 1)
    clear hb1 hb2 hb2' hb3 hown hs hl3
    go_wp2_with fail
    go_region_with (first
      | (go_at_call 13; go_loud (refine (HRE.out _ HL3.out).mono ?_); rintro e w4 ⟨rfl, hb4⟩)
      | (go_at_call 11; go_loud (refine (HS.out _ hb4).mono ?_); rintro e w5 ⟨rfl, hb5⟩)
      | (go_at_call 14; go_loud (refine (HO.out _ (Later.trans HL3.out (Later.trans hb4 hb5))).mono ?_); rintro e w6 ⟨A6, n6, c6, rfl, k6, hb6, hc6⟩; have k66 := Later.refl w6)
      | (go_at_call 15; go_loud (refine (HRO.out _ hb6).mono ?_); rintro e w7 ⟨A7, n7, c7, rfl, k7, hb7, hc7⟩; have k77 := Later.refl w7))
    all_goals
      go_wp2
      go_ret
      exact ⟨rfl, hb7⟩

set_option maxHeartbeats 4000000 in
set_option maxRecDepth 100000 in
theorem MutfBack_short (a0 : Option Addr) (len0 cap0 : Nat) (z0 : List Int) (w : World) (w0 : Came .u16 w a0 len0 cap0 z0) (hshort : len0 ≤ 100) :
    Calls Try.prog 4 #[.slice a0 len0 cap0] w fun e w' => e = .returned (.bool true) ∧ Below w.heap.size w w' := by
  obtain ⟨hlc, hcm, hnil⟩ := came_lens w0
  unfold maxLen at hcm
  have hw := came_wf w0
  clear hnil
  have hrd := came_cells w0 len0 (by omega)
  have hch : IsChars (z0.take len0) := fun x hx => by
    have := hw x (List.mem_of_mem_take hx)
    have h2 : 0 ≤ x ∧ x ≤ 65535 := by simpa [Lit.wf, IntKind.min, IntKind.max, IntKind.signed, IntKind.bits] using this
    omega
  generalize z0.take len0 = us at *
  have HE : Hid (∀ W, Later w W → Calls Try.prog 12 #[.slice a0 len0 cap0] W fun e w' => e = .returned (.string (strOfNums (enc us))) ∧ Below W.heap.size W w') := hide fun W h =>
    encode_any a0 len0 cap0 us W w.heap.size (hrd.below h) h.size hch (by omega)
  have HRE : Hid (∀ W, Later w W → Calls Try.prog 13 #[.slice a0 len0 cap0] W fun e w' => e = .returned (.string (strOfNums (enc us))) ∧ Below W.heap.size W w') := hide fun W h =>
    rencode_any a0 len0 cap0 us W w.heap.size (hrd.below h) h.size hch (by omega)
  have HO : Hid (∀ W, Later w W → Calls Try.prog 14 #[.slice a0 len0 cap0] W (Strs w W (strOfNums (outs us)))) := hide fun W h =>
    (out_any a0 len0 cap0 us W w.heap.size (hrd.below h) h.size hch (by omega)).mono fun e w' hh => strs_of h hh
  have HRO : Hid (∀ W, Later w W → Calls Try.prog 15 #[.slice a0 len0 cap0] W (Strs w W (strOfNums (outs us)))) := hide fun W h =>
    (rout_any a0 len0 cap0 us W w.heap.size (hrd.below h) h.size hch (by omega)).mono fun e w' hh => strs_of h hh
  have hel : (enc us).length ≤ 300 := by have := enc_len us; have h2 := hrd.1; rw [cells_len] at h2; omega
  have hen : nums (strOfNums (enc us)) = enc us := nums_of _ (enc_bytes hch)
  have hsz : (strOfNums (enc us)).size ≤ 300 := by rw [strOfNums_size]; exact hel
  have hdec : dec (nums (strOfNums (enc us))) = some us := by rw [hen]; exact dec_enc us hch
  have hul : us.length = len0 := by have h2 := hrd.1; rwa [cells_len] at h2
  have Hrd := hide hrd
  have Hul := hide hul
  clear hen hel hul hw w0 hrd hch
  generalize strOfNums (enc us) = S at *
  generalize strOfNums (outs us) = T at *
  have HD : Hid (∀ W, Calls Try.prog 9 #[.string S] W (Decoded (some us) W)) := hide fun W => by
    have := decode_any S W (by omega)
    rwa [hdec] at this
  clear hdec
  go_enter Try.func4, Try.ntmps4
  go_wp2_with fail
  refine (mbegun_is w).mono ?_
  rintro e w1 ⟨rfl, hb1⟩
  go_wp2_with fail
  refine (HE.out _ hb1).mono ?_
  rintro e w2 ⟨rfl, hb2⟩
  have hb2' : Later w w2 := Later.trans hb1 hb2
  go_wp2_with fail
  refine (HD.out _).mono ?_
  rintro e w3 ⟨hb3, ⟨h, _⟩ | ⟨u, v, h, rfl, hown⟩⟩
  · cases h
  · cases h
    obtain ⟨A, c, rfl, hs, _⟩ := own_src hown
    have hl3 : Later w w3 := Later.trans hb2' hb3
    have Hr := hide hs.rd
    have HS : Hid (∀ W, Later w3.drew W → Calls Try.prog 11 #[.slice a0 len0 cap0, .slice A us.length c] W fun e w' => e = .returned (.bool true) ∧ Later W w') := hide fun W h => by
      rw [Hul.out] at Hr ⊢
      refine (same_yes a0 A len0 cap0 c us W _ _ (Hrd.out.below (Later.trans (below_drewN hl3 1) h)) ((Rd.drewN Hr.out 1).below h) (by omega)).mono ?_
      rintro e w' ⟨he, m, rfl⟩
      exact ⟨he, below_drewN (Below.refl _ _) m⟩
    have HL3 : Hid (Later w w3.drew) := hide (below_drewN hl3 1)
    clear hb1 hb2 hb2' hb3 hown hs hl3
    go_wp2_with fail
    go_region_with (first
      | (go_at_call 13; go_loud (refine (HRE.out _ HL3.out).mono ?_); rintro e w4 ⟨rfl, hb4⟩)
      | (go_at_call 11; go_loud (refine (HS.out _ hb4).mono ?_); rintro e w5 ⟨rfl, hb5⟩)
      | (go_at_call 14; go_loud (refine (HO.out _ (Later.trans HL3.out (Later.trans hb4 hb5))).mono ?_); rintro e w6 ⟨A6, n6, c6, rfl, k6, hb6, hc6⟩; have k66 := Later.refl w6)
      | (go_at_call 15; go_loud (refine (HRO.out _ hb6).mono ?_); rintro e w7 ⟨A7, n7, c7, rfl, k7, hb7, hc7⟩; have k77 := Later.refl w7))
    all_goals
      go_wp2
      go_ret
      exact ⟨rfl, hb7⟩

theorem MutfBack_walk (a0 : Option Addr) (len0 cap0 : Nat) (z0 : List Int) (w : World) (w0 : Came .u16 w a0 len0 cap0 z0) :
    Calls Try.prog 4 #[.slice a0 len0 cap0] w fun e w' => e = .returned (.bool true) ∧ Below w.heap.size w w' := by
  rcases Nat.lt_or_ge 100 len0 with h | h
  · exact MutfBack_long a0 len0 cap0 z0 w w0 h
  · exact MutfBack_short a0 len0 cap0 z0 w w0 h
end Go.Proofs.Ythdodkhahogmeaa
