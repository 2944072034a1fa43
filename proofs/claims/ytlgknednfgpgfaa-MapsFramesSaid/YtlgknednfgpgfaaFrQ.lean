/- The document's frames: locals without what fills them up; operands as entries. Nothing is claimed here. -/
import Derived.Test.YtlgknednfgpgfaaFrR
namespace Go.Proofs.Ytlgknednfgpgfaa
open Go.RowKit

theorem keepF_down (e : List FT) (k : Nat) (h : (e.getD k noF).kind = 0) : keepF e (k + 1) = keepF e k := if_pos h
theorem keepF_stop (e : List FT) (k : Nat) (h : (e.getD k noF).kind ≠ 0) : keepF e (k + 1) = k + 1 := if_neg h

set_option maxHeartbeats 4000000 in
set_option maxRecDepth 100000 in
theorem rfcut_any (A : Option Addr) (n c : Nat) (l : List FT) (w : World) (B : Nat) (h : RdF w B A n (wideF 0 l)) (hB : B ≤ w.heap.size) (hn : n ≤ 100000) :
    Calls Try.prog 22 #[.slice A n c] w fun e w' => ∃ V, e = .returned V ∧ w'.ownsRow w.heap.size 37 3 V (keepF l l.length) (fcells (cutF l)) ∧ Below w.heap.size w w' := by
  have HH := hide h
  have hl : wordsF l = n := by have := h.1; rwa [wideF_len] at this
  have hge := wordsF_ge l
  clear h
  go_enter Try.func22, Try.ntmps22
  go_wp2_with fail
  go_loopw [3, 4] (fun v iv wr => ∃ j : Nat, j ≤ l.length ∧ iv = .int .i64 (wordsF (l.take j) : Nat) ∧ wr.ownsRow w.heap.size 37 3 v j (fcells (l.take j)) ∧ Below w.heap.size w wr) (fun _ iv _ => n - (intOf iv).toNat)
  case atStart => exact ⟨0, Nat.zero_le _, rfl, World.ownsRow_nil _ _ _ _, Below.refl _ _⟩
  case round =>
    obtain ⟨j, hj, rfl, hown, hbel⟩ := hrel
    have hz := hbel.size
    have HB := hide hbel
    have HO2 := hide hown
    clear hbel hown
    by_cases hlt : j < l.length
    · have h3 := wordsF_take l j hlt
      have h6 := words_lt l j hlt
      have hT := take_snoc l noF (j := j) hlt
      have ha1 := wide_at1 l j hlt
      obtain ⟨g, o, rfl, hg, c0, c1, c2⟩ := (HH.out.below (HB.out.mono hB)).cells3 (j := wordsF (l.take j)) (by omega)
      rw [wide_at l j hlt] at c0 c1 c2
      have HX : Hid (∀ W, Below w.heap.size w W → W.cell? ⟨g, o + wordsF (l.take j) * 3, none⟩ = some (.int .i64 (l.getD j noF).kind)) := hide fun W hW => by
        obtain ⟨g', o', he, _, d0, _, _⟩ := (HH.out.below (hW.mono hB)).cells3 (j := wordsF (l.take j)) (by omega)
        cases he
        rwa [wide_at l j hlt] at d0
      have hx2 : (l.getD j noF).kind = 4 → wordsF (l.take j) + 1 < n := fun h4 => by have := (ha1 h4).2; omega
      have hgB : g < wr.heap.size := by omega
      have H3 := hide h3
      have HT := hide hT
      generalize hx : wordsF (l.take j) = x at *
      clear h3 hT ha1
      generalize l.getD j noF = v at *
      obtain ⟨vk, vn, va⟩ := v
      simp only at c0 c1 c2 hx2
      have hxn : (x : Int) < (n : Int) := by omega
      by_cases h4 : vk = 4
      · subst h4
        have H4 : Hid (wordsF (l.take (j + 1)) = x + 2) := hide (by rw [H3.out, if_pos rfl])
        have hx3 := hx2 rfl
        have hxi : ((x : Int) + 1) < (n : Int) := by omega
        clear H3 hx2
        go_wp2_with (at_builtin; refine app_vt _ rfl (.tmp 12) (.tmp 17) rfl w.heap.size _ _ _ rfl HO2.out ⟨4, vn, va⟩ _ (by (first | omega | (simp only [World.size_alloc]; omega) | (simp; done) | (simp; omega))) rfl (by omega) (by (first | omega | (simp only [World.size_alloc]; omega) | (simp; done) | (simp; omega))) ?_; intro v2 w3 hown3 hg3 hb3; have HO3 := hide hown3; have HB3 := hide (hb3 _ _ HB.out (by (first | omega | (simp only [World.size_alloc]; omega) | (simp; done) | (simp; omega))) (Nat.le_refl _)); have hz3 := HB3.out.size; have e0 := HX.out _ HB3.out; clear hown3 hg3 hb3)
        go_roundw
        case rel => exact ⟨j + 1, by omega, int_eq (by rw [H4.out]; omega), by rw [HT.out]; exact HO3.out, HB3.out⟩
        case measure => simp [intOf]; omega
      · have h4' : (vk == 4) = false := by simpa using h4
        have H4 : Hid (wordsF (l.take (j + 1)) = x + 1) := hide (by rw [H3.out, if_neg h4])
        clear H3 hx2 h4
        go_wp2_with (at_builtin; refine app_vt _ rfl (.tmp 12) (.tmp 17) rfl w.heap.size _ _ _ rfl HO2.out ⟨vk, vn, va⟩ _ (by (first | omega | (simp only [World.size_alloc]; omega) | (simp; done) | (simp; omega))) rfl (by omega) (by (first | omega | (simp only [World.size_alloc]; omega) | (simp; done) | (simp; omega))) ?_; intro v2 w3 hown3 hg3 hb3; have HO3 := hide hown3; have HB3 := hide (hb3 _ _ HB.out (by (first | omega | (simp only [World.size_alloc]; omega) | (simp; done) | (simp; omega))) (Nat.le_refl _)); have hz3 := HB3.out.size; have e0 := HX.out _ HB3.out; clear hown3 hg3 hb3)
        go_roundw
        case rel => exact ⟨j + 1, by omega, int_eq (by rw [H4.out]; omega), by rw [HT.out]; exact HO3.out, HB3.out⟩
        case measure => simp [intOf]; omega
    · obtain rfl : j = l.length := by omega
      have hT : l.take l.length = l := List.take_of_length_le (Nat.le_refl _)
      rw [hT] at HO2 ⊢
      have hww : ¬ ((wordsF l : Int) < (n : Int)) := by omega
      have hll : l.length ≤ 100000 := by omega
      clear hT
      obtain ⟨hlc, hoc⟩ := orow_cases HO2.out
      obtain ⟨VA, VC, rfl⟩ := len_own HO2.out
      go_wp2_with fail
      go_loopw [5] (fun iv w2 => w2 = wr ∧ ∃ k : Nat, k ≤ l.length ∧ iv = .int .i64 k ∧ keepF l l.length = keepF l k) (fun iv _ => (intOf iv).toNat)
      case atStart => exact ⟨rfl, l.length, Nat.le_refl _, rfl, rfl⟩
      case round =>
        obtain ⟨rfl, k, hk, rfl, hkk⟩ := hrel
        have HKK := hide hkk
        clear hkk
        rcases Nat.eq_zero_or_pos k with h0 | h0
        · subst h0
          have HK0 : Hid (keepF l l.length = 0) := hide HKK.out
          rcases hoc with ⟨he, hl0, hln⟩ | ⟨g, cc, he, hc1, hc2, hc3, hc4, hc5⟩
          · simp only [Value.slice.injEq] at he
            obtain ⟨rfl, -, rfl⟩ := he
            go_wp2_with fail
            go_ret
            refine ⟨.slice none 0 0, rfl, ?_, HB.out⟩
            unfold cutF
            rw [HK0.out]
            exact World.ownsRow_nil _ _ _ _
          · cases he
            have HO5 := hide (hc5 0 (Nat.zero_le _))
            clear hc5 HO2
            go_wp2_with fail
            go_ret
            refine ⟨.slice (some ⟨g, 0, none⟩) 0 VC, rfl, ?_, HB.out⟩
            unfold cutF
            rw [HK0.out]
            exact HO5.out
        · obtain ⟨q, rfl⟩ : ∃ q, k = q + 1 := ⟨k - 1, by omega⟩
          rcases hoc with ⟨he, hl0, hln⟩ | ⟨g, cc, he, hc1, hc2, hc3, hc4, hc5⟩
          · omega
          · cases he
            obtain ⟨A5, c5, he5, hr5, -, -⟩ := orow_rdF HO2.out rfl
            cases he5
            obtain ⟨g', o', he6, _, d0, d1, d2⟩ := hr5.cells3 (j := q) (by omega)
            cases he6
            simp only [Nat.zero_add] at d0 d1 d2
            have hq1 : (0 : Int) < ((q + 1 : Nat) : Int) := by omega
            have hq2 : ((q + 1 : Nat) : Int) - 1 = (q : Int) := by omega
            have hq3 : (q : Int) < (l.length : Int) := by omega
            have HO5 := hide (hc5 (q + 1) hk)
            clear hr5 hc5 HO2
            by_cases hk0 : (l.getD q noF).kind = 0
            · have HK5 : Hid (keepF l l.length = keepF l q) := hide (by rw [HKK.out, keepF_down l q hk0])
              rw [hk0] at d0
              clear hk0 HKK
              go_wp2_with fail
              go_roundw
              case rel => exact ⟨trivial, q, by omega, by go_num, HK5.out⟩
              case measure => simp only [intOf]; omega
            · have HK5 : Hid (keepF l l.length = q + 1) := hide (by rw [HKK.out, keepF_stop l q hk0])
              have hk0' : ((l.getD q noF).kind == 0) = false := by simpa using hk0
              clear HKK
              generalize (l.getD q noF).kind = vk at *
              clear hk0
              go_wp2_with fail
              go_ret
              refine ⟨.slice (some ⟨g, 0, none⟩) (q + 1) VC, rfl, ?_, HB.out⟩
              unfold cutF
              rw [HK5.out]
              exact HO5.out

/-- Operands as entries. -/
def narrowF (l : List FT) : List FT := l.filter (fun v => v.kind != 99)
theorem narrow_wide (l : List FT) (h : ∀ v ∈ l, v.kind ≠ 99) : narrowF (wideF 99 l) = l := by
  induction l with
  | nil => rfl
  | cons v r ih =>
    have hv := h v (by simp)
    have ih := ih (fun x hx => h x (List.mem_cons_of_mem _ hx))
    unfold narrowF wideF at ih ⊢
    rw [List.flatMap_cons, List.filter_append, ih]
    unfold wide1
    split
    · simp [hv]
    · simp [hv]

set_option maxHeartbeats 4000000 in
set_option maxRecDepth 100000 in
theorem rfNarrow_any (A : Option Addr) (n c : Nat) (l : List FT) (w : World) (B : Nat) (h : RdF w B A n l) (hB : B ≤ w.heap.size) (hn : n ≤ 100000) :
    Calls Try.prog 13 #[.slice A n c] w fun e w' => ∃ V, e = .returned V ∧ w'.ownsRow w.heap.size 37 3 V (narrowF l).length (fcells (narrowF l)) ∧ Below w.heap.size w w' := by
  have HH := hide h
  have hl := h.1
  clear h
  go_enter Try.func13, Try.ntmps13
  go_wp2_with fail
  go_loopw [3, 4] (fun v iv wr => ∃ j : Nat, j ≤ n ∧ iv = .int .i64 j ∧ wr.ownsRow w.heap.size 37 3 v (narrowF (l.take j)).length (fcells (narrowF (l.take j))) ∧ Below w.heap.size w wr) (fun _ iv _ => n - (intOf iv).toNat)
  case atStart => exact ⟨0, Nat.zero_le _, rfl, World.ownsRow_nil _ _ _ _, Below.refl _ _⟩
  case round =>
    obtain ⟨j, hj, rfl, hown, hbel⟩ := hrel
    have hz := hbel.size
    have HB := hide hbel
    have HO2 := hide hown
    clear hbel hown
    have h4 : (narrowF (l.take j)).length ≤ n := by
      have := List.length_filter_le (fun v : FT => v.kind != 99) (l.take j)
      unfold narrowF
      rw [List.length_take] at this; omega
    by_cases hlt : j < n
    · have hT := take_snoc l noF (j := j) (by omega)
      obtain ⟨g, o, rfl, hg, c0, c1, c2⟩ := (HH.out.below (HB.out.mono hB)).cells3 hlt
      have hgB : g < wr.heap.size := by omega
      generalize l.getD j noF = v at *
      obtain ⟨vk, vn, va⟩ := v
      simp only at c0 c1 c2
      have HT := hide hT
      clear hT
      by_cases hk : vk = 99
      · subst hk
        have HW : Hid (narrowF (l.take (j + 1)) = narrowF (l.take j)) := hide (by rw [HT.out]; unfold narrowF; simp)
        clear HT
        go_wp2_with fail
        go_roundw
        case rel => exact ⟨j + 1, by omega, by go_num, by rw [HW.out]; exact HO2.out, HB.out⟩
        case measure => simp [intOf]; omega
      · have hk' : (vk != 99) = true := by simpa using hk
        have HW : Hid (narrowF (l.take (j + 1)) = narrowF (l.take j) ++ [⟨vk, vn, va⟩]) := hide (by rw [HT.out]; unfold narrowF; simp [hk])
        clear HT hk
        go_wp2_with (at_builtin; refine app_vt _ rfl (.tmp 17) (.tmp 22) rfl w.heap.size _ _ _ rfl HO2.out ⟨vk, vn, va⟩ _ (by (first | omega | (simp only [World.size_alloc]; omega) | (simp; done) | (simp; omega))) rfl (by omega) (by (first | omega | (simp only [World.size_alloc]; omega) | (simp; done) | (simp; omega))) ?_; intro v2 w3 hown3 hg3 hb3; have HO3 := hide hown3; have HB3 := hide (hb3 _ _ HB.out (by (first | omega | (simp only [World.size_alloc]; omega) | (simp; done) | (simp; omega))) (Nat.le_refl _)); have hz3 := HB3.out.size; clear hown3 hg3 hb3)
        go_roundw
        case rel => exact ⟨j + 1, by omega, by go_num, by rw [HW.out, List.length_append]; exact HO3.out, HB3.out⟩
        case measure => simp [intOf]; omega
    · obtain rfl : j = n := by omega
      have HN : Hid (l.take j = l) := hide (List.take_of_length_le (by omega))
      go_wp2_with fail
      go_ret
      exact ⟨_, rfl, by have := HO2.out; rw [HN.out] at this; exact this, HB.out⟩
end Go.Proofs.Ytlgknednfgpgfaa
