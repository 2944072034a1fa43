/- The locals that a table counts: package stackmap. Nothing is claimed here. -/
import Derived.Test.YtlgknednfgpgfaaFrA
namespace Go.Proofs.Ytlgknednfgpgfaa
open Go.RowKit

theorem orow_cases {w : World} {base : Nat} {v : Value} {n : Nat} {l : List FT} (h : w.ownsRow base 37 3 v n (fcells l)) : l.length = n ∧
    ((v = .slice none 0 0 ∧ n = 0 ∧ l = []) ∨ ∃ g c, v = .slice (some ⟨g, 0, none⟩) n c ∧ n ≤ c ∧ c ≤ maxLen ∧ base ≤ g ∧ g < w.heap.size ∧ ∀ k, k ≤ n → w.ownsRow base 37 3 (.slice (some ⟨g, 0, none⟩) k c) k (fcells (l.take k))) := by
  have hl : l.length = n := by have := h.1; rw [fcells_len] at this; omega
  refine ⟨hl, ?_⟩
  obtain ⟨_, ⟨rfl, rfl⟩ | ⟨g, cap, cur, rfl, hb, hg, hnc, hm, hs, ht⟩⟩ := h
  · exact .inl ⟨rfl, rfl, List.eq_nil_of_length_eq_zero hl⟩
  · refine .inr ⟨g, cap, rfl, hnc, hm, hb, (Array.getElem?_eq_some_iff.1 hg).1, fun k hk => ⟨by rw [fcells_len, List.length_take]; omega, .inr ⟨g, cap, cur, rfl, hb, hg, by omega, hm, hs, ?_⟩⟩⟩
    rw [fcells_take, ← ht, List.take_take, Nat.min_eq_left (by omega)]
theorem wide_split (e : List FT) (j : Nat) (hj : j < e.length) : wideF 0 e = wideF 0 (e.take j) ++ (wide1 0 (e.getD j noF) ++ wideF 0 (e.drop (j + 1))) := by
  conv => lhs; rw [← List.take_append_drop (j + 1) e]
  rw [wideF_app, take_snoc e noF hj, wideF_app, wideF_one, List.append_assoc]
theorem wide_at (e : List FT) (j : Nat) (hj : j < e.length) : (wideF 0 e).getD (wordsF (e.take j)) noF = e.getD j noF := by
  rw [wide_split e j hj, List.getD, List.getElem?_append_right (by rw [wideF_len]; exact Nat.le_refl _), wideF_len, Nat.sub_self]
  unfold wide1; split <;> rfl
theorem wide_at1 (e : List FT) (j : Nat) (hj : j < e.length) (h4 : (e.getD j noF).kind = 4) : (wideF 0 e).getD (wordsF (e.take j) + 1) noF = noF ∧ wordsF (e.take j) + 1 < wordsF e := by
  have hs := wide_split e j hj
  rw [wide_four _ h4] at hs
  constructor
  · rw [hs, List.getD, List.getElem?_append_right (by rw [wideF_len]; omega), wideF_len, show wordsF (e.take j) + 1 - wordsF (e.take j) = 1 by omega]
    rfl
  · have : (wideF 0 e).length = wordsF e := wideF_len 0 e
    rw [← this, hs]
    simp only [List.length_append, wideF_len, List.length_cons]; omega
theorem words_lt (e : List FT) (j : Nat) (hj : j < e.length) : wordsF (e.take j) < wordsF e := by
  have h1 := wordsF_take e j hj
  have h2 := wordsF_take_le e (j + 1)
  split at h1 <;> omega

set_option maxHeartbeats 4000000 in
set_option maxRecDepth 100000 in
theorem smcounted_any (A : Option Addr) (n c : Nat) (l : List FT) (hb : ∀ v ∈ l, bareF v = v) (w : World) (B : Nat) (h : RdF w B A n (wideF 0 l)) (hB : B ≤ w.heap.size) (hn : n ≤ 100000) :
    Calls Try.prog 26 #[.slice A n c] w fun e w' => ∃ V, e = .returned V ∧ w'.ownsRow w.heap.size 37 3 V (keepF l l.length) (fcells (cutF l)) ∧ Below w.heap.size w w' := by
  have HH := hide h
  have hl : wordsF l = n := by have := h.1; rwa [wideF_len] at this
  have hge := wordsF_ge l
  have HBa : Hid (∀ v W, Calls Try.prog 40 #[.agg #[.int .i64 v.kind, .string (strOfNums v.name), .int .i64 v.num]] W fun e w' => e = .returned (.agg #[.int .i64 (bareF v).kind, .string (strOfNums (bareF v).name), .int .i64 (bareF v).num]) ∧ Below W.heap.size W w') := hide smbare_any
  clear h
  go_enter Try.func26, Try.ntmps26
  go_wp2_with fail
  go_loopw [3, 4, 5] (fun v cv iv wr => ∃ j : Nat, j ≤ l.length ∧ iv = .int .i64 (wordsF (l.take j) : Nat) ∧ cv = .int .i64 (keepF l j : Nat) ∧ wr.ownsRow w.heap.size 37 3 v j (fcells (l.take j)) ∧ Below w.heap.size w wr) (fun _ _ iv _ => n - (intOf iv).toNat)
  case atStart => exact ⟨0, Nat.zero_le _, rfl, rfl, World.ownsRow_nil _ _ _ _, Below.refl _ _⟩
  case round =>
    obtain ⟨j, hj, rfl, rfl, hown, hbel⟩ := hrel
    have hz := hbel.size
    have HB := hide hbel
    have HO2 := hide hown
    clear hbel hown
    by_cases hlt : j < l.length
    · have h3 := wordsF_take l j hlt
      have h5 := wordsF_take_le l (j + 1)
      have h6 := words_lt l j hlt
      have hT := take_snoc l noF (j := j) hlt
      have hv := hb _ (getD_mem hlt)
      have hk : keepF l (j + 1) = if (l.getD j noF).kind = 0 then keepF l j else j + 1 := rfl
      have ha1 := wide_at1 l j hlt
      obtain ⟨g, o, rfl, hg, c0, c1, c2⟩ := (HH.out.below (HB.out.mono hB)).cells3 (j := wordsF (l.take j)) (by omega)
      rw [wide_at l j hlt] at c0 c1 c2
      have HC1 : Hid ((l.getD j noF).kind = 4 → ∀ W, Below w.heap.size w W → W.cell? ⟨g, o + (wordsF (l.take j) + 1) * 3, none⟩ = some (.int .i64 0)) := hide fun h4 W hW => by
        obtain ⟨g', o', he, _, c0, _, _⟩ := (HH.out.below (hW.mono hB)).cells3 (j := wordsF (l.take j) + 1) (by have := (ha1 h4).2; omega)
        cases he
        rw [(ha1 h4).1] at c0
        exact c0
      have hx2 : (l.getD j noF).kind = 4 → wordsF (l.take j) + 1 < n := fun h4 => by have := (ha1 h4).2; omega
      have hgB : g < wr.heap.size := by omega
      have H3 := hide h3
      have HT := hide hT
      have HV := hide hv
      have HK := hide hk
      generalize hx : wordsF (l.take j) = x at *
      clear h3 hT hv hk ha1
      generalize l.getD j noF = v at *
      obtain ⟨vk, vn, va⟩ := v
      simp only at c0 c1 c2 hx2
      have HE := hide (HBa.out ⟨vk, vn, va⟩)
      rw [HV.out] at HE
      have HA0 := hide (At.new wr 37 [.int .i64 vk, .string (strOfNums vn), .int .i64 va])
      have HBA := hide ((Below.refl _ wr).alloc (Nat.le_refl _) (.cells #[.int .i64 vk, .string (strOfNums vn), .int .i64 va] 37))
      have HNE : Hid (some wr.heap.size ≠ u3.ownBlock) := hide (orow_new HO2.out (Nat.le_refl _))
      have hxn : (x : Int) < (n : Int) := by omega
      by_cases h4 : vk = 4
      · subst h4
        have H4 : Hid (wordsF (l.take (j + 1)) = x + 2) := hide (by rw [H3.out, if_pos rfl])
        have HK2 : Hid (keepF l (j + 1) = j + 1) := hide (by rw [HK.out, if_neg (show ¬ ((4 : Int) = 0) by decide)])
        have hx3 := hx2 rfl
        have hxi : ((x : Int) + 1) < (n : Int) := by omega
        have HX := hide (HC1.out rfl)
        clear HK H3 HC1 HV hx2 h5
        go_wp2_with (first
          | (go_at_call 40; refine (HE.out _).mono ?_; rintro e w2 ⟨rfl, hb2⟩; have HO5 := hide (orow_below HO2.out (HBA.out.trans (hb2.mono (by (first | omega | (simp only [World.size_alloc]; omega) | (simp; done) | (simp; omega)))))); have HB5 := hide (HB.out.trans ((HBA.out.trans (hb2.mono (by (first | omega | (simp only [World.size_alloc]; omega) | (simp; done) | (simp; omega))))).mono hz)); have HA5 := hide (HA0.out.below hb2 HA0.out.lt); have hz5 := HB5.out.size; have hz6 := hb2.size; simp only [World.size_alloc] at hz6; clear hb2)
          | (at_builtin; refine app_vt _ rfl (.tmp 17) (.tmp 20) rfl w.heap.size _ _ _ rfl HO5.out ⟨4, vn, va⟩ _ (by (first | omega | (simp only [World.size_alloc]; omega) | (simp; done) | (simp; omega))) rfl (by omega) (by (first | omega | (simp only [World.size_alloc]; omega) | (simp; done) | (simp; omega))) ?_; intro v3 w3 hown3 hg3 hb3; have HB3 := hide (hb3 _ _ HB5.out (by (first | omega | (simp only [World.size_alloc]; omega) | (simp; done) | (simp; omega))) (Nat.le_refl _)); obtain ⟨VA, VC, rfl⟩ := len_own hown3; have a0 : w3.cell? ⟨wr.heap.size, 0, none⟩ = some (.int .i64 4) := (HA5.out.grown hg3 (HNE.out)).cell 0; have HO3 := hide hown3; have hz3 := HB3.out.size; have a1 := HX.out _ HB3.out; clear hown3 hg3 hb3))
        go_roundw
        case rel => exact ⟨j + 1, by omega, int_eq (by rw [H4.out]; omega), int_eq (by rw [HK2.out]; omega), by rw [HT.out]; exact HO3.out, HB3.out⟩
        case measure => simp [intOf]; omega
      · have h4' : (vk == 4) = false := by simpa using h4
        have H4 : Hid (wordsF (l.take (j + 1)) = x + 1) := hide (by rw [H3.out, if_neg h4])
        by_cases h0 : vk = 0
        · have h0' : (vk != 0) = false := by simpa using h0
          have HK2 : Hid (keepF l (j + 1) = keepF l j) := hide (by rw [HK.out, if_pos h0])
          clear HK H3 HC1 HV hx2 h5 h4 h0
          go_wp2_with (first
            | (go_at_call 40; refine (HE.out _).mono ?_; rintro e w2 ⟨rfl, hb2⟩; have HO5 := hide (orow_below HO2.out (HBA.out.trans (hb2.mono (by (first | omega | (simp only [World.size_alloc]; omega) | (simp; done) | (simp; omega)))))); have HB5 := hide (HB.out.trans ((HBA.out.trans (hb2.mono (by (first | omega | (simp only [World.size_alloc]; omega) | (simp; done) | (simp; omega))))).mono hz)); have HA5 := hide (HA0.out.below hb2 HA0.out.lt); have hz5 := HB5.out.size; have hz6 := hb2.size; simp only [World.size_alloc] at hz6; clear hb2)
            | (at_builtin; refine app_vt _ rfl (.tmp 17) (.tmp 20) rfl w.heap.size _ _ _ rfl HO5.out ⟨vk, vn, va⟩ _ (by (first | omega | (simp only [World.size_alloc]; omega) | (simp; done) | (simp; omega))) rfl (by omega) (by (first | omega | (simp only [World.size_alloc]; omega) | (simp; done) | (simp; omega))) ?_; intro v3 w3 hown3 hg3 hb3; have HB3 := hide (hb3 _ _ HB5.out (by (first | omega | (simp only [World.size_alloc]; omega) | (simp; done) | (simp; omega))) (Nat.le_refl _)); obtain ⟨VA, VC, rfl⟩ := len_own hown3; have a0 : w3.cell? ⟨wr.heap.size, 0, none⟩ = some (.int .i64 vk) := (HA5.out.grown hg3 (HNE.out)).cell 0; have HO3 := hide hown3; have hz3 := HB3.out.size;  clear hown3 hg3 hb3))
          go_roundw
          case rel => exact ⟨j + 1, by omega, int_eq (by rw [H4.out]; omega), int_eq (by rw [HK2.out]), by rw [HT.out]; exact HO3.out, HB3.out⟩
          case measure => simp [intOf]; omega
        · have h0' : (vk != 0) = true := by simpa using h0
          have HK2 : Hid (keepF l (j + 1) = j + 1) := hide (by rw [HK.out, if_neg h0])
          clear HK H3 HC1 HV hx2 h5 h4 h0
          go_wp2_with (first
            | (go_at_call 40; refine (HE.out _).mono ?_; rintro e w2 ⟨rfl, hb2⟩; have HO5 := hide (orow_below HO2.out (HBA.out.trans (hb2.mono (by (first | omega | (simp only [World.size_alloc]; omega) | (simp; done) | (simp; omega)))))); have HB5 := hide (HB.out.trans ((HBA.out.trans (hb2.mono (by (first | omega | (simp only [World.size_alloc]; omega) | (simp; done) | (simp; omega))))).mono hz)); have HA5 := hide (HA0.out.below hb2 HA0.out.lt); have hz5 := HB5.out.size; have hz6 := hb2.size; simp only [World.size_alloc] at hz6; clear hb2)
            | (at_builtin; refine app_vt _ rfl (.tmp 17) (.tmp 20) rfl w.heap.size _ _ _ rfl HO5.out ⟨vk, vn, va⟩ _ (by (first | omega | (simp only [World.size_alloc]; omega) | (simp; done) | (simp; omega))) rfl (by omega) (by (first | omega | (simp only [World.size_alloc]; omega) | (simp; done) | (simp; omega))) ?_; intro v3 w3 hown3 hg3 hb3; have HB3 := hide (hb3 _ _ HB5.out (by (first | omega | (simp only [World.size_alloc]; omega) | (simp; done) | (simp; omega))) (Nat.le_refl _)); obtain ⟨VA, VC, rfl⟩ := len_own hown3; have a0 : w3.cell? ⟨wr.heap.size, 0, none⟩ = some (.int .i64 vk) := (HA5.out.grown hg3 (HNE.out)).cell 0; have HO3 := hide hown3; have hz3 := HB3.out.size;  clear hown3 hg3 hb3))
          go_roundw
          case rel => exact ⟨j + 1, by omega, int_eq (by rw [H4.out]; omega), int_eq (by rw [HK2.out]; omega), by rw [HT.out]; exact HO3.out, HB3.out⟩
          case measure => simp [intOf]; omega
    · obtain rfl : j = l.length := by omega
      rw [List.take_of_length_le (Nat.le_refl _)] at *
      have hkl := keepF_le l l.length
      obtain ⟨_, ⟨rfl, _, hln⟩ | ⟨g, cc, rfl, hc1, hc2, hc3, hc4, hc5⟩⟩ := orow_cases HO2.out
      · have HK0 : Hid (keepF l l.length = 0) := hide (by rw [hln]; rfl)
        have hk0 := HK0.out
        have hww : wordsF l = 0 := by rw [hln]; rfl
        go_wp2_with fail
        go_ret
        refine ⟨.slice none 0 0, rfl, ?_, HB.out⟩
        exact World.ownsRow_nil _ _ _ _
      · have HO3 := hide (hc5 (keepF l l.length) hkl)
        have HB3 := hide HB.out
        have HE : Hid (cutF l = l.take (keepF l l.length)) := hide rfl
        generalize hke : keepF l l.length = k at *
        have HKE := hide hke
        clear hc5 HO2 hke
        go_wp2_with fail
        go_ret
        exact ⟨.slice (some ⟨g, 0, none⟩) k cc, rfl, by rw [HE.out, HKE.out]; exact HO3.out, HB3.out⟩
end Go.Proofs.Ytlgknednfgpgfaa
