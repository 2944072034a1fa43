/- The document's frames: its small functions. Nothing is claimed here. -/
import Derived.Test.YtlgknednfgpgfaaFrF
namespace Go.Proofs.Ytlgknednfgpgfaa
open Go.RowKit

set_option maxRecDepth 100000 in
theorem rfv_any (k : Int) (w : World) : Calls Try.prog 39 #[.int .i64 k] w fun e w' => e = .returned (.agg #[.int .i64 k, .string ⟨#[]⟩, .int .i64 0]) ∧ Below w.heap.size w w' := by
  go_enter Try.func39, Try.ntmps39
  go_wp2_with fail
  refine bodyPost_ret (v := .agg #[.int .i64 k, .string ⟨#[]⟩, .int .i64 0]) ?_ rfl ⟨rfl, by repeat (first | with_reducible exact Below.refl _ _ | with_reducible refine Below.drew ?_ | with_reducible refine below_drewN ?_ _ | ((with_reducible refine Below.setCell ?_ ?hp _); case hp => simp) | ((with_reducible refine Below.alloc ?_ ?hp _); case hp => first | omega | (simp; done) | (simp; omega)))⟩
  · simp [results, Try.results39, go_sem]

set_option maxHeartbeats 4000000 in
set_option maxRecDepth 100000 in
theorem rfwide_any (A : Option Addr) (n c : Nat) (s : Int) (l : List FT) (w : World) (B : Nat) (h : RdF w B A n l) (hB : B ≤ w.heap.size) (hn : n ≤ 100000) :
    Calls Try.prog 24 #[.slice A n c, .int .i64 s] w fun e w' => ∃ V, e = .returned V ∧ w'.ownsRow w.heap.size 37 3 V (wordsF l) (fcells (wideF s l)) ∧ Below w.heap.size w w' := by
  have HH := hide h
  have hl := h.1
  have hle := wordsF_le l
  clear h
  go_enter Try.func24, Try.ntmps24
  go_wp2_with fail
  go_loopw [5, 6] (fun v iv wr => ∃ j : Nat, j ≤ n ∧ iv = .int .i64 j ∧ wr.ownsRow w.heap.size 37 3 v (wordsF (l.take j)) (fcells (wideF s (l.take j))) ∧ Below w.heap.size w wr) (fun _ iv _ => n - (intOf iv).toNat)
  case atStart => exact ⟨0, Nat.zero_le _, rfl, World.ownsRow_nil _ _ _ _, Below.refl _ _⟩
  case round =>
    obtain ⟨j, hj, rfl, hown, hbel⟩ := hrel
    have hz := hbel.size
    have HB := hide hbel
    have HO2 := hide hown
    have h4 := wordsF_take_le l j
    clear hbel hown
    by_cases hlt : j < n
    · have h3 := wordsF_take l j (by omega)
      have hT := take_snoc l noF (j := j) (by omega)
      obtain ⟨g, o, rfl, hg, c0, c1, c2⟩ := (HH.out.below (HB.out.mono hB)).cells3 hlt
      have HX : Hid (∀ W, Below w.heap.size w W → W.cell? ⟨g, o + j * 3, none⟩ = some (.int .i64 (l.getD j noF).kind)) := hide fun W hW => by
        obtain ⟨g', o', he, _, d0, _, _⟩ := (HH.out.below (hW.mono hB)).cells3 hlt
        cases he
        exact d0
      have hgB : g < wr.heap.size := by omega
      have H3 := hide h3
      generalize l.getD j noF = v at *
      obtain ⟨vk, vn, va⟩ := v
      simp only at c0 c1 c2
      have HT := hide hT
      generalize hx : wordsF (l.take j) = x at *
      clear h3 hT
      by_cases hk : vk = 4
      · have hk' : (vk == 4) = true := by simpa using hk
        have H4 : Hid (wordsF (l.take (j + 1)) = x + 2) := hide (by rw [H3.out, if_pos hk])
        have HW : Hid (wideF s (l.take (j + 1)) = wideF s (l.take j) ++ [⟨vk, vn, va⟩] ++ [⟨s, [], 0⟩]) := hide (by rw [HT.out, wideF_app, wideF_one, wide_four _ hk, List.append_assoc]; rfl)
        clear hx H3 hk HT
        go_wp2_with (first
          | (at_builtin; refine app_vt _ rfl (.tmp 13) (.tmp 18) rfl w.heap.size _ _ _ rfl HO2.out ⟨vk, vn, va⟩ _ (by (first | omega | (simp only [World.size_alloc]; omega) | (simp; done) | (simp; omega))) rfl (by omega) (by (first | omega | (simp only [World.size_alloc]; omega) | (simp; done) | (simp; omega))) ?_; intro v2 w3 hown3 hg3 hb3; have HO3 := hide hown3; have HB3 := hide (hb3 _ _ HB.out (by (first | omega | (simp only [World.size_alloc]; omega) | (simp; done) | (simp; omega))) (Nat.le_refl _)); have hz3 := HB3.out.size; have e0 := HX.out _ HB3.out; clear hown3 hg3 hb3)
          | (go_at_call 39; refine (rfv_any s _).mono ?_; rintro e5 w5 ⟨rfl, hb5⟩; have HO5 := hide (orow_below HO3.out hb5); have HB5 := hide (HB3.out.trans (hb5.mono hz3)); have hz5 := HB5.out.size; clear hb5)
          | (at_builtin; refine app_vt _ rfl (.tmp 26) (.tmp 29) rfl w.heap.size _ _ _ rfl HO5.out ⟨s, [], 0⟩ _ (by (first | omega | (simp only [World.size_alloc]; omega) | (simp; done) | (simp; omega))) rfl (by omega) (by (first | omega | (simp only [World.size_alloc]; omega) | (simp; done) | (simp; omega))) ?_; intro v4 w4 hown4 hg4 hb4; have HO4 := hide hown4; have HB4 := hide (hb4 _ _ HB5.out (by (first | omega | (simp only [World.size_alloc]; omega) | (simp; done) | (simp; omega))) (Nat.le_refl _)); have hz4 := HB4.out.size; clear hown4 hg4 hb4))
        go_roundw
        case rel => exact ⟨j + 1, by omega, by go_num, by rw [HW.out, H4.out]; exact HO4.out, HB4.out⟩
        case measure => simp [intOf]; omega
      · have hk' : (vk == 4) = false := by simpa using hk
        have H4 : Hid (wordsF (l.take (j + 1)) = x + 1) := hide (by rw [H3.out, if_neg hk])
        have HW : Hid (wideF s (l.take (j + 1)) = wideF s (l.take j) ++ [⟨vk, vn, va⟩]) := hide (by rw [HT.out, wideF_app, wideF_one, wide_other _ hk])
        clear hx H3 hk HT
        go_wp2_with (first
          | (at_builtin; refine app_vt _ rfl (.tmp 13) (.tmp 18) rfl w.heap.size _ _ _ rfl HO2.out ⟨vk, vn, va⟩ _ (by (first | omega | (simp only [World.size_alloc]; omega) | (simp; done) | (simp; omega))) rfl (by omega) (by (first | omega | (simp only [World.size_alloc]; omega) | (simp; done) | (simp; omega))) ?_; intro v2 w3 hown3 hg3 hb3; have HO3 := hide hown3; have HB3 := hide (hb3 _ _ HB.out (by (first | omega | (simp only [World.size_alloc]; omega) | (simp; done) | (simp; omega))) (Nat.le_refl _)); have hz3 := HB3.out.size; have e0 := HX.out _ HB3.out; clear hown3 hg3 hb3))
        go_roundw
        case rel => exact ⟨j + 1, by omega, by go_num, by rw [HW.out, H4.out]; exact HO3.out, HB3.out⟩
        case measure => simp [intOf]; omega
    · obtain rfl : j = n := by omega
      rw [List.take_of_length_le (by omega)] at HO2
      go_wp2_with fail
      go_ret
      exact ⟨_, rfl, HO2.out, HB.out⟩

set_option maxHeartbeats 4000000 in
set_option maxRecDepth 100000 in
theorem rfnamed_any (Ap : Option Addr) (np cp : Nat) (ps : List Cst) (A : Option Addr) (n c : Nat) (l : List VT) (hg : ∀ v ∈ l, GoodV ps v) (w : World) (hp : RdC w w.heap.size Ap np ps) (B : Nat) (h : RdF w B A n (l.map VT.ft)) (hB : B ≤ w.heap.size) (hn : n ≤ 100000) :
    Calls Try.prog 23 #[.slice A n c, .slice Ap np cp] w fun e w' => ∃ V, e = .returned V ∧ w'.ownsRow w.heap.size 37 3 V n (fcells (l.map (nameF ps))) ∧ Below w.heap.size w w' := by
  have HH := hide h
  have hl : l.length = n := by have := h.1; rwa [List.length_map] at this
  have HC : Hid (∀ x W, Below w.heap.size w W → Calls Try.prog 38 #[.slice Ap np cp, .int .i64 x] W fun e w' => e = .returned (.tuple #[.string (strOfNums ((classAt ps x).getD [])), .bool (classAt ps x).isSome]) ∧ W = w') := hide fun x W hb => by rw [← textV_pair]; exact rclass5_any Ap np cp ps _ x W (hp.below hb)
  clear h hp
  go_enter Try.func23, Try.ntmps23
  go_wp2_with fail
  go_loopw [5, 6] (fun v iv wr => ∃ j : Nat, j ≤ n ∧ iv = .int .i64 j ∧ wr.ownsRow w.heap.size 37 3 v j (fcells ((l.take j).map (nameF ps))) ∧ Below w.heap.size w wr) (fun _ iv _ => n - (intOf iv).toNat)
  case atStart => exact ⟨0, Nat.zero_le _, rfl, World.ownsRow_nil _ _ _ _, Below.refl _ _⟩
  case round =>
    obtain ⟨j, hj, rfl, hown, hbel⟩ := hrel
    have hz := hbel.size
    have HB := hide hbel
    have HO2 := hide hown
    clear hbel hown
    by_cases hlt : j < n
    · have hv := hg _ (getD_memV (l := l) (j := j) (by omega))
      obtain ⟨g, o, rfl, hg2, c0, c1, c2⟩ := (HH.out.below (HB.out.mono hB)).cells3 hlt
      rw [ft_at l j (by omega)] at c0 c1 c2
      have hgB : g < wr.heap.size := by omega
      have HT : Hid ((l.take (j + 1)).map (nameF ps) = (l.take j).map (nameF ps) ++ [nameF ps (l.getD j noV)]) := hide (map_take_snoc _ l (by omega))
      generalize l.getD j noV = v at *
      obtain ⟨vk, va⟩ := v
      simp only [VT.ft] at c0 c1 c2
      rw [show strOfNums [] = ⟨#[]⟩ from rfl] at c1
      by_cases hk : vk = 7
      · subst hk
        have HC2 := hide (HC.out va)
        have HN : Hid (nameF ps ⟨7, va⟩ = ⟨7, (classAt ps va).getD [], 0⟩) := hide (if_pos rfl)
        generalize (classAt ps va).getD [] = nm at *
        generalize (classAt ps va).isSome = bb at *
        have HB5 := hide (HB.out.alloc hz (.cells #[.int .i64 7, .string ⟨#[]⟩, .int .i64 va] 37))
        have HO5 := hide (orow_below HO2.out ((Below.refl _ wr).alloc (Nat.le_refl _) (.cells #[.int .i64 7, .string (strOfNums nm), .int .i64 0] 37)))
        have HB6 := hide (HB.out.alloc hz (.cells #[.int .i64 7, .string (strOfNums nm), .int .i64 0] 37))
        go_wp2_with (first
          | (go_at_call 38; refine (HC2.out _ HB5.out).mono ?_; rintro e2 w2 ⟨rfl, rfl⟩)
          | (at_builtin; refine app_vt _ rfl (.tmp 30) (.tmp 32) rfl w.heap.size _ _ _ rfl HO5.out ⟨7, nm, 0⟩ _ (by (first | omega | (simp only [World.size_alloc]; omega) | (simp; done) | (simp; omega))) rfl (by omega) (by (first | omega | (simp only [World.size_alloc]; omega) | (simp; done) | (simp; omega))) ?_; intro v2 w3 hown3 hg3 hb3; have HO3 := hide hown3; have HB3 := hide (hb3 _ _ HB6.out (by (first | omega | (simp only [World.size_alloc]; omega) | (simp; done) | (simp; omega))) (Nat.le_refl _)); have hz3 := HB3.out.size; clear hown3 hg3 hb3))
        go_roundw
        case rel => exact ⟨j + 1, by omega, by go_num, by rw [HT.out, HN.out]; exact HO3.out, HB3.out⟩
        case measure => simp [intOf]; omega
      · have hk' : (vk == 7) = false := by simpa using hk
        have HN : Hid (nameF ps ⟨vk, va⟩ = ⟨vk, [], va⟩) := hide (if_neg hk)
        have HO5 := hide (orow_below HO2.out ((Below.refl _ wr).alloc (Nat.le_refl _) (.cells #[.int .i64 vk, .string ⟨#[]⟩, .int .i64 va] 37)))
        have HB6 := hide (HB.out.alloc hz (.cells #[.int .i64 vk, .string ⟨#[]⟩, .int .i64 va] 37))
        clear hk
        go_wp2_with (at_builtin; refine app_vt _ rfl (.tmp 30) (.tmp 32) rfl w.heap.size _ _ _ rfl HO5.out ⟨vk, [], va⟩ _ (by (first | omega | (simp only [World.size_alloc]; omega) | (simp; done) | (simp; omega))) rfl (by omega) (by (first | omega | (simp only [World.size_alloc]; omega) | (simp; done) | (simp; omega))) ?_; intro v2 w3 hown3 hg3 hb3; have HO3 := hide hown3; have HB3 := hide (hb3 _ _ HB6.out (by (first | omega | (simp only [World.size_alloc]; omega) | (simp; done) | (simp; omega))) (Nat.le_refl _)); have hz3 := HB3.out.size; clear hown3 hg3 hb3)
        go_roundw
        case rel => exact ⟨j + 1, by omega, by go_num, by rw [HT.out, HN.out]; exact HO3.out, HB3.out⟩
        case measure => simp [intOf]; omega
    · obtain rfl : j = n := by omega
      have HN : Hid (l.take j = l) := hide (List.take_of_length_le (by omega))
      go_wp2_with fail
      go_ret
      exact ⟨_, rfl, by have := HO2.out; rw [HN.out] at this; exact this, HB.out⟩

set_option maxHeartbeats 4000000 in
set_option maxRecDepth 100000 in
theorem rffill_any (A : Option Addr) (n c m : Nat) (l : List FT) (w : World) (B : Nat) (h : RdF w B A n l) (hm : n ≤ m) (hmm : m ≤ 100000) :
    Calls Try.prog 25 #[.slice A n c, .int .i64 m] w fun e w' => ∃ V, e = .returned V ∧ w'.ownsRow w.heap.size 37 3 V m (fcells (l ++ List.replicate (m - n) noF)) ∧ Below w.heap.size w w' := by
  have HH := hide h
  have hl := h.1
  clear h
  go_enter Try.func25, Try.ntmps25
  go_wp2_with (at_builtin; refine app_vts _ rfl (.const (.slice none 0 0)) (.tmp 6) rfl w.heap.size _ 0 [] rfl (World.ownsRow_nil _ _ _ _) B A n c l rfl HH.out (by omega) (Nat.le_refl _) ?_; intro v1 w1 hown1 hg1 hn1)
  have HO3 := hide (show w1.ownsRow w.heap.size 37 3 v1 (n + 0) (fcells (l ++ List.replicate 0 noF)) by simpa using hown1)
  have HB3 := hide (below_orow (Below.refl w.heap.size w) (World.ownsRow_nil w w.heap.size 37 3) hg1 (Nat.le_refl _) (Nat.le_refl _))
  clear hown1 hg1 hn1
  go_loopw [5] (fun v w2 => ∃ k : Nat, n + k ≤ m ∧ w2.ownsRow w.heap.size 37 3 v (n + k) (fcells (l ++ List.replicate k noF)) ∧ Below w.heap.size w w2) (fun v _ => m - vlen v)
  case atStart => exact ⟨0, hm, HO3.out, HB3.out⟩
  case round =>
    obtain ⟨k, hk, hown, hbel⟩ := hrel
    have HO2 := hide hown
    have HB2 := hide hbel
    have hz2 := hbel.size
    obtain ⟨VA, VC, rfl⟩ := len_own hown
    clear hown hbel HO3 HB3
    by_cases hlt : n + k < m
    · have hlt' : ((n + k : Nat) : Int) < (m : Int) := by omega
      go_wp2_with (first
        | (go_at_call 39; refine (rfv_any 0 _).mono ?_; rintro e5 w5 ⟨rfl, hb5⟩; have HO5 := hide (orow_below HO2.out hb5); have HB5 := hide (HB2.out.trans (hb5.mono hz2)); have hz5 := HB5.out.size; clear hb5)
        | (at_builtin; refine app_vt _ rfl (.tmp 12) (.tmp 14) rfl w.heap.size _ _ _ rfl HO5.out noF _ (by (first | omega | (simp only [World.size_alloc]; omega) | (simp; done) | (simp; omega))) rfl (by omega) (by (first | omega | (simp only [World.size_alloc]; omega) | (simp; done) | (simp; omega))) ?_; intro v4 w4 hown4 hg4 hb4; have HO4 := hide hown4; have HB4 := hide (hb4 _ _ HB5.out (by (first | omega | (simp only [World.size_alloc]; omega) | (simp; done) | (simp; omega))) (Nat.le_refl _)); have hz4 := HB4.out.size; clear hg4 hb4))
      go_roundw
      case rel => exact ⟨k + 1, by omega, by have := HO4.out; rw [List.append_assoc, ← List.replicate_succ'] at this; exact this, HB4.out⟩
      case measure =>
        obtain ⟨VA', VC', rfl⟩ := len_own hown4
        simp [vlen]; omega
    · have hlt' : ¬ ((n + k : Nat) : Int) < (m : Int) := by omega
      go_wp2_with fail
      go_ret
      refine ⟨.slice VA (n + k) VC, rfl, ?_, HB2.out⟩
      obtain rfl : m = n + k := by omega
      rw [show n + k - n = k by omega]
      exact HO2.out
end Go.Proofs.Ytlgknednfgpgfaa
