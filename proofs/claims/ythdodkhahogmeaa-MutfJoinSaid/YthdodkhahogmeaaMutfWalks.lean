/- The walks of mutf's laws. Nothing is claimed here. -/
import Derived.Test.YthdodkhahogmeaaMutfLaws
namespace Go.Proofs.Ythdodkhahogmeaa
open Go.RowKit

set_option maxRecDepth 100000 in
theorem MutfDecode_walk (s0 : ByteArray) (_h : s0.size ≤ maxLen) (w : World) : Calls Try.prog 3 #[.string s0] w fun e w' => e = .returned (.bool true) ∧ Below w.heap.size w w' := by
  have HC := hide (fun W => cut_any s0 200 W (by decide))
  have hz := cutOf_size s0 200
  generalize cutOf s0 200 = s at *
  have HD : Hid (∀ W, Calls Try.prog 9 #[.string s] W (Decoded (dec (nums s)) W)) := hide fun W => decode_any s W (by omega)
  have HR : Hid (∀ W, Calls Try.prog 10 #[.string s] W (Decoded (dec (nums s)) W)) := hide fun W => rdecode_any s W (by omega)
  have hdl : ∀ u, dec (nums s) = some u → u.length ≤ 200 := fun u hu => by have := dec_len _ _ u (Nat.le_refl _) hu; rw [nums_len] at this; omega
  have Hdl := hide hdl
  clear hz hdl
  go_enter Try.func3, Try.ntmps3
  go_wp2_with fail
  refine (mbegun_is w).mono ?_
  rintro e w1 ⟨rfl, hb1⟩
  go_wp2_with fail
  refine (HC.out _).mono ?_
  rintro e w2 ⟨rfl, rfl⟩
  go_wp2_with fail
  refine (HD.out _).mono ?_
  rintro e w2 ⟨hb2, ⟨h, rfl⟩ | ⟨u, v, h, rfl, hown⟩⟩
  · have Hb2 := hide (hb1.trans (hb2.mono hb1.size))
    have H := hide h
    clear hb1 hb2 h
    go_wp2_with fail
    refine (HR.out _).mono ?_
    rintro e w3 ⟨hb3, ⟨h, rfl⟩ | ⟨u, v, h, rfl, hown⟩⟩
    · have Hb3 := hide (Hb2.out.trans (hb3.mono Hb2.out.size))
      clear hb3 h
      go_wp2_with (go_at_call 11; refine (same_yes none none 0 0 0 [] _ 0 0 (Rd.nil _ _ _) (Rd.nil _ _ _) (by decide)).mono ?_; rintro e w4 ⟨rfl, m, rfl⟩)
      go_ret
      exact ⟨rfl, below_drewN Hb3.out m⟩
    · rw [H.out] at h; cases h
  · have Hb2 := hide (hb1.trans (hb2.mono hb1.size))
    have H := hide h
    have hul := Hdl.out u h
    obtain ⟨A, c, rfl, hs, _⟩ := own_src hown
    have Hr := hide hs.rd
    clear hb1 hb2 h hown hs
    go_wp2_with fail
    refine (HR.out _).mono ?_
    rintro e w3 ⟨hb3, ⟨h, rfl⟩ | ⟨u2, v2, h, rfl, hown2⟩⟩
    · rw [H.out] at h; cases h
    · rw [H.out] at h
      cases h
      obtain ⟨A2, c2, rfl, hs2, _⟩ := own_src hown2
      have Hr3 := hide (Hr.out.below hb3)
      have Hr2 := hide hs2.rd
      have Hb3 := hide (Hb2.out.trans (hb3.mono Hb2.out.size))
      clear hb3 hown2 hs2
      go_wp2_with (go_at_call 11; refine (same_yes A A2 u.length c c2 u _ _ _ Hr3.out Hr2.out (by omega)).mono ?_; rintro e w4 ⟨rfl, m, rfl⟩)
      go_ret
      exact ⟨rfl, below_drewN Hb3.out m⟩

theorem nums_append (a b : ByteArray) : nums (a ++ b) = nums a ++ nums b := by simp [nums]
set_option maxRecDepth 100000 in
theorem MutfJoin_walk (s0 s1 : ByteArray) (_h : s0.size ≤ maxLen) (_h1 : s1.size ≤ maxLen) (w : World) : Calls Try.prog 5 #[.string s0, .string s1] w fun e w' => e = .returned (.bool true) ∧ Below w.heap.size w w' := by
  obtain ⟨i0, hi0, hz0, hz1, hz2⟩ := info_parts u16info
  have HC : Hid (∀ W, Calls Try.prog 8 #[.string s0, .int .i64 80] W fun e w' => e = .returned (.string (cutOf s0 80)) ∧ W = w') := hide (fun W => cut_any s0 80 W (by decide))
  have HC1 : Hid (∀ W, Calls Try.prog 8 #[.string s1, .int .i64 80] W fun e w' => e = .returned (.string (cutOf s1 80)) ∧ W = w') := hide (fun W => cut_any s1 80 W (by decide))
  have hz := cutOf_size s0 80
  have hy := cutOf_size s1 80
  generalize cutOf s0 80 = s at *
  generalize cutOf s1 80 = t at *
  have HD : Hid (∀ W, Calls Try.prog 9 #[.string s] W (Decoded (dec (nums s)) W)) := hide fun W => decode_any s W (by omega)
  have HT : Hid (∀ W, Calls Try.prog 9 #[.string t] W (Decoded (dec (nums t)) W)) := hide fun W => decode_any t W (by omega)
  have HJ : Hid (∀ W, Calls Try.prog 9 #[.string (s ++ t)] W (Decoded (dec (nums s ++ nums t)) W)) := hide fun W => by
    have := decode_any (s ++ t) W (by rw [ByteArray.size_append]; omega)
    rwa [nums_append] at this
  have hdl : ∀ u, dec (nums s) = some u → u.length ≤ 80 := fun u hu => by have := dec_len _ _ u (Nat.le_refl _) hu; rw [nums_len] at this; omega
  have hdt : ∀ u, dec (nums t) = some u → u.length ≤ 80 := fun u hu => by have := dec_len _ _ u (Nat.le_refl _) hu; rw [nums_len] at this; omega
  have Hdl := hide hdl
  have Hdt := hide hdt
  clear hdl hdt
  go_enter Try.func5, Try.ntmps5
  go_wp2_with fail
  refine (mbegun_is w).mono ?_
  rintro e w1 ⟨rfl, hb1⟩
  go_wp2_with (first | (go_at_call 8; (with_reducible refine (HC.out _).mono ?_); rintro e w2 ⟨rfl, rfl⟩) | (go_at_call 8; (with_reducible refine (HC1.out _).mono ?_); rintro e w2 ⟨rfl, rfl⟩))
  refine (HD.out _).mono ?_
  rintro e w2 ⟨hb2, hd⟩
  have Hb2 := hide (hb1.trans (hb2.mono hb1.size))
  clear hb1 hb2
  rcases hd with ⟨h, rfl⟩ | ⟨u, v, h, rfl, hown⟩
  · clear h
    go_wp2_with fail
    refine (HT.out _).mono ?_
    rintro e w3 ⟨hb3, hd⟩
    have Hb3 := hide (Hb2.out.trans (hb3.mono Hb2.out.size))
    clear hb3
    rcases hd with ⟨h, rfl⟩ | ⟨u, v, h, rfl, hown⟩
    all_goals
      go_wp2_with fail
      refine (HJ.out _).mono ?_
      rintro e w4 ⟨hb4, hd4⟩
      have Hb4 := hide (Hb3.out.trans (hb4.mono Hb3.out.size))
      clear hb4
      rcases hd4 with ⟨h4, rfl⟩ | ⟨u4, v4, h4, rfl, hown4⟩
      all_goals
        go_wp2_with fail
        go_ret
        exact ⟨rfl, Hb4.out⟩
  · have H := hide h
    obtain ⟨A, c, rfl, hs, _⟩ := own_src hown
    have hul := Hdl.out u h
    have Hr := hide hs.rd
    clear h hown hs
    go_wp2_with fail
    refine (HT.out _).mono ?_
    rintro e w3 ⟨hb3, hd⟩
    have Hr3 := hide (Hr.out.below hb3)
    have Hb3 := hide (Hb2.out.trans (hb3.mono Hb2.out.size))
    have hsz := hb3.size
    clear hb3
    rcases hd with ⟨h, rfl⟩ | ⟨u2, v2, h, rfl, hown2⟩
    · go_wp2_with fail
      refine (HJ.out _).mono ?_
      rintro e w4 ⟨hb4, hd4⟩
      have Hb4 := hide (Hb3.out.trans (hb4.mono Hb3.out.size))
      clear hb4
      rcases hd4 with ⟨h4, rfl⟩ | ⟨u4, v4, h4, rfl, hown4⟩
      all_goals
        go_wp2_with fail
        go_ret
        exact ⟨rfl, Hb4.out⟩
    · have H2 := hide h
      obtain ⟨A2, c2, rfl, hs2, _⟩ := own_src hown2
      have hul2 := Hdt.out u2 h
      have Hr2 := hide hs2.rd
      clear h hown2 hs2
      go_wp2_with fail
      refine (HJ.out _).mono ?_
      rintro e w4 ⟨hb4, hd4⟩
      have Hr4 := hide ((Hr3.out.more hsz).below hb4)
      have Hr24 := hide (Hr2.out.below hb4)
      have Hb4 := hide (Hb3.out.trans (hb4.mono Hb3.out.size))
      have hb4s := hb4.size
      have J := dec_join _ _ _ u u2 (Nat.le_refl _) H.out H2.out
      rcases hd4 with ⟨h4, rfl⟩ | ⟨u4, v4, h4, rfl, hown4⟩
      · rw [J] at h4; cases h4
      · rw [J] at h4
        cases h4
        obtain ⟨A4, c4, rfl, hs4, _⟩ := own_src hown4
        have hs4' := hs4.rd
        rw [List.length_append] at hs4'
        have Hs4 := hide hs4'
        clear hb4 J hown4 hs4 hs4'
        go_wp2_with (at_builtin; go_loud (refine wpList_append_rd _ rfl (.const (.slice none 0 0)) (.tmp 49) 24 rfl w4.heap.size 35 i0 _ 2 Try.underlying24 hi0 hz0 hz1 hz2 rfl (.slice none 0 0) 0 [] rfl (World.ownsRow_nil _ _ _ _) _ A u.length c (cells .u16 u) rfl Hr4.out (cells_one _ _) (by unfold maxLen; omega) (by omega) (Nat.le_refl _) ?_))
        intro v5 w5 hown5 hg5
        have hg5b := below_grown (show w4.grownBy w5 none from hg5)
        have Hown5 := hide hown5
        have Hr25 := hide ((Hr24.out.more hb4s).below hg5b)
        have Hs5 := hide (Hs4.out.below hg5b)
        have Hb5 := hide (Hb4.out.trans (hg5b.mono Hb4.out.size))
        have hz5 := hg5b.size
        clear hown5 hg5 hg5b
        go_wp2_with (at_builtin; go_loud (refine wpList_append_rd _ rfl (.tmp 50) (.tmp 51) 24 rfl w4.heap.size 35 i0 _ 2 Try.underlying24 hi0 hz0 hz1 hz2 rfl v5 u.length (cells .u16 u) rfl Hown5.out _ A2 u2.length c2 (cells .u16 u2) rfl Hr25.out (cells_one _ _) (by unfold maxLen; omega) (by omega) hz5 ?_))
        intro v6 w6 hown6 hg6
        obtain ⟨A6, c6, rfl, hs6, _⟩ := own_src hown6
        have hs6' := hs6.rd
        rw [← show cells .u16 (u ++ u2) = cells .u16 u ++ cells .u16 u2 by simp [cells]] at hs6'
        have Hb6 := hide (below_own (Below.refl w4.heap.size w5) Hown5.out hg6 hz5)
        have Hr6 := hide hs6'
        have Hs6 := hide (Hs5.out.below Hb6.out)
        have Hb := hide (Hb5.out.trans (Hb6.out.mono Hb4.out.size))
        clear hown6 hg6 hs6 hs6' hz5 hb4s
        go_wp2_with (go_at_call 11; go_loud (refine (same_yes A4 A6 (u.length + u2.length) c4 c6 (u ++ u2) _ _ _ Hs6.out Hr6.out (by omega)).mono ?_); rintro e w7 ⟨rfl, m, rfl⟩)
        go_ret
        exact ⟨rfl, below_drewN Hb.out m⟩
end Go.Proofs.Ythdodkhahogmeaa
