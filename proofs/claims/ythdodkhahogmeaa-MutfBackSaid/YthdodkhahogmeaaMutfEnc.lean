/- What the writers of chars of package mutf give. Nothing is claimed here. -/
import Derived.Test.YthdodkhahogmeaaMutfDecode
namespace Go.Proofs.Ythdodkhahogmeaa
open Go.RowKit

theorem u8info : (Try.prog.info? 5).map (fun i => (i.zero, i.size, i.bytes)) = some (some (.int .u8 0), 1, 1) := by kernel_rfl

theorem trail_any (v : Int) (h0 : 0 ≤ v) (h1 : v < 4294967296) (w : World) : Calls Try.prog 24 #[.int .u32 v] w fun e w' => e = .returned (.int .u8 (128 + v % 64)) ∧ w = w' := by
  have H := hide (u8_or128 (v % 64) (by omega) (by omega))
  have H2 := bits_mask .u32 32 (by decide) wraps_u32 6 (by decide) v h0 (by omega)
  simp at H2
  have H3 := hide H2
  clear H2
  go_enter Try.func24, Try.ntmps24
  go_wp2
  go_ret
  refine ⟨ret_int ?_, rfl⟩
  rw [H3.out, Int.emod_eq_of_lt (by omega) (by omega), H.out]

/-- A slice of the call's own, of bytes, that reads as ys; what may have turned is the row that it had. -/
def Appended (w : World) (base : Nat) (v : Value) (ys : List Int) (e : Ending) (w' : World) : Prop :=
  ∃ v', e = .returned v' ∧ w'.ownsRow base 5 1 v' ys.length (cells .u8 ys) ∧ w.grownBy w' v.ownBlock

theorem app_end {w w' : World} {base : Nat} {v v' : Value} {xs ys : List Int} {m : Nat} {news : List Value} (h : w'.ownsRow base 5 1 v' (xs.length + m) (cells .u8 xs ++ news)) (g : w.grownBy w' v.ownBlock)
    (hm : m = ys.length) (hn : news = cells .u8 ys) : Appended w base v (xs ++ ys) (.returned v') w' := by
  subst hm hn
  refine ⟨v', rfl, ?_, g⟩
  rw [List.length_append]
  simpa [cells] using h

set_option maxRecDepth 100000 in
theorem appendChar_any (base : Nat) (v : Value) (xs : List Int) (c : Int) (hc : 0 ≤ c ∧ c < 65536) (w : World) (hown : w.ownsRow base 5 1 v xs.length (cells .u8 xs)) (hn : xs.length ≤ 4000000) (hb : base ≤ w.heap.size) :
    Calls Try.prog 18 #[v, .int .u16 c] w (Appended w base v (xs ++ put c)) := by
  obtain ⟨i0, hi0, hz0, hz1, hz2⟩ := info_parts u8info
  have HP := hide (show put c = if c < 128 then [c] else if c < 2048 then [192 + c / 64, 128 + c % 64] else [224 + c / 4096, 128 + c / 64 % 64, 128 + c % 64] from rfl)
  have Hown := hide hown
  clear hown
  by_cases h1 : c < 128
  · rw [if_pos h1] at HP
    generalize put c = ps at *
    go_enter Try.func18, Try.ntmps18
    go_wp2_with (at_builtin; go_loud (refine wpList_append_lits _ rfl (.tmp 11) (.tmp 14) 30 rfl base 5 i0 _ 1 Try.underlying30 hi0 hz0 hz1 hz2 rfl v xs.length (cells .u8 xs) rfl Hown.out _ 1 rfl rfl rfl (by unfold maxLen; omega) (by omega) hb ?_); intro v2 w2 hown2 hg2)
    go_ret
    rw [HP.out]
    exact app_end hown2 hg2 rfl rfl
  · rw [if_neg h1] at HP
    by_cases h2 : c < 2048
    · rw [if_pos h2] at HP
      generalize put c = ps at *
      go_enter Try.func18, Try.ntmps18
      go_wp2_with (first
        | (go_at_call 24; refine (trail_any _ (by omega) (by omega) _).mono ?_; rintro e w1 ⟨rfl, rfl⟩)
        | (at_builtin; go_loud (refine wpList_append_lits _ rfl (.tmp 19) (.tmp 26) 30 rfl base 5 i0 _ 1 Try.underlying30 hi0 hz0 hz1 hz2 rfl v xs.length (cells .u8 xs) rfl Hown.out _ 2 rfl rfl rfl (by unfold maxLen; omega) (by omega) hb ?_); intro v2 w2 hown2 hg2))
      go_ret
      rw [HP.out]
      exact app_end hown2 hg2 rfl rfl
    · rw [if_neg h2] at HP
      generalize put c = ps at *
      go_enter Try.func18, Try.ntmps18
      go_wp2_with (first
        | (go_at_call 24; refine (trail_any _ (by omega) (by omega) _).mono ?_; rintro e w1 ⟨rfl, rfl⟩)
        | (at_builtin; go_loud (refine wpList_append_lits _ rfl (.tmp 28) (.tmp 38) 30 rfl base 5 i0 _ 1 Try.underlying30 hi0 hz0 hz1 hz2 rfl v xs.length (cells .u8 xs) rfl Hown.out _ 3 rfl rfl rfl (by unfold maxLen; omega) (by omega) hb ?_); intro v2 w2 hown2 hg2))
      go_ret
      rw [HP.out]
      exact app_end hown2 hg2 rfl rfl

theorem high_any (c : Int) (hc : 0 ≤ c ∧ c < 65536) (w : World) : Calls Try.prog 19 #[.int .u16 c] w fun e w' => e = .returned (.bool (isHi c)) ∧ w = w' := by
  have H := hide (show isHi c = (decide (55296 ≤ c) && decide (c ≤ 56319)) from rfl)
  by_cases h1 : 55296 ≤ c
  · by_cases h2 : c ≤ 56319
    · go_enter Try.func19, Try.ntmps19
      go_wp2
      go_ret
      exact ⟨ret_bool (by rw [H.out]; simp; omega), rfl⟩
    · go_enter Try.func19, Try.ntmps19
      go_wp2
      go_ret
      exact ⟨ret_bool (by rw [H.out]; simp; omega), rfl⟩
  · go_enter Try.func19, Try.ntmps19
    go_wp2
    go_ret
    exact ⟨ret_bool (by rw [H.out]; simp; omega), rfl⟩
theorem low_any (c : Int) (hc : 0 ≤ c ∧ c < 65536) (w : World) : Calls Try.prog 20 #[.int .u16 c] w fun e w' => e = .returned (.bool (isLo c)) ∧ w = w' := by
  have H := hide (show isLo c = (decide (56320 ≤ c) && decide (c ≤ 57343)) from rfl)
  by_cases h1 : 56320 ≤ c
  · by_cases h2 : c ≤ 57343
    · go_enter Try.func20, Try.ntmps20
      go_wp2
      go_ret
      exact ⟨ret_bool (by rw [H.out]; simp; omega), rfl⟩
    · go_enter Try.func20, Try.ntmps20
      go_wp2
      go_ret
      exact ⟨ret_bool (by rw [H.out]; simp; omega), rfl⟩
  · go_enter Try.func20, Try.ntmps20
    go_wp2
    go_ret
    exact ⟨ret_bool (by rw [H.out]; simp; omega), rfl⟩

set_option maxRecDepth 100000 in
theorem appendPair_any (base : Nat) (v : Value) (xs : List Int) (h l : Int) (hh : 55296 ≤ h) (hh2 : h ≤ 56319) (hl : 56320 ≤ l) (hl2 : l ≤ 57343) (w : World) (hown : w.ownsRow base 5 1 v xs.length (cells .u8 xs)) (hn : xs.length ≤ 4000000) (hb : base ≤ w.heap.size) :
    Calls Try.prog 21 #[v, .int .u16 h, .int .u16 l] w (Appended w base v (xs ++ four (pairOf h l))) := by
  obtain ⟨i0, hi0, hz0, hz1, hz2⟩ := info_parts u8info
  have Hown := hide hown
  clear hown
  obtain ⟨p, hp⟩ : ∃ p, pairOf h l = p := ⟨_, rfl⟩
  have hp2 : p = 65536 + (h - 55296) * 1024 + (l - 56320) := hp.symm
  rw [hp]
  have Hp := hide hp2
  clear hp hp2
  go_enter Try.func21, Try.ntmps21
  go_wp2_with (first
    | (go_at_call 24; refine (trail_any _ (by omega) (by omega) _).mono ?_; rintro e w1 ⟨rfl, rfl⟩)
    | (at_builtin; go_loud (refine wpList_append_lits _ rfl (.tmp 17) (.tmp 30) 30 rfl base 5 i0 _ 1 Try.underlying30 hi0 hz0 hz1 hz2 rfl v xs.length (cells .u8 xs) rfl Hown.out _ 4 rfl rfl rfl (by unfold maxLen; omega) (by omega) hb ?_); intro v2 w2 hown2 hg2))
  go_ret
  rw [Hp.out]
  exact app_end hown2 hg2 rfl rfl
end Go.Proofs.Ythdodkhahogmeaa
