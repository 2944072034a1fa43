/- CursorReads: any reads of any bytes, beside the reader of the documents' answers. -/
import Derived.Test.YteikjaeplaedhaaRef
namespace Go.Proofs.Yteikjaeplaedhaa
open Go.RowKit

theorem rn_is (r base : Nat) (A : Option Addr) (c : Nat) (xs : List Int) (k : Nat) (n : Int) (bad : Bool) (w : World) (h : Ref w r base A c xs k bad) (h0 : 0 ≤ n) (h4 : n ≤ 4) :
    Calls Try.prog 10 #[.pointer (some ⟨r, 0, none⟩), .int .i64 n] w fun e w' => e = .returned (.int .i64 (be (got xs k bad n))) ∧ Ref w' r base A c xs (went xs k bad n) (!okd xs k bad n) ∧ w.grownBy w' (some r) := by
  unfold got went
  cases ho : okd xs k bad n
  · exact rn_none r base A c xs k n bad w h (by rcases okd_false ho with a | a | a; (exact .inl a); (omega); (exact .inr a))
  · obtain ⟨rfl, h0, hn⟩ := okd_true ho
    exact rn_some r base A c xs k n w h h0 hn h4

/-- What Some gives. -/
def Somes (w : World) (r base : Nat) (A : Option Addr) (c : Nat) (xs : List Int) (k : Nat) (bad : Bool) (n : Int) (e : Ending) (w' : World) : Prop :=
  ∃ B d, e = .returned (.slice B (got xs k bad n).length d) ∧ Rd w' w'.heap.size B (got xs k bad n).length (bys (got xs k bad n)) ∧ Ref w' r base A c xs (went xs k bad n) (!okd xs k bad n) ∧ w.grownBy w' (some r)
theorem rs_is (r base : Nat) (A : Option Addr) (c : Nat) (xs : List Int) (k : Nat) (n : Int) (bad : Bool) (w : World) (h : Ref w r base A c xs k bad) :
    Calls Try.prog 14 #[.pointer (some ⟨r, 0, none⟩), .int .i64 n] w (Somes w r base A c xs k bad n) := by
  unfold Somes got went
  cases ho : okd xs k bad n
  · exact (rs_none r base A c xs k n bad w h (okd_false ho)).mono fun e w' ⟨a, b, d⟩ => ⟨none, 0, a, Rd.nil _ _ _, b, d⟩
  · obtain ⟨rfl, h0, hn⟩ := okd_true ho
    refine (rs_some r base A c xs k n w h h0 hn).mono fun e w' ⟨B, d, he, hr, hc, hg⟩ => ⟨B, d, ?_, ?_, hc, hg⟩
    · have : ((xs.drop k).take n.toNat).length = n.toNat := by simp; omega
      simp only [if_true, this]; exact he
    · have : ((xs.drop k).take n.toNat).length = n.toNat := by simp; omega
      simp only [if_true, this]; exact hr

/-- A cursor and a reader over the same bytes, at the same place; and the bytes themselves. -/
structure Both (B : Nat) (w : World) (g gb r : Nat) (A1 A2 : Option Addr) (c2 : Nat) (xs : List Int) (k : Nat) (bad : Bool) (k2 : Nat) (bad2 : Bool) : Prop where
  c : Cur w g gb xs k bad
  f : Ref w r B A2 c2 xs k2 bad2
  b : Src w B 5 A1 xs.length (bys xs)
  lg : B ≤ g
  lr : B ≤ r

theorem Src.far {w w' : World} {base : Nat} {e : TypeId} {A : Option Addr} {n : Nat} {xs : List Value} {g : Nat} {t : TypeId} {cs : List Value} (h : Src w base e A n xs) (hg : At w g t cs) (ht : t ≠ e) (hb : w.grownBy w' (some g)) : Src w' base e A n xs := by
  rcases h with h | ⟨g', ex, rfl, hb', hl, ha⟩
  · exact .inl h
  · exact .inr ⟨g', ex, rfl, hb', hl, ha.grown hb (by simpa using (hg.ne ha ht).symm)⟩
theorem Src.new {w w' : World} {base : Nat} {e : TypeId} {A : Option Addr} {n : Nat} {xs : List Value} (h : Src w base e A n xs) {row : Option Nat} (hb : w.grownBy w' row) (hr : ∀ q, row = some q → w.heap.size ≤ q) : Src w' base e A n xs := by
  rcases h with h | ⟨g', ex, rfl, hb', hl, ha⟩
  · exact .inl h
  · exact .inr ⟨g', ex, rfl, hb', hl, ha.grown hb (fun e => by have := hr g' e.symm; have := ha.lt; omega)⟩

section
variable {B : Nat} {w w' : World} {g gb r : Nat} {A1 A2 : Option Addr} {c2 : Nat} {xs : List Int} {k k2 k' : Nat} {bad bad2 bad' : Bool}
theorem Both.ne (h : Both B w g gb r A1 A2 c2 xs k bad k2 bad2) : g ≠ r := h.c.1.ne h.f.1 (by decide)
theorem Both.turnC (h : Both B w g gb r A1 A2 c2 xs k bad k2 bad2) (hc : Cur w' g gb xs k' bad') (hg : w.grownBy w' (some g)) : Both B w' g gb r A1 A2 c2 xs k' bad' k2 bad2 :=
  ⟨hc, ⟨h.f.1.grown hg (by simpa using h.ne.symm), h.f.2.1.far h.c.1 (by decide) hg, h.f.2.2⟩, h.b.far h.c.1 (by decide) hg, h.lg, h.lr⟩
theorem Both.turnR (h : Both B w g gb r A1 A2 c2 xs k bad k2 bad2) (hc : Ref w' r B A2 c2 xs k' bad') (hg : w.grownBy w' (some r)) : Both B w' g gb r A1 A2 c2 xs k bad k' bad' :=
  ⟨h.c.grown hg (by simpa using h.ne) (by simpa using (h.f.1.ne h.c.2.1 (by decide)).symm), hc, h.b.far h.f.1 (by decide) hg, h.lg, h.lr⟩
theorem Both.new (h : Both B w g gb r A1 A2 c2 xs k bad k2 bad2) {row : Option Nat} (hg : w.grownBy w' row) (hr : ∀ q, row = some q → w.heap.size ≤ q) : Both B w' g gb r A1 A2 c2 xs k bad k2 bad2 := by
  have n1 : ∀ b, b < w.heap.size → some b ≠ row := fun b hb e => by have := hr b e.symm; omega
  exact ⟨h.c.grown hg (n1 _ h.c.1.lt) (n1 _ h.c.2.1.lt), ⟨h.f.1.grown hg (n1 _ h.f.1.lt), h.f.2.1.new hg hr, h.f.2.2⟩, h.b.new hg hr, h.lg, h.lr⟩
theorem Both.drewN (h : Both B w g gb r A1 A2 c2 xs k bad k2 bad2) (n : Nat) : Both B (w.drewN n) g gb r A1 A2 c2 xs k bad k2 bad2 := ⟨h.c, h.f, h.b, h.lg, h.lr⟩
end

theorem at_q {g gb : Nat} {xs : List Int} {k : Nat} {bad : Bool} {w : World} (h : Cur w g gb xs k bad) (x : Nat) :
    Calls Try.prog 15 #[.pointer (some ⟨g, 0, none⟩)] (w.drewN x) fun e w' => e = .returned (.int .i64 k) ∧ ∃ n, w' = w.drewN n :=
  (at_any g gb xs k bad (w.drewN x) h).mono fun _ _ ⟨a, b⟩ => ⟨a, x, b.symm⟩
theorem ok_q {g gb : Nat} {xs : List Int} {k : Nat} {bad : Bool} {w : World} (h : Cur w g gb xs k bad) (x : Nat) :
    Calls Try.prog 18 #[.pointer (some ⟨g, 0, none⟩)] (w.drewN x) fun e w' => e = .returned (.bool (!bad)) ∧ ∃ n, w' = w.drewN n :=
  (ok_any g gb xs k bad (w.drewN x) h).mono fun _ _ ⟨a, b⟩ => ⟨a, x, b.symm⟩
theorem left_q {g gb : Nat} {xs : List Int} {k : Nat} {bad : Bool} {w : World} (h : Cur w g gb xs k bad) (x : Nat) (l : Nat) (hl : xs.length = l) :
    Calls Try.prog 16 #[.pointer (some ⟨g, 0, none⟩)] (w.drewN x) fun e w' => e = .returned (.int .i64 ((l : Int) - k)) ∧ ∃ n, w' = w.drewN n :=
  (left_any g gb xs k bad (w.drewN x) h).mono fun _ _ ⟨a, m, b⟩ => ⟨by rw [a, hl], x + m, by rw [b, World.drewN_drewN]⟩
theorem rleft_q {r base : Nat} {A : Option Addr} {c : Nat} {xs : List Int} {k : Nat} {bad : Bool} {w : World} (h : Ref w r base A c xs k bad) (x : Nat) (l : Nat) (hl : xs.length = l) :
    Calls Try.prog 17 #[.pointer (some ⟨r, 0, none⟩)] (w.drewN x) fun e w' => e = .returned (.int .i64 ((l : Int) - k)) ∧ ∃ n, w' = w.drewN n :=
  (rleft_any r base A c xs k bad (w.drewN x) h).mono fun _ _ ⟨a, m, b⟩ => ⟨by rw [a, hl], x + m, by rw [b, World.drewN_drewN]⟩

set_option maxRecDepth 100000 in
theorem CursorReads_walk (a0 : Option Addr) (len0 cap0 : Nat) (z0 : List Int) (a1 : Option Addr) (len1 cap1 : Nat) (z1 : List Int) (w : World) (w0 : Came .u8 w a0 len0 cap0 z0) (w1 : Came .i64 w a1 len1 cap1 z1) :
    Calls Try.prog 3 #[.slice a0 len0 cap0, .slice a1 len1 cap1] w fun e w' => e = .returned (.bool true) ∧ Below w.heap.size w w' := by
  have hlc : len0 ≤ cap0 := by rcases w0 with ⟨_, h, _⟩ | ⟨_, _, h, _⟩ <;> omega
  have hcm : cap0 ≤ maxLen := by rcases w0 with ⟨_, _, h, _⟩ | ⟨_, _, _, h, _⟩; (subst h; exact Nat.zero_le _); exact h
  have hlc1 : len1 ≤ maxLen := by rcases w1 with ⟨_, h, _⟩ | ⟨_, _, h, h2, _⟩; (subst h; exact Nat.zero_le _); (exact Nat.le_trans h h2)
  have hnil : a0 = none → len0 = 0 := by rcases w0 with ⟨_, h, _⟩ | ⟨x, h, _⟩; (intro _; exact h); (intro h2; rw [h] at h2; cases h2)
  have W0 := hide w0
  have W1 := hide (came_rd w1 len1 (Nat.le_refl _))
  have Z1 : Hid (len1 ≤ z1.length) := by
    rcases w1 with ⟨_, h, _⟩ | ⟨_, _, h, h2, h3, _⟩
    · subst h; exact Nat.zero_le _
    · show _ ≤ _; rw [h3]; exact h
  clear w0 w1
  obtain ⟨L, hL⟩ : ∃ L, L = min len0 100 := ⟨_, rfl⟩
  have hL1 : L ≤ 100 := by omega
  have hL2 : L ≤ len0 := by omega
  have HS : Hid (∀ W, Calls Try.prog 7 #[.slice a0 len0 cap0, .int .i64 100] W fun e w' => e = .returned (.slice a0 L cap0) ∧ W = w') := hide fun W => by
    have := short_any a0 len0 cap0 100 W hlc hnil (by omega) hcm
    rwa [show min len0 (Int.toNat 100) = L from hL.symm] at this
  have hm := hcm
  unfold maxLen at hm hlc1
  clear hL hcm
  obtain ⟨xs, hxs⟩ : ∃ xs, xs = z0.take L := ⟨_, rfl⟩
  have Hrd : Hid (Rd w w.heap.size a0 L (bys xs)) := by rw [hxs]; exact came_rd W0.out L (by omega)
  have HX : Hid (IsBytes xs) := by rw [hxs]; exact (came_bytes W0.out).take _
  have Hlen : Hid (xs.length = L) := by have := Hrd.out.1; rw [bys_len] at this; exact this
  clear hxs W0
  obtain ⟨i0, hi0, hz0, hz1, hz2⟩ := info_parts u8info
  go_enter Try.func3, Try.ntmps3
  go_wp2_with fail
  refine (begun_is w).mono ?_
  rintro e w1 ⟨rfl, hb1⟩
  go_wp2_with fail
  refine (HS.out _).mono ?_
  rintro e w2 ⟨rfl, rfl⟩
  have Hrd1 := hide (Hrd.out.below hb1)
  go_wp2_with (at_builtin; refine wpList_append_rd _ rfl (.const (.slice none 0 0)) (.tmp 16) 22 rfl w.heap.size 5 i0 _ 1 Try.underlying22 hi0 hz0 hz1 hz2 rfl (.slice none 0 0) 0 [] rfl (World.ownsRow_nil _ _ _ _) w.heap.size a0 L cap0 (bys xs) rfl Hrd1.out (bys_one xs) (by unfold maxLen; omega) (by omega) hb1.size ?_)
  intro v1 w2 hown1 hg1
  try simp only [Nat.zero_add, List.nil_append] at hown1
  obtain ⟨A1, c1, hv1, hs1, hlc1'⟩ := own_src hown1
  have hb2 : Below w.heap.size w w2 := hb1.grown hg1 hb1.size (by simp [Value.ownBlock])
  rw [hv1]
  have Hs1 := hide hs1
  have Hb2 := hide hb2
  clear hown1 hv1 hs1 hg1 hb1 hb2
  go_wp2_with fail
  refine (new_any A1 L c1 xs w2 _ Hs1.out.rd (Nat.le_refl _) (by omega) HX.out).mono ?_
  rintro e w3 ⟨g, gb, rfl, hc3, hg3, hgb3, hb3⟩
  have Hs3 := hide (Hs1.out.new (grown_below hb3 none) (by simp))
  have Hb3 := hide (Hb2.out.trans (hb3.mono Hb2.out.size))
  have Hg3 := hide (show w.heap.size ≤ g from Nat.le_trans Hb2.out.size hg3)
  have Hc3 := hide hc3
  clear hc3 hg3 hgb3 hb3
  go_wp2_with (at_builtin; refine wpList_append_rd _ rfl (.const (.slice none 0 0)) (.tmp 20) 22 rfl w.heap.size 5 i0 _ 1 Try.underlying22 hi0 hz0 hz1 hz2 rfl (.slice none 0 0) 0 [] rfl (World.ownsRow_nil _ _ _ _) w3.heap.size A1 L c1 (bys xs) rfl Hs3.out.rd (bys_one xs) (by unfold maxLen; omega) (by omega) Hb3.out.size ?_)
  intro v2 w4 hown2 hg4
  try simp only [Nat.zero_add, List.nil_append] at hown2
  obtain ⟨A2, c2, hv2, hs2, hlc2⟩ := own_src hown2
  rw [hv2]
  have Hs4 := hide (Hs3.out.new hg4 (by simp [Value.ownBlock]))
  have Hc4 := hide (Hc3.out.grown hg4 (by simp [Value.ownBlock]) (by simp [Value.ownBlock]))
  have Hb4 := hide (Hb3.out.grown hg4 Hb3.out.size (by simp [Value.ownBlock]))
  have Hs2 := hide hs2
  clear hown2 hv2 hs2 hg4 Hs3 Hc3
  go_wp2_with fail
  have hB : Both w.heap.size (w4.alloc (.cells #[.slice A2 L c2, .int .i64 0, .bool false] 30)) g gb w4.heap.size A1 A2 c2 xs 0 false 0 false := by
    refine ⟨Hc4.out.grown (World.grownBy_alloc w4 _ none) (by simp) (by simp), ⟨?_, ?_, Nat.zero_le _, HX.out, by rw [Hlen.out]; omega, by rw [Hlen.out]; exact hlc2⟩, ?_, Hg3.out, Hb4.out.size⟩
    · rw [Hlen.out]; exact At.new w4 30 [.slice A2 L c2, .int .i64 0, .bool false]
    · rw [Hlen.out]; exact Hs2.out.new (World.grownBy_alloc w4 _ none) (by simp)
    · rw [Hlen.out]; exact Hs4.out.new (World.grownBy_alloc w4 _ none) (by simp)
  have HB := hide hB
  have Hb5 : Hid (Below w.heap.size w (w4.alloc (.cells #[.slice A2 L c2, .int .i64 0, .bool false] 30))) := hide (Hb4.out.alloc Hb4.out.size _)
  have Hr : Hid (w.heap.size ≤ w4.heap.size) := hide Hb4.out.size
  clear hB Hs1 Hb2 Hb3 Hb4 Hg3 Hs4 Hc4 Hs2 HS
  obtain ⟨W, HW⟩ : ∃ W, Hid (W = w4.alloc (.cells #[.slice A2 L c2, .int .i64 0, .bool false] 30)) := ⟨_, rfl⟩
  rw [← HW.out] at HB Hb5 ⊢
  clear HW
  generalize w4.heap.size = r at *
  go_loopw [8] (fun i wr => ∃ (j k : Nat) (bad : Bool), j ≤ len1 ∧ j ≤ 30 ∧ i = .int .i64 j ∧ Both w.heap.size wr g gb r A1 A2 c2 xs k bad k bad ∧ Below w.heap.size w wr) (fun i _ => (30 - (intOf i).toNat))
  case atStart => exact ⟨0, 0, false, Nat.zero_le _, Nat.zero_le _, rfl, HB.out, Hb5.out⟩
  case round =>
    obtain ⟨j, k, bad, hj, hj30, rfl, hB, hb⟩ := hrel
    obtain ⟨wo, rfl⟩ : ∃ wo : World, wo = wr := ⟨_, rfl⟩
    by_cases hgo : j < len1 ∧ j < 30
    · obtain ⟨hg1, hg2⟩ := hgo
      have hd1 : decide ((j : Int) < (len1 : Int)) = true := by simp; omega
      have hd2 : decide ((j : Int) < 30) = true := by simp; omega
      obtain ⟨ga, oa, rfl, hga, hcs⟩ := (W1.out.below hb).2 (by omega)
      have hcell : wo.cell? ⟨ga, oa + j, none⟩ = some (.int .i64 (z1.getD j 0)) := hcs j _ (by have := Z1.out; simp [hg1, List.getD, show j < z1.length by omega])
      clear hcs
      generalize z1.getD j 0 = n at *
      have Hops : Hid (∀ W, Below w.heap.size wo W → ga < w.heap.size → W.cell? ⟨ga, oa + j, none⟩ = some (.int .i64 n)) := hide fun W h hl => (h.cell (p := ⟨ga, oa + j, none⟩) hl).trans hcell
      have HB := hide hB
      have Hb := hide hb
      clear hB hb
      by_cases h1 : n = 1
      · subst h1
        go_wp2_with fail
        refine (u1_any g gb xs k bad wo HB.out.c _ _ _ rfl rfl rfl).mono ?_
        rintro e w7 ⟨rfl, hc7, hg7⟩
        have HB7 := hide (HB.out.turnC hc7 hg7)
        have Hb7 := hide (Hb.out.grown hg7 Hb.out.size (by intro k hk; cases hk; exact HB.out.lg))
        clear hc7 hg7 HB Hb
        go_wp2_with fail
        refine (rn_is r w.heap.size A2 c2 xs k 1 bad w7 HB7.out.f (by omega) (by omega)).mono ?_
        rintro e w8 ⟨rfl, hc8, hg8⟩
        have HB8 := hide (HB7.out.turnR hc8 hg8)
        have Hb8 := hide (Hb7.out.grown hg8 Hb7.out.size (by intro k hk; cases hk; exact HB7.out.lr))
        clear hc8 hg8 HB7 Hb7
        generalize be (got xs k bad 1) = v at *
        generalize went xs k bad 1 = k1 at *
        generalize (!okd xs k bad 1) = bad1 at *
        have h1 : w8.cell? ⟨r, 1, none⟩ = some (.int .i64 k1) := HB8.out.f.1.cell 1
        have h2 : w8.cell? ⟨r, 2, none⟩ = some (.bool bad1) := HB8.out.f.1.cell 2
        go_wp2_with fail
        cases bad1
        all_goals
          go_quiet ((first | (go_at_call 15; exact at_q HB8.out.c _) | (go_at_call 16; exact left_q HB8.out.c _ L Hlen.out) | (go_at_call 17; exact rleft_q HB8.out.f _ L Hlen.out) | (go_at_call 18; exact ok_q HB8.out.c _)))
          go_wp2
          go_roundw
          case rel => exact ⟨j + 1, _, _, by omega, by omega, by go_num, HB8.out.drewN _, below_drewN Hb8.out _⟩
          case measure => simp [intOf]; omega
      · have e1 : (n == 1) = false := by simp [h1]
        clear h1
        by_cases h2 : n = 2
        · subst h2
          clear e1
          go_wp2_with fail
          refine (u2_any g gb xs k bad wo HB.out.c _ _ _ rfl rfl rfl).mono ?_
          rintro e w7 ⟨rfl, hc7, hg7⟩
          have HB7 := hide (HB.out.turnC hc7 hg7)
          have Hb7 := hide (Hb.out.grown hg7 Hb.out.size (by intro k hk; cases hk; exact HB.out.lg))
          clear hc7 hg7 HB Hb
          go_wp2_with fail
          refine (rn_is r w.heap.size A2 c2 xs k 2 bad w7 HB7.out.f (by omega) (by omega)).mono ?_
          rintro e w8 ⟨rfl, hc8, hg8⟩
          have HB8 := hide (HB7.out.turnR hc8 hg8)
          have Hb8 := hide (Hb7.out.grown hg8 Hb7.out.size (by intro k hk; cases hk; exact HB7.out.lr))
          clear hc8 hg8 HB7 Hb7
          generalize be (got xs k bad 2) = v at *
          generalize went xs k bad 2 = k1 at *
          generalize (!okd xs k bad 2) = bad1 at *
          have h1 : w8.cell? ⟨r, 1, none⟩ = some (.int .i64 k1) := HB8.out.f.1.cell 1
          have h2 : w8.cell? ⟨r, 2, none⟩ = some (.bool bad1) := HB8.out.f.1.cell 2
          go_wp2_with fail
          cases bad1
          all_goals
            go_quiet ((first | (go_at_call 15; exact at_q HB8.out.c _) | (go_at_call 16; exact left_q HB8.out.c _ L Hlen.out) | (go_at_call 17; exact rleft_q HB8.out.f _ L Hlen.out) | (go_at_call 18; exact ok_q HB8.out.c _)))
            go_wp2
            go_roundw
            case rel => exact ⟨j + 1, _, _, by omega, by omega, by go_num, HB8.out.drewN _, below_drewN Hb8.out _⟩
            case measure => simp [intOf]; omega
        · have e2 : (n == 2) = false := by simp [h2]
          clear h2
          by_cases h4 : n = 4
          · subst h4
            clear e1 e2
            go_wp2_with fail
            refine (u4_any g gb xs k bad wo HB.out.c _ _ _ rfl rfl rfl).mono ?_
            rintro e w7 ⟨rfl, hc7, hg7⟩
            have HB7 := hide (HB.out.turnC hc7 hg7)
            have Hb7 := hide (Hb.out.grown hg7 Hb.out.size (by intro k hk; cases hk; exact HB.out.lg))
            clear hc7 hg7 HB Hb
            go_wp2_with fail
            refine (rn_is r w.heap.size A2 c2 xs k 4 bad w7 HB7.out.f (by omega) (by omega)).mono ?_
            rintro e w8 ⟨rfl, hc8, hg8⟩
            have HB8 := hide (HB7.out.turnR hc8 hg8)
            have Hb8 := hide (Hb7.out.grown hg8 Hb7.out.size (by intro k hk; cases hk; exact HB7.out.lr))
            clear hc8 hg8 HB7 Hb7
            generalize be (got xs k bad 4) = v at *
            generalize went xs k bad 4 = k1 at *
            generalize (!okd xs k bad 4) = bad1 at *
            have h1 : w8.cell? ⟨r, 1, none⟩ = some (.int .i64 k1) := HB8.out.f.1.cell 1
            have h2 : w8.cell? ⟨r, 2, none⟩ = some (.bool bad1) := HB8.out.f.1.cell 2
            go_wp2_with fail
            cases bad1
            all_goals
              go_quiet ((first | (go_at_call 15; exact at_q HB8.out.c _) | (go_at_call 16; exact left_q HB8.out.c _ L Hlen.out) | (go_at_call 17; exact rleft_q HB8.out.f _ L Hlen.out) | (go_at_call 18; exact ok_q HB8.out.c _)))
              go_wp2
              go_roundw
              case rel => exact ⟨j + 1, _, _, by omega, by omega, by go_num, HB8.out.drewN _, below_drewN Hb8.out _⟩
              case measure => simp [intOf]; omega
          · have e4 : (n == 4) = false := by simp [h4]
            clear h4
            go_wp2_with fail
            refine (bytes_any g gb xs k n bad wo HB.out.c).mono ?_
            rintro e w7 ⟨q, rfl, hq7, ha7, hc7, hg7⟩
            have HB7 := hide (HB.out.turnC hc7 hg7)
            have Hb7 := hide (Hb.out.grown hg7 Hb.out.size (by intro k hk; cases hk; exact HB.out.lg))
            have hb7 : Below w.heap.size wo w7 := (Below.refl _ _).grown hg7 Hb.out.size (by intro k hk; cases hk; exact HB.out.lg)
            have hc7' := Hops.out w7 hb7 hga
            have Ha7 := hide ha7
            have Hq7 := hide (show w.heap.size ≤ q ∧ q ≠ g ∧ q ≠ r ∧ q ≠ gb from ⟨Nat.le_trans Hb.out.size hq7, fun e => by have := HB.out.c.1.lt; omega, fun e => by have := HB.out.f.1.lt; omega, fun e => by have := HB.out.c.2.1.lt; omega⟩)
            have Hs7 : Hid (∀ A n ys, Src wo w.heap.size 5 A n ys → ∀ W W', W.grownBy W' (some q) → Src W w.heap.size 5 A n ys → Src W' w.heap.size 5 A n ys) := hide fun A n ys h W W' hg hs => by
              rcases h with h | ⟨g', ex, rfl, hb', hl, ha⟩
              · exact .inl h
              · rcases hs with ⟨h, _⟩ | ⟨g2, ex2, h, hb2, hl2, ha2⟩
                · cases h
                · cases h
                  exact .inr ⟨_, ex2, rfl, hb2, hl2, ha2.grown hg (by have := ha.lt; simp; omega)⟩
            have HF := hide HB.out.f.2.1
            have HS := hide HB.out.b
            clear hc7 hg7 ha7 hq7 hb7 hcell HB Hb
            go_wp2_with fail
            refine (rs_is r w.heap.size A2 c2 xs k n bad w7 HB7.out.f).mono ?_
            rintro e w8 ⟨B8, d8, rfl, hr8, hc8, hg8⟩
            have HB8 := hide (HB7.out.turnR hc8 hg8)
            have Hb8 := hide (Hb7.out.grown hg8 Hb7.out.size (by intro k hk; cases hk; exact HB7.out.lr))
            have ha8 := Ha7.out.grown hg8 (by simpa using Hq7.out.2.2.1)
            clear hc8 hg8 HB7 Hb7 Ha7 hc7'
            have hzl : (got xs k bad n).length ≤ 100 := Nat.le_trans (got_len xs k bad n) (by rw [Hlen.out]; omega)
            generalize got xs k bad n = zs at *
            generalize went xs k bad n = k1 at *
            generalize (!okd xs k bad n) = bad1 at *
            have s1 := str_rd (c := zs.length) (show Rd w8 w8.heap.size (some ⟨q, 0, none⟩) zs.length (bys zs) by simpa [List.take_of_length_le (Nat.le_of_eq (bys_len zs))] using ha8.rd 0 zs.length (by simp [bys_len]))
            have s2 := str_rd (c := d8) hr8
            generalize strOfNums zs = S at *
            have Ha8 := hide ha8
            clear ha8 hr8
            generalize hml : zs.length = m at *
            have Hml := hide hml
            clear hml
            go_wp2_with fail
            go_loopw [11] (fun i wr => ∃ (c : Nat) (ys : List Int), c ≤ m ∧ i = .int .i64 c ∧ ys.length = m ∧ At wr q 5 (bys ys) ∧ w8.grownBy wr (some q)) (fun i _ => m - (intOf i).toNat)
            case atStart => exact ⟨0, zs, Nat.zero_le _, rfl, Hml.out, Ha8.out, grown_refl _ _⟩
            case round =>
              obtain ⟨c, ys, hc, rfl, hyl, hat, hgr⟩ := hrel
              have Hyl := hide hyl
              have Hgr := hide hgr
              have Hat := hide hat
              by_cases hcm : c < m
              · have cellc : wr.cell? ⟨q, c, none⟩ = some (.int .u8 (ys.getD c 0)) := by rw [hat.cell]; simp [bys, List.getD, show c < ys.length by omega]
                have freec := hat.free c
                clear hyl hgr hat
                go_wp2
                go_roundw
                case rel => 
                  refine ⟨c + 1, ys.set c (bits .xor .u8 (ys.getD c 0) 5), by omega, by go_num, by rw [List.length_set]; exact Hyl.out, ?_, grown_trans Hgr.out (only_set _)⟩
                  have := Hat.out.set c (.int .u8 (bits .xor .u8 (ys.getD c 0) 5))
                  simpa [bys, List.map_set] using this
                case measure => simp [intOf]; omega
              · clear hyl hgr hat
                have hb9 : Both w.heap.size wr g gb r A1 A2 c2 xs k1 bad1 k1 bad1 :=
                  ⟨HB8.out.c.grown Hgr.out (by simpa using Hq7.out.2.1.symm) (by simpa using Hq7.out.2.2.2.symm), ⟨HB8.out.f.1.grown Hgr.out (by simpa using Hq7.out.2.2.1.symm), Hs7.out _ _ _ HF.out _ _ Hgr.out HB8.out.f.2.1, HB8.out.f.2.2⟩, Hs7.out _ _ _ HS.out _ _ Hgr.out HB8.out.b, HB8.out.lg, HB8.out.lr⟩
                have HB9 := hide hb9
                have Hb9 := hide (Hb8.out.grown Hgr.out Hb8.out.size (by intro k hk; cases hk; exact Hq7.out.1))
                clear hb9
                have h1 : wr.cell? ⟨r, 1, none⟩ = some (.int .i64 k1) := HB9.out.f.1.cell 1
                have h2 : wr.cell? ⟨r, 2, none⟩ = some (.bool bad1) := HB9.out.f.1.cell 2
                go_wp2_with fail
                cases bad1
                all_goals
                  go_quiet ((first | (go_at_call 15; exact at_q HB9.out.c _) | (go_at_call 16; exact left_q HB9.out.c _ L Hlen.out) | (go_at_call 17; exact rleft_q HB9.out.f _ L Hlen.out) | (go_at_call 18; exact ok_q HB9.out.c _)))
                  go_wp2
                  go_roundw
                  case rel => exact ⟨j + 1, _, _, by omega, by omega, by go_num, HB9.out.drewN _, below_drewN Hb9.out _⟩
                  case measure => simp [intOf]; omega
    · have s1 : ∀ q, (convert 22 9 (.slice A1 L c1)).run Try.prog (wo.drewN q) = .ok (.string (strOfNums xs)) (wo.drewN q) := fun q => by
        have := str_rd (c := c1) (hB.b.drewN q).rd
        rwa [Hlen.out] at this
      have s2 : ∀ q, (convert 22 9 (.slice A2 L c2)).run Try.prog (wo.drewN q) = .ok (.string (strOfNums xs)) (wo.drewN q) := fun q => by
        have := str_rd (c := c2) (hB.f.2.1.drewN q).rd
        rwa [Hlen.out] at this
      have c0 : wo.cell? ⟨r, 0, none⟩ = some (.slice A2 L c2) := by have := hB.f.1.cell 0; rw [Hlen.out] at this; exact this
      generalize strOfNums xs = S at *
      have Hb := hide hb
      clear hB hb HB Hb5 hnil
      by_cases hlt : j < len1
      · have hd1 : decide ((j : Int) < (len1 : Int)) = true := by simp; omega
        have hd2 : decide ((j : Int) < 30) = false := by simp; omega
        clear hgo
        go_wp2
        go_quiet (fail)
        go_wp2
        go_ret
        exact ⟨rfl, below_drewN Hb.out _⟩
      · have hd1 : decide ((j : Int) < (len1 : Int)) = false := by simp; omega
        clear hgo
        go_wp2
        go_quiet (fail)
        go_wp2
        go_ret
        exact ⟨rfl, below_drewN Hb.out _⟩
end Go.Proofs.Yteikjaeplaedhaa
