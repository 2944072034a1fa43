/- Texts of one stage, merged. Nothing is claimed here. -/
import Derived.Test.YtdhalpmgfmbcgaaDoorPackH
import Derived.Test.YtdhalpmgfmbcgaaDoorPackE
import Derived.Test.YtdhalpmgfmbcgaaDoorPackG
namespace Go.Proofs.YtdhalpmgfmbcgaaDoor
open Go.RowKit
theorem slice_from (a : Option Addr) (len cap f : Nat) (hf : f ≤ len) (W : World) :
    (Instr.slice 22 (.slice a len cap) (some (.int .i64 (f : Int))) none none).run Tryd.prog W = .ok (.slice (if cap = f then a else a.map (·.add f)) (len - f) (cap - f)) W := by
  obtain ⟨i0, hi0, hz0, hz1, hz2⟩ := info_parts u8info
  simp [Instr.slice, run_underlying Tryd.underlying22, Instr.sliceBounds, Instr.sliceBound, asIntOf, hf, go_sem, sizeOf, typeInfo, hi0, hz1]
theorem Rd.part {w : World} {B : Nat} {g o n : Nat} {xs : List Value} (h : Rd w B (some ⟨g, o, none⟩) n xs) (f m : Nat) (hm : f + m ≤ n) : Rd w B (some ⟨g, o + f, none⟩) m ((xs.drop f).take m) :=
  ⟨by have := h.1; simp; omega, fun h0 => by
    obtain ⟨g', o', e, hg, hc⟩ := h.2 (by omega)
    cases e
    refine ⟨g, o + f, rfl, hg, fun j u hu => ?_⟩
    rw [Nat.add_assoc]
    refine hc (f + j) u ?_
    simp only [List.getElem?_take, List.getElem?_drop] at hu
    split at hu
    · exact hu
    · cases hu⟩
theorem pool_len {l : List Int} {ps : List Cst} {m : Nat} (h : pool l = some (ps, m)) : ps.length ≤ 1000 := by
  rw [pool_raw] at h
  cases hr : raw l with
  | none => rw [hr] at h; cases h
  | some x =>
    obtain ⟨qs, k⟩ := x
    rw [hr] at h
    simp only at h
    split at h
    · cases h; exact raw_len hr
    · cases h
theorem rdc_far {w w' : World} {B r : Nat} {A : Option Addr} {n : Nat} {ps : List Cst} {k : Int} {b : Bool} {A1 : Option Addr} {a c : Nat} (h : RdC w B A n ps) (hr : At w r 29 [.slice A1 a c, .int .i64 k, .bool b]) (hg : w.grownBy w' (some r)) (hB : B ≤ w.heap.size) : RdC w' w'.heap.size A n ps := by
  refine ⟨h.1, fun hn => ?_⟩
  obtain ⟨g, o, e, hgB, hc⟩ := h.2 hn
  have hne : g ≠ r := by
    rintro rfl
    have c0 := hc 0 _ (by have := ccells_at ps 0 0 (by rw [h.1]; exact hn) (by decide); exact this)
    have c1 := hc 1 _ (by have := ccells_at ps 0 1 (by rw [h.1]; exact hn) (by decide); exact this)
    rw [hr.cell] at c0 c1
    simp only [List.getElem?_cons_succ] at c0 c1
    match o, c0, c1 with
    | 0, c0, _ => simp at c0
    | 1, _, c1 => simp at c1
    | 2, c0, _ => simp at c0
    | o + 3, c0, _ => simp at c0
  refine ⟨g, o, e, by have := hg.size; omega, fun j u hu => ?_⟩
  have hb := hg.block g (by omega) (by simpa using hne)
  have := hc j u hu
  unfold World.cell? at this ⊢
  simpa [hb] using this
theorem memberV_pair (o : Option (List Int × List Int × List Int)) : memberV o = .tuple #[.string (strOfNums (o.getD ([], [], [])).1), .string (strOfNums (o.getD ([], [], [])).2.1), .string (strOfNums (o.getD ([], [], [])).2.2), .bool o.isSome] := by
  cases o with
  | none => rfl
  | some t => rfl
theorem same_q {A A' : Option Addr} {n c c' : Nat} {ps : List Cst} {w8 W : World} {B B' : Nat} (h : RdC w8 B A n ps) (h' : RdC w8 B' A' n ps) (hn : n ≤ 1000000) (hW : ∃ q, W = w8.drewN q) :
    Calls Tryd.prog 11 #[.slice A n c, .slice A' n c'] W fun e w' => e = .returned (.bool true) ∧ ∃ q, w' = w8.drewN q := by
  obtain ⟨q, rfl⟩ := hW
  exact (psame_yes A A' n c c' ps _ B B' (h.drewN q) (h'.drewN q) hn).mono fun e w' ⟨he, m, hw⟩ => ⟨he, q + m, by rw [hw, World.drewN_drewN]⟩
theorem at_w {g gb : Nat} {xs : List Int} {k : Nat} {bad : Bool} {w8 W : World} (h : Cur w8 g gb xs k bad) (hW : ∃ q, W = w8.drewN q) : Calls Tryd.prog 12 #[.pointer (some ⟨g, 0, none⟩)] W fun e w' => e = .returned (.int .i64 k) ∧ ∃ q, w' = w8.drewN q := by
  obtain ⟨q, rfl⟩ := hW
  exact (at_any g gb xs k bad (w8.drewN q) h).mono fun e w' ⟨he, hw⟩ => ⟨he, q, hw.symm⟩
end Go.Proofs.YtdhalpmgfmbcgaaDoor
namespace Go.Proofs.YtdhalpmgfmbcgaaDoor
open Go.RowKit

theorem xor_range (x y : Int) : 0 ≤ bits .xor .u8 x y ∧ bits .xor .u8 x y < 256 := by
  show 0 ≤ IntKind.u8.wrap _ ∧ IntKind.u8.wrap _ < 256
  rw [IntKind.wrap_u8]; omega

set_option maxHeartbeats 4000000 in
set_option maxRecDepth 100000 in
theorem PoolRead_11 (a0 : Option Addr) (len0 cap0 : Nat) (z0 : List Int) (a1 a2 a3 : Int) (w : World) (w0 : Came .u8 w a0 len0 cap0 z0) (_w1 : (Lit.int .i64 a1).wf = true) (w2 : (Lit.int .u8 a2).wf = true) (_w3 : (Lit.int .i64 a3).wf = true) (hmx : Maxed w) (c3 : a3 < 0) (c1 : a1 < 0) :
    Calls Tryd.prog 3 #[.slice a0 len0 cap0, .int .i64 a1, .int .u8 a2, .int .i64 a3] w fun e w' => e = .returned (.bool true) ∧ Below w.heap.size w w' := by
  obtain ⟨hlc, hcm, hnil⟩ := came_lens w0
  have ha2 : 0 ≤ a2 ∧ a2 ≤ 255 := by simpa [Lit.wf, IntKind.min, IntKind.max, IntKind.signed, IntKind.bits] using w2
  obtain ⟨f, hf⟩ : ∃ f : Nat, f = if a3 < 0 ∨ (len0 : Int) < a3 then 0 else a3.toNat := ⟨_, rfl⟩
  have hfl : f ≤ len0 := by rw [hf]; split <;> omega
  obtain ⟨L, hL⟩ : ∃ L, L = min (len0 - f) 3000 := ⟨_, rfl⟩
  obtain ⟨A', hA'⟩ : ∃ A', A' = if cap0 = f then a0 else a0.map (·.add f) := ⟨_, rfl⟩
  obtain ⟨xs, hxs⟩ : ∃ xs, xs = ((z0.take len0).drop f).take L := ⟨_, rfl⟩
  have hL1 : L ≤ 3000 := by omega
  have hbx : IsBytes xs := by rw [hxs]; exact (((came_bytes w0).take _).drop _).take _
  have hrd : Rd w w.heap.size A' L (bys xs) := by
    by_cases h0 : L = 0
    · rw [hxs, h0, List.take_zero]; exact Rd.nil _ _ _
    · have hr := came_rd w0 len0 (Nat.le_refl _)
      obtain ⟨g, o, rfl, _⟩ := hr.2 (by omega)
      have := hr.part f L (by omega)
      rw [hA', if_neg (by omega), hxs]
      simp only [Option.map_some, add_none]
      rw [← List.map_drop, ← List.map_take] at this
      exact this
  have hSl := fun W => slice_from a0 len0 cap0 f hfl W
  rw [← hA'] at hSl
  have HS : Hid (∀ W, Calls Tryd.prog 7 #[.slice A' (len0 - f) (cap0 - f), .int .i64 3000] W fun e w' => e = .returned (.slice A' L (cap0 - f)) ∧ W = w') := hide fun W => by
    have := short_any A' (len0 - f) (cap0 - f) 3000 W (by omega) (fun h => by
      rw [hA'] at h
      split at h
      · have := hnil h; omega
      · cases a0 with
        | none => have := hnil rfl; omega
        | some x => cases h) (by omega) (by omega)
    rwa [show min (len0 - f) (Int.toNat 3000) = L from hL.symm] at this
  have HB := hide (fun W hW => pbegun_is reads_pool says_class W hW)
  have HRd := hide reads_pool
  have MX := hide hmx
  have Hrd := hide hrd
  have HX := hide hbx
  have Hlen : Hid (xs.length = L) := hide (by have := hrd.1; rwa [bys_len] at this)
  obtain ⟨i0, hi0, hz0, hz1, hz2⟩ := info_parts u8info
  unfold maxLen at hcm
  clear hA' hxs hL hrd hbx hmx w0 w2 hnil
  obtain ⟨N0, hN0⟩ : ∃ N0, N0 = len0 - f := ⟨_, rfl⟩
  obtain ⟨C0, hC0⟩ : ∃ C0, C0 = cap0 - f := ⟨_, rfl⟩
  rw [← hN0, ← hC0] at hSl
  rw [← hN0, ← hC0] at HS
  clear hN0 hC0
  have h3 : (a3 < 0 ∧ f = 0) ∨ (¬ a3 < 0 ∧ (len0 : Int) < a3 ∧ f = 0) ∨ (¬ a3 < 0 ∧ ¬ (len0 : Int) < a3 ∧ a3 = (f : Int)) := by
    rw [hf]
    by_cases q1 : a3 < 0
    · exact .inl ⟨q1, by rw [if_pos (.inl q1)]⟩
    · by_cases q2 : (len0 : Int) < a3
      · exact .inr (.inl ⟨q1, q2, by rw [if_pos (.inr q2)]⟩)
      · exact .inr (.inr ⟨q1, q2, by rw [if_neg (by omega)]; omega⟩)
  clear hf
  have h1 : a1 < 0 ∨ (¬ a1 < 0 ∧ (L : Int) ≤ a1) ∨ ∃ j : Nat, a1 = j ∧ j < L := by
    by_cases q1 : a1 < 0
    · exact .inl q1
    · by_cases q2 : (L : Int) ≤ a1
      · exact .inr (.inl ⟨q1, q2⟩)
      · exact .inr (.inr ⟨a1.toNat, by omega, by omega⟩)
  rcases h3 with ⟨q1, rfl⟩ | ⟨q1, q2, rfl⟩ | ⟨q1, q2, rfl⟩
  · have hSl0 : ∀ W, (Instr.slice 22 (.slice a0 len0 cap0) (some (.int .i64 0)) none none).run Tryd.prog W = .ok (.slice A' N0 C0) W := hSl
    clear hSl
    rcases h1 with q3 | ⟨q3, q4⟩ | ⟨j, rfl, q3⟩
    · clear c3 c1
      go_enter Tryd.func3, Tryd.ntmps3
      go_wp2_with fail
      refine (HB.out w MX.out).mono ?_
      rintro e w2 ⟨rfl, hb2⟩
      have Hb2 := hide hb2
      have hbs2 := hb2.size
      have Hrd2 := hide (Hrd.out.below hb2)
      clear hb2
      go_wp2_with fail
      refine (HS.out _).mono ?_
      rintro e w3 ⟨rfl, rfl⟩
      go_wp2_with (at_builtin; refine wpList_append_rd _ rfl (.const (.slice none 0 0)) (.tmp 47) 22 rfl w.heap.size 5 i0 _ 1 Tryd.underlying22 hi0 hz0 hz1 hz2 rfl (.slice none 0 0) 0 [] rfl (World.ownsRow_nil _ _ _ _) w.heap.size A' L C0 (bys xs) rfl Hrd2.out (bys_one xs) (by unfold maxLen; omega) (by omega) hbs2 ?_)
      intro v1 w4 hown1 hg1
      try simp only [Nat.zero_add, List.nil_append] at hown1
      obtain ⟨A1, c1, hv1, hs1, hlc1'⟩ := own_src hown1
      have hb4 : Below w.heap.size w w4 := Hb2.out.grown hg1 Hb2.out.size (by simp [Value.ownBlock])
      rw [hv1]
      have Hs4 := hide hs1
      have Hb4 := hide hb4
      clear hown1 hv1 hs1 hg1 hb4 Hb2 Hrd2
      obtain ⟨ys, hys⟩ : ∃ ys, ys = xs := ⟨_, rfl⟩
      rw [← hys] at Hs4 HX Hlen
      clear hys
      go_wp2_with fail
      refine (new_any A1 L c1 ys w4 _ Hs4.out.rd (Nat.le_refl _) (by omega) HX.out).mono ?_
      rintro e w5 ⟨gc, gb, rfl, hc5, hgc5, hgb5, hb5⟩
      have Hs5 := hide (Hs4.out.new (grown_below hb5 none) (by simp))
      have Hb5 := hide (Hb4.out.trans (hb5.mono Hb4.out.size))
      have Hgc := hide (show w.heap.size ≤ gc from Nat.le_trans Hb4.out.size hgc5)
      have Hc5 := hide hc5
      clear hc5 hgc5 hgb5 hb5 Hs4 Hb4
      go_wp2_with fail
      have hB : Both w.heap.size (w5.alloc (.cells #[.slice A1 L c1, .int .i64 0, .bool false] 29)) gc gb w5.heap.size A1 A1 c1 ys 0 false 0 false := by
        refine ⟨Hc5.out.grown (World.grownBy_alloc w5 _ none) (by simp) (by simp), ⟨?_, ?_, Nat.zero_le _, HX.out, by rw [Hlen.out]; omega, by rw [Hlen.out]; exact hlc1'⟩, ?_, Hgc.out, Hb5.out.size⟩
        · rw [Hlen.out]; exact At.new w5 29 [.slice A1 L c1, .int .i64 0, .bool false]
        · rw [Hlen.out]; exact Hs5.out.new (World.grownBy_alloc w5 _ none) (by simp)
        · rw [Hlen.out]; exact Hs5.out.new (World.grownBy_alloc w5 _ none) (by simp)
      have HB5 := hide hB
      have Hb6 : Hid (Below w.heap.size w (w5.alloc (.cells #[.slice A1 L c1, .int .i64 0, .bool false] 29))) := hide (Hb5.out.alloc Hb5.out.size _)
      clear hB Hs5 Hb5 Hc5
      generalize w5.alloc (.cells #[.slice A1 L c1, .int .i64 0, .bool false] 29) = w6 at *
      generalize w5.heap.size = r at *
      refine (HRd.out gc gb ys 0 w6 (MX.out.below Hb6.out) HB5.out.c).mono ?_
      rintro e w7 ⟨hg7, h7⟩
      rw [List.drop_zero] at h7
      have hf7 : Ref w7 r w.heap.size A1 c1 ys 0 false := ⟨HB5.out.f.1.grown hg7 (by simpa using HB5.out.ne.symm), HB5.out.f.2.1.far HB5.out.c.1 (by decide) hg7, HB5.out.f.2.2⟩
      have HRP := hide (rpool_any r w.heap.size A1 c1 ys 0 w7 hf7)
      rw [List.drop_zero] at HRP
      have Hb7 := hide (Hb6.out.grown hg7 Hb6.out.size (by intro q hq; cases hq; exact Hgc.out))
      have hlr : w.heap.size ≤ r := HB5.out.lr
      have hngr : gc ≠ r := HB5.out.ne
      have hngb : r ≠ gb := HB5.out.f.1.ne HB5.out.c.2.1 (by decide)
      have HAr := hide hf7.1
      clear hg7 hf7 HB5 Hb6
      rcases h7 with ⟨h7, v7, rfl⟩ | ⟨ps, m, A5, c5, h7, rfl, hrd7, hc7, hwf7⟩
      · rw [h7] at HRP
        go_wp2_with fail
        refine HRP.out.mono ?_
        rintro e w8 ⟨hg8, ⟨_, rfl⟩ | ⟨_, _, _, h8, _⟩⟩
        · have Hb8 := hide (Hb7.out.grown hg8 Hb7.out.size (by intro q hq; cases hq; exact hlr))
          have h00 : (false != false) = false := rfl
          clear hg8 h7
          go_wp2_with fail
          refine wp_region_text (fun W => Below w.heap.size w W) (by kernel_rfl) (by kernel_rfl) (by kernel_rfl) Hb8.out.drew ?_
          repeat (first
            | (refine text_skip (by rfl) ?_
               simp only [Act.put, List.setIfInBounds_toArray, List.set_cons_zero, List.set_cons_succ])
            | (refine text_value (v := ?_) (by rfl) ?_ ?_
               rotate_left
               · (intro W hSw; go_simp; try with_reducible rfl)
               simp only [Act.put, List.setIfInBounds_toArray, List.set_cons_zero, List.set_cons_succ])
            | fail)
          refine text_end ?_
          intro W hSw
          have HSw := hide hSw
          clear hSw
          go_wp2_with fail
          go_loopw [16] (fun iv wr => iv = .int .i64 (-1) ∧ wr = W) (fun _ _ => 0)
          case atStart => exact ⟨rfl, rfl⟩
          case round =>
            obtain ⟨rfl, rfl⟩ := hrel
            go_wp2_with fail
            go_ret
            exact ⟨rfl, HSw.out⟩
        · cases h8
      · have hpl := pool_len h7
        rw [h7] at HRP
        have R7 := hide hrd7
        have C7 := hide hc7
        clear hrd7 hc7 hwf7 h7
        go_wp2_with fail
        refine HRP.out.mono ?_
        rintro e w8 ⟨hg8, ⟨h8, _⟩ | ⟨ps', m', A6, h8, rfl, hrd8, hf8, _⟩⟩
        · cases h8
        · cases h8
          have Hb8 := hide (Hb7.out.grown hg8 Hb7.out.size (by intro q hq; cases hq; exact hlr))
          have RA := hide (rdc_far R7.out HAr.out hg8 (Nat.le_refl _))
          have RB := hide hrd8
          have C8 := hide (C7.out.grown hg8 (by simpa using hngr) (by simpa using hngb.symm))
          have hr1 : w8.cell? ⟨r, 1, none⟩ = some (.int .i64 ((0 + m : Nat) : Int)) := hf8.1.cell 1
          clear hg8 hrd8 hf8 R7 C7 HRP HAr Hb7
          have h00 : (true != true) = false := rfl
          have hmm : (((0 + m : Nat) : Int) != ((0 + m : Nat) : Int)) = false := by simp
          generalize 0 + m = mm at *
          generalize hpn : ps.length = n at *
          go_wp2_with fail
          refine wp_region_text (fun W => ∃ q, W = w8.drewN q) (by kernel_rfl) (by kernel_rfl) (by kernel_rfl) ⟨1, rfl⟩ ?_
          repeat (first
            | (refine text_skip (by rfl) ?_
               simp only [Act.put, List.setIfInBounds_toArray, List.set_cons_zero, List.set_cons_succ])
            | (refine text_value (v := ?_) (by rfl) ?_ ?_
               rotate_left
               · (intro W hSw; obtain ⟨q, rfl⟩ := hSw; go_simp; try with_reducible rfl)
               simp only [Act.put, List.setIfInBounds_toArray, List.set_cons_zero, List.set_cons_succ])
            | (refine text_call (by rfl) ?_ (fun W hSw => same_q (c := c5) (c' := n) RA.out RB.out (by omega) hSw) ?_
               · (intro W hSw; go_simp; done)
               simp only [Act.put, List.setIfInBounds_toArray, List.set_cons_zero, List.set_cons_succ])
            | (refine text_call (by rfl) ?_ (fun W hSw => at_w C8.out hSw) ?_
               · (intro W hSw; go_simp; done)
               simp only [Act.put, List.setIfInBounds_toArray, List.set_cons_zero, List.set_cons_succ])
            | fail)
          refine text_end ?_
          intro W hSw
          obtain ⟨q, rfl⟩ := hSw
          have HbW := hide (below_drewN Hb8.out q)
          have RA2 := hide (RA.out.drewN q)
          have RB2 := hide (RB.out.drewN q)
          have RAz : Hid (w8.heap.size ≤ (w8.drewN q).heap.size) := hide (Nat.le_refl _)
          clear RA RB Hb8 C8 hr1
          generalize w8.drewN q = w9 at *
          go_wp2_with fail
          go_loopw [16] (fun iv wr => ∃ i : Int, -1 ≤ i ∧ i ≤ 80 ∧ iv = .int .i64 i ∧ Below w9.heap.size w9 wr) (fun iv _ => (80 - intOf iv).toNat)
          case atStart => exact ⟨-1, by omega, by omega, rfl, Below.refl _ _⟩
          case round =>
            obtain ⟨i, hi1, hi2, rfl, hbr⟩ := hrel
            have Hbr := hide hbr
            clear hbr
            by_cases u1 : i < (n : Int) + 2
            · by_cases u2 : i < 80
              · have T1 : Hid (∀ W, Below w9.heap.size w9 W → Calls Tryd.prog 13 #[.slice A5 n c5, .int .i64 i] W fun e w' => e = .returned (.tuple #[.string (strOfNums ((textAt ps i).getD [])), .bool (textAt ps i).isSome]) ∧ Below w9.heap.size w9 w') := hide fun W hb => by
                  rw [← textV_pair]
                  exact (text_is A5 n c5 ps i W ((RA2.out.below (hb.mono RAz.out)).mono (Nat.le_trans RAz.out hb.size))).mono fun e w' hh => ⟨hh.1, hb.trans (hh.2.mono hb.size)⟩
                have T2 : Hid (∀ W, Below w9.heap.size w9 W → Calls Tryd.prog 14 #[.slice A6 n n, .int .i64 i] W fun e w' => e = .returned (.tuple #[.string (strOfNums ((textAt ps i).getD [])), .bool (textAt ps i).isSome]) ∧ W = w') := hide fun W hb => by
                  rw [← textV_pair]
                  exact rtext5_any A6 n n ps _ i W (RB2.out.below (hb.mono RAz.out))
                have T3 : Hid (∀ W, Below w9.heap.size w9 W → Calls Tryd.prog 15 #[.slice A5 n c5, .int .i64 i] W fun e w' => e = .returned (.tuple #[.string (strOfNums ((classAt ps i).getD [])), .bool (classAt ps i).isSome]) ∧ Below w9.heap.size w9 w') := hide fun W hb => by
                  rw [← textV_pair]
                  exact (class_is A5 n c5 ps i W ((RA2.out.below (hb.mono RAz.out)).mono (Nat.le_trans RAz.out hb.size))).mono fun e w' hh => ⟨hh.1, hb.trans (hh.2.mono hb.size)⟩
                have T4 : Hid (∀ W, Below w9.heap.size w9 W → Calls Tryd.prog 16 #[.slice A6 n n, .int .i64 i] W fun e w' => e = .returned (.tuple #[.string (strOfNums ((classAt ps i).getD [])), .bool (classAt ps i).isSome]) ∧ W = w') := hide fun W hb => by
                  rw [← textV_pair]
                  exact rclass5_any A6 n n ps _ i W (RB2.out.below (hb.mono RAz.out))
                have T5 : Hid (∀ W, Below w9.heap.size w9 W → Calls Tryd.prog 17 #[.slice A5 n c5, .int .i64 i] W fun e w' => e = .returned (.tuple #[.string (strOfNums ((memberAt ps i).getD ([], [], [])).1), .string (strOfNums ((memberAt ps i).getD ([], [], [])).2.1), .string (strOfNums ((memberAt ps i).getD ([], [], [])).2.2), .bool (memberAt ps i).isSome]) ∧ Below w9.heap.size w9 w') := hide fun W hb => by
                  rw [← memberV_pair]
                  exact (member_is A5 n c5 ps i W ((RA2.out.below (hb.mono RAz.out)).mono (Nat.le_trans RAz.out hb.size))).mono fun e w' hh => ⟨hh.1, hb.trans (hh.2.mono hb.size)⟩
                have T6 : Hid (∀ W, Below w9.heap.size w9 W → Calls Tryd.prog 18 #[.slice A6 n n, .int .i64 i] W fun e w' => e = .returned (.tuple #[.string (strOfNums ((memberAt ps i).getD ([], [], [])).1), .string (strOfNums ((memberAt ps i).getD ([], [], [])).2.1), .string (strOfNums ((memberAt ps i).getD ([], [], [])).2.2), .bool (memberAt ps i).isSome]) ∧ Below w9.heap.size w9 w') := hide fun W hb => by
                  rw [← memberV_pair]
                  exact (rmember5_any A6 n n ps W.heap.size i W ((RB2.out.below (hb.mono RAz.out)).mono (Nat.le_trans RAz.out hb.size)) (Nat.le_refl _)).mono fun e w' hh => ⟨hh.1, hb.trans (hh.2.mono hb.size)⟩
                generalize strOfNums ((textAt ps i).getD []) = q1 at *
                generalize strOfNums ((classAt ps i).getD []) = q2 at *
                generalize strOfNums ((memberAt ps i).getD ([], [], [])).1 = q3 at *
                generalize strOfNums ((memberAt ps i).getD ([], [], [])).2.1 = q4 at *
                generalize strOfNums ((memberAt ps i).getD ([], [], [])).2.2 = q5 at *
                generalize (textAt ps i).isSome = b1 at *
                generalize (classAt ps i).isSome = b2 at *
                generalize (memberAt ps i).isSome = b3 at *
                have e1 : (q1.toList != q1.toList) = false := by simp
                have e2 : (q2.toList != q2.toList) = false := by simp
                have e3 : (q3.toList != q3.toList) = false := by simp
                have e4 : (q4.toList != q4.toList) = false := by simp
                have e5 : (q5.toList != q5.toList) = false := by simp
                have e6 : (b1 != b1) = false := by simp
                have e7 : (b2 != b2) = false := by simp
                have e8 : (b3 != b3) = false := by simp
                go_wp2_with fail
                refine (T1.out _ Hbr.out).mono ?_
                rintro e x1 ⟨rfl, hx1⟩
                have X1 := hide hx1
                clear hx1 Hbr
                go_wp2_with fail
                refine (T2.out _ X1.out).mono ?_
                rintro e x2 ⟨rfl, rfl⟩
                go_wp2_with fail
                refine (T3.out _ X1.out).mono ?_
                rintro e x3 ⟨rfl, hx3⟩
                have X3 := hide hx3
                clear hx3 X1
                go_wp2_with fail
                refine (T4.out _ X3.out).mono ?_
                rintro e x4 ⟨rfl, rfl⟩
                go_wp2_with fail
                refine (T5.out _ X3.out).mono ?_
                rintro e x5 ⟨rfl, hx5⟩
                have X5 := hide hx5
                clear hx5 X3
                go_wp2_with fail
                refine (T6.out _ X5.out).mono ?_
                rintro e x6 ⟨rfl, hx6⟩
                have X6 := hide hx6
                clear hx6 X5
                go_wp2_with fail
                go_roundw
                case rel => exact ⟨i + 1, by omega, by omega, by go_num, X6.out⟩
                case measure => simp [intOf]; omega
              · go_wp2_with fail
                go_ret
                exact ⟨rfl, HbW.out.trans (Hbr.out.mono HbW.out.size)⟩
            · go_wp2_with fail
              go_ret
              exact ⟨rfl, HbW.out.trans (Hbr.out.mono HbW.out.size)⟩
    · exfalso; omega
    · exfalso; omega
  · exfalso; omega
  · exfalso; omega
set_option maxHeartbeats 4000000 in
set_option maxRecDepth 100000 in
theorem PoolRead_12 (a0 : Option Addr) (len0 cap0 : Nat) (z0 : List Int) (a1 a2 a3 : Int) (w : World) (w0 : Came .u8 w a0 len0 cap0 z0) (_w1 : (Lit.int .i64 a1).wf = true) (w2 : (Lit.int .u8 a2).wf = true) (_w3 : (Lit.int .i64 a3).wf = true) (hmx : Maxed w) (c3 : a3 < 0) (c1 : ¬ a1 < 0 ∧ ((min (len0 - (if a3 < 0 ∨ (len0 : Int) < a3 then 0 else a3.toNat)) 3000 : Nat) : Int) ≤ a1) :
    Calls Tryd.prog 3 #[.slice a0 len0 cap0, .int .i64 a1, .int .u8 a2, .int .i64 a3] w fun e w' => e = .returned (.bool true) ∧ Below w.heap.size w w' := by
  obtain ⟨hlc, hcm, hnil⟩ := came_lens w0
  have ha2 : 0 ≤ a2 ∧ a2 ≤ 255 := by simpa [Lit.wf, IntKind.min, IntKind.max, IntKind.signed, IntKind.bits] using w2
  obtain ⟨f, hf⟩ : ∃ f : Nat, f = if a3 < 0 ∨ (len0 : Int) < a3 then 0 else a3.toNat := ⟨_, rfl⟩
  have hfl : f ≤ len0 := by rw [hf]; split <;> omega
  obtain ⟨L, hL⟩ : ∃ L, L = min (len0 - f) 3000 := ⟨_, rfl⟩
  rw [← hf, ← hL] at c1
  obtain ⟨A', hA'⟩ : ∃ A', A' = if cap0 = f then a0 else a0.map (·.add f) := ⟨_, rfl⟩
  obtain ⟨xs, hxs⟩ : ∃ xs, xs = ((z0.take len0).drop f).take L := ⟨_, rfl⟩
  have hL1 : L ≤ 3000 := by omega
  have hbx : IsBytes xs := by rw [hxs]; exact (((came_bytes w0).take _).drop _).take _
  have hrd : Rd w w.heap.size A' L (bys xs) := by
    by_cases h0 : L = 0
    · rw [hxs, h0, List.take_zero]; exact Rd.nil _ _ _
    · have hr := came_rd w0 len0 (Nat.le_refl _)
      obtain ⟨g, o, rfl, _⟩ := hr.2 (by omega)
      have := hr.part f L (by omega)
      rw [hA', if_neg (by omega), hxs]
      simp only [Option.map_some, add_none]
      rw [← List.map_drop, ← List.map_take] at this
      exact this
  have hSl := fun W => slice_from a0 len0 cap0 f hfl W
  rw [← hA'] at hSl
  have HS : Hid (∀ W, Calls Tryd.prog 7 #[.slice A' (len0 - f) (cap0 - f), .int .i64 3000] W fun e w' => e = .returned (.slice A' L (cap0 - f)) ∧ W = w') := hide fun W => by
    have := short_any A' (len0 - f) (cap0 - f) 3000 W (by omega) (fun h => by
      rw [hA'] at h
      split at h
      · have := hnil h; omega
      · cases a0 with
        | none => have := hnil rfl; omega
        | some x => cases h) (by omega) (by omega)
    rwa [show min (len0 - f) (Int.toNat 3000) = L from hL.symm] at this
  have HB := hide (fun W hW => pbegun_is reads_pool says_class W hW)
  have HRd := hide reads_pool
  have MX := hide hmx
  have Hrd := hide hrd
  have HX := hide hbx
  have Hlen : Hid (xs.length = L) := hide (by have := hrd.1; rwa [bys_len] at this)
  obtain ⟨i0, hi0, hz0, hz1, hz2⟩ := info_parts u8info
  unfold maxLen at hcm
  clear hA' hxs hL hrd hbx hmx w0 w2 hnil
  obtain ⟨N0, hN0⟩ : ∃ N0, N0 = len0 - f := ⟨_, rfl⟩
  obtain ⟨C0, hC0⟩ : ∃ C0, C0 = cap0 - f := ⟨_, rfl⟩
  rw [← hN0, ← hC0] at hSl
  rw [← hN0, ← hC0] at HS
  clear hN0 hC0
  have h3 : (a3 < 0 ∧ f = 0) ∨ (¬ a3 < 0 ∧ (len0 : Int) < a3 ∧ f = 0) ∨ (¬ a3 < 0 ∧ ¬ (len0 : Int) < a3 ∧ a3 = (f : Int)) := by
    rw [hf]
    by_cases q1 : a3 < 0
    · exact .inl ⟨q1, by rw [if_pos (.inl q1)]⟩
    · by_cases q2 : (len0 : Int) < a3
      · exact .inr (.inl ⟨q1, q2, by rw [if_pos (.inr q2)]⟩)
      · exact .inr (.inr ⟨q1, q2, by rw [if_neg (by omega)]; omega⟩)
  clear hf
  have h1 : a1 < 0 ∨ (¬ a1 < 0 ∧ (L : Int) ≤ a1) ∨ ∃ j : Nat, a1 = j ∧ j < L := by
    by_cases q1 : a1 < 0
    · exact .inl q1
    · by_cases q2 : (L : Int) ≤ a1
      · exact .inr (.inl ⟨q1, q2⟩)
      · exact .inr (.inr ⟨a1.toNat, by omega, by omega⟩)
  rcases h3 with ⟨q1, rfl⟩ | ⟨q1, q2, rfl⟩ | ⟨q1, q2, rfl⟩
  · have hSl0 : ∀ W, (Instr.slice 22 (.slice a0 len0 cap0) (some (.int .i64 0)) none none).run Tryd.prog W = .ok (.slice A' N0 C0) W := hSl
    clear hSl
    rcases h1 with q3 | ⟨q3, q4⟩ | ⟨j, rfl, q3⟩
    · exfalso; omega
    · clear c3 c1
      go_enter Tryd.func3, Tryd.ntmps3
      go_wp2_with fail
      refine (HB.out w MX.out).mono ?_
      rintro e w2 ⟨rfl, hb2⟩
      have Hb2 := hide hb2
      have hbs2 := hb2.size
      have Hrd2 := hide (Hrd.out.below hb2)
      clear hb2
      go_wp2_with fail
      refine (HS.out _).mono ?_
      rintro e w3 ⟨rfl, rfl⟩
      go_wp2_with (at_builtin; refine wpList_append_rd _ rfl (.const (.slice none 0 0)) (.tmp 47) 22 rfl w.heap.size 5 i0 _ 1 Tryd.underlying22 hi0 hz0 hz1 hz2 rfl (.slice none 0 0) 0 [] rfl (World.ownsRow_nil _ _ _ _) w.heap.size A' L C0 (bys xs) rfl Hrd2.out (bys_one xs) (by unfold maxLen; omega) (by omega) hbs2 ?_)
      intro v1 w4 hown1 hg1
      try simp only [Nat.zero_add, List.nil_append] at hown1
      obtain ⟨A1, c1, hv1, hs1, hlc1'⟩ := own_src hown1
      have hb4 : Below w.heap.size w w4 := Hb2.out.grown hg1 Hb2.out.size (by simp [Value.ownBlock])
      rw [hv1]
      have Hs4 := hide hs1
      have Hb4 := hide hb4
      clear hown1 hv1 hs1 hg1 hb4 Hb2 Hrd2
      obtain ⟨ys, hys⟩ : ∃ ys, ys = xs := ⟨_, rfl⟩
      rw [← hys] at Hs4 HX Hlen
      clear hys
      go_wp2_with fail
      refine (new_any A1 L c1 ys w4 _ Hs4.out.rd (Nat.le_refl _) (by omega) HX.out).mono ?_
      rintro e w5 ⟨gc, gb, rfl, hc5, hgc5, hgb5, hb5⟩
      have Hs5 := hide (Hs4.out.new (grown_below hb5 none) (by simp))
      have Hb5 := hide (Hb4.out.trans (hb5.mono Hb4.out.size))
      have Hgc := hide (show w.heap.size ≤ gc from Nat.le_trans Hb4.out.size hgc5)
      have Hc5 := hide hc5
      clear hc5 hgc5 hgb5 hb5 Hs4 Hb4
      go_wp2_with fail
      have hB : Both w.heap.size (w5.alloc (.cells #[.slice A1 L c1, .int .i64 0, .bool false] 29)) gc gb w5.heap.size A1 A1 c1 ys 0 false 0 false := by
        refine ⟨Hc5.out.grown (World.grownBy_alloc w5 _ none) (by simp) (by simp), ⟨?_, ?_, Nat.zero_le _, HX.out, by rw [Hlen.out]; omega, by rw [Hlen.out]; exact hlc1'⟩, ?_, Hgc.out, Hb5.out.size⟩
        · rw [Hlen.out]; exact At.new w5 29 [.slice A1 L c1, .int .i64 0, .bool false]
        · rw [Hlen.out]; exact Hs5.out.new (World.grownBy_alloc w5 _ none) (by simp)
        · rw [Hlen.out]; exact Hs5.out.new (World.grownBy_alloc w5 _ none) (by simp)
      have HB5 := hide hB
      have Hb6 : Hid (Below w.heap.size w (w5.alloc (.cells #[.slice A1 L c1, .int .i64 0, .bool false] 29))) := hide (Hb5.out.alloc Hb5.out.size _)
      clear hB Hs5 Hb5 Hc5
      generalize w5.alloc (.cells #[.slice A1 L c1, .int .i64 0, .bool false] 29) = w6 at *
      generalize w5.heap.size = r at *
      refine (HRd.out gc gb ys 0 w6 (MX.out.below Hb6.out) HB5.out.c).mono ?_
      rintro e w7 ⟨hg7, h7⟩
      rw [List.drop_zero] at h7
      have hf7 : Ref w7 r w.heap.size A1 c1 ys 0 false := ⟨HB5.out.f.1.grown hg7 (by simpa using HB5.out.ne.symm), HB5.out.f.2.1.far HB5.out.c.1 (by decide) hg7, HB5.out.f.2.2⟩
      have HRP := hide (rpool_any r w.heap.size A1 c1 ys 0 w7 hf7)
      rw [List.drop_zero] at HRP
      have Hb7 := hide (Hb6.out.grown hg7 Hb6.out.size (by intro q hq; cases hq; exact Hgc.out))
      have hlr : w.heap.size ≤ r := HB5.out.lr
      have hngr : gc ≠ r := HB5.out.ne
      have hngb : r ≠ gb := HB5.out.f.1.ne HB5.out.c.2.1 (by decide)
      have HAr := hide hf7.1
      clear hg7 hf7 HB5 Hb6
      rcases h7 with ⟨h7, v7, rfl⟩ | ⟨ps, m, A5, c5, h7, rfl, hrd7, hc7, hwf7⟩
      · rw [h7] at HRP
        go_wp2_with fail
        refine HRP.out.mono ?_
        rintro e w8 ⟨hg8, ⟨_, rfl⟩ | ⟨_, _, _, h8, _⟩⟩
        · have Hb8 := hide (Hb7.out.grown hg8 Hb7.out.size (by intro q hq; cases hq; exact hlr))
          have h00 : (false != false) = false := rfl
          clear hg8 h7
          go_wp2_with fail
          refine wp_region_text (fun W => Below w.heap.size w W) (by kernel_rfl) (by kernel_rfl) (by kernel_rfl) Hb8.out.drew ?_
          repeat (first
            | (refine text_skip (by rfl) ?_
               simp only [Act.put, List.setIfInBounds_toArray, List.set_cons_zero, List.set_cons_succ])
            | (refine text_value (v := ?_) (by rfl) ?_ ?_
               rotate_left
               · (intro W hSw; go_simp; try with_reducible rfl)
               simp only [Act.put, List.setIfInBounds_toArray, List.set_cons_zero, List.set_cons_succ])
            | fail)
          refine text_end ?_
          intro W hSw
          have HSw := hide hSw
          clear hSw
          go_wp2_with fail
          go_loopw [16] (fun iv wr => iv = .int .i64 (-1) ∧ wr = W) (fun _ _ => 0)
          case atStart => exact ⟨rfl, rfl⟩
          case round =>
            obtain ⟨rfl, rfl⟩ := hrel
            go_wp2_with fail
            go_ret
            exact ⟨rfl, HSw.out⟩
        · cases h8
      · have hpl := pool_len h7
        rw [h7] at HRP
        have R7 := hide hrd7
        have C7 := hide hc7
        clear hrd7 hc7 hwf7 h7
        go_wp2_with fail
        refine HRP.out.mono ?_
        rintro e w8 ⟨hg8, ⟨h8, _⟩ | ⟨ps', m', A6, h8, rfl, hrd8, hf8, _⟩⟩
        · cases h8
        · cases h8
          have Hb8 := hide (Hb7.out.grown hg8 Hb7.out.size (by intro q hq; cases hq; exact hlr))
          have RA := hide (rdc_far R7.out HAr.out hg8 (Nat.le_refl _))
          have RB := hide hrd8
          have C8 := hide (C7.out.grown hg8 (by simpa using hngr) (by simpa using hngb.symm))
          have hr1 : w8.cell? ⟨r, 1, none⟩ = some (.int .i64 ((0 + m : Nat) : Int)) := hf8.1.cell 1
          clear hg8 hrd8 hf8 R7 C7 HRP HAr Hb7
          have h00 : (true != true) = false := rfl
          have hmm : (((0 + m : Nat) : Int) != ((0 + m : Nat) : Int)) = false := by simp
          generalize 0 + m = mm at *
          generalize hpn : ps.length = n at *
          go_wp2_with fail
          refine wp_region_text (fun W => ∃ q, W = w8.drewN q) (by kernel_rfl) (by kernel_rfl) (by kernel_rfl) ⟨1, rfl⟩ ?_
          repeat (first
            | (refine text_skip (by rfl) ?_
               simp only [Act.put, List.setIfInBounds_toArray, List.set_cons_zero, List.set_cons_succ])
            | (refine text_value (v := ?_) (by rfl) ?_ ?_
               rotate_left
               · (intro W hSw; obtain ⟨q, rfl⟩ := hSw; go_simp; try with_reducible rfl)
               simp only [Act.put, List.setIfInBounds_toArray, List.set_cons_zero, List.set_cons_succ])
            | (refine text_call (by rfl) ?_ (fun W hSw => same_q (c := c5) (c' := n) RA.out RB.out (by omega) hSw) ?_
               · (intro W hSw; go_simp; done)
               simp only [Act.put, List.setIfInBounds_toArray, List.set_cons_zero, List.set_cons_succ])
            | (refine text_call (by rfl) ?_ (fun W hSw => at_w C8.out hSw) ?_
               · (intro W hSw; go_simp; done)
               simp only [Act.put, List.setIfInBounds_toArray, List.set_cons_zero, List.set_cons_succ])
            | fail)
          refine text_end ?_
          intro W hSw
          obtain ⟨q, rfl⟩ := hSw
          have HbW := hide (below_drewN Hb8.out q)
          have RA2 := hide (RA.out.drewN q)
          have RB2 := hide (RB.out.drewN q)
          have RAz : Hid (w8.heap.size ≤ (w8.drewN q).heap.size) := hide (Nat.le_refl _)
          clear RA RB Hb8 C8 hr1
          generalize w8.drewN q = w9 at *
          go_wp2_with fail
          go_loopw [16] (fun iv wr => ∃ i : Int, -1 ≤ i ∧ i ≤ 80 ∧ iv = .int .i64 i ∧ Below w9.heap.size w9 wr) (fun iv _ => (80 - intOf iv).toNat)
          case atStart => exact ⟨-1, by omega, by omega, rfl, Below.refl _ _⟩
          case round =>
            obtain ⟨i, hi1, hi2, rfl, hbr⟩ := hrel
            have Hbr := hide hbr
            clear hbr
            by_cases u1 : i < (n : Int) + 2
            · by_cases u2 : i < 80
              · have T1 : Hid (∀ W, Below w9.heap.size w9 W → Calls Tryd.prog 13 #[.slice A5 n c5, .int .i64 i] W fun e w' => e = .returned (.tuple #[.string (strOfNums ((textAt ps i).getD [])), .bool (textAt ps i).isSome]) ∧ Below w9.heap.size w9 w') := hide fun W hb => by
                  rw [← textV_pair]
                  exact (text_is A5 n c5 ps i W ((RA2.out.below (hb.mono RAz.out)).mono (Nat.le_trans RAz.out hb.size))).mono fun e w' hh => ⟨hh.1, hb.trans (hh.2.mono hb.size)⟩
                have T2 : Hid (∀ W, Below w9.heap.size w9 W → Calls Tryd.prog 14 #[.slice A6 n n, .int .i64 i] W fun e w' => e = .returned (.tuple #[.string (strOfNums ((textAt ps i).getD [])), .bool (textAt ps i).isSome]) ∧ W = w') := hide fun W hb => by
                  rw [← textV_pair]
                  exact rtext5_any A6 n n ps _ i W (RB2.out.below (hb.mono RAz.out))
                have T3 : Hid (∀ W, Below w9.heap.size w9 W → Calls Tryd.prog 15 #[.slice A5 n c5, .int .i64 i] W fun e w' => e = .returned (.tuple #[.string (strOfNums ((classAt ps i).getD [])), .bool (classAt ps i).isSome]) ∧ Below w9.heap.size w9 w') := hide fun W hb => by
                  rw [← textV_pair]
                  exact (class_is A5 n c5 ps i W ((RA2.out.below (hb.mono RAz.out)).mono (Nat.le_trans RAz.out hb.size))).mono fun e w' hh => ⟨hh.1, hb.trans (hh.2.mono hb.size)⟩
                have T4 : Hid (∀ W, Below w9.heap.size w9 W → Calls Tryd.prog 16 #[.slice A6 n n, .int .i64 i] W fun e w' => e = .returned (.tuple #[.string (strOfNums ((classAt ps i).getD [])), .bool (classAt ps i).isSome]) ∧ W = w') := hide fun W hb => by
                  rw [← textV_pair]
                  exact rclass5_any A6 n n ps _ i W (RB2.out.below (hb.mono RAz.out))
                have T5 : Hid (∀ W, Below w9.heap.size w9 W → Calls Tryd.prog 17 #[.slice A5 n c5, .int .i64 i] W fun e w' => e = .returned (.tuple #[.string (strOfNums ((memberAt ps i).getD ([], [], [])).1), .string (strOfNums ((memberAt ps i).getD ([], [], [])).2.1), .string (strOfNums ((memberAt ps i).getD ([], [], [])).2.2), .bool (memberAt ps i).isSome]) ∧ Below w9.heap.size w9 w') := hide fun W hb => by
                  rw [← memberV_pair]
                  exact (member_is A5 n c5 ps i W ((RA2.out.below (hb.mono RAz.out)).mono (Nat.le_trans RAz.out hb.size))).mono fun e w' hh => ⟨hh.1, hb.trans (hh.2.mono hb.size)⟩
                have T6 : Hid (∀ W, Below w9.heap.size w9 W → Calls Tryd.prog 18 #[.slice A6 n n, .int .i64 i] W fun e w' => e = .returned (.tuple #[.string (strOfNums ((memberAt ps i).getD ([], [], [])).1), .string (strOfNums ((memberAt ps i).getD ([], [], [])).2.1), .string (strOfNums ((memberAt ps i).getD ([], [], [])).2.2), .bool (memberAt ps i).isSome]) ∧ Below w9.heap.size w9 w') := hide fun W hb => by
                  rw [← memberV_pair]
                  exact (rmember5_any A6 n n ps W.heap.size i W ((RB2.out.below (hb.mono RAz.out)).mono (Nat.le_trans RAz.out hb.size)) (Nat.le_refl _)).mono fun e w' hh => ⟨hh.1, hb.trans (hh.2.mono hb.size)⟩
                generalize strOfNums ((textAt ps i).getD []) = q1 at *
                generalize strOfNums ((classAt ps i).getD []) = q2 at *
                generalize strOfNums ((memberAt ps i).getD ([], [], [])).1 = q3 at *
                generalize strOfNums ((memberAt ps i).getD ([], [], [])).2.1 = q4 at *
                generalize strOfNums ((memberAt ps i).getD ([], [], [])).2.2 = q5 at *
                generalize (textAt ps i).isSome = b1 at *
                generalize (classAt ps i).isSome = b2 at *
                generalize (memberAt ps i).isSome = b3 at *
                have e1 : (q1.toList != q1.toList) = false := by simp
                have e2 : (q2.toList != q2.toList) = false := by simp
                have e3 : (q3.toList != q3.toList) = false := by simp
                have e4 : (q4.toList != q4.toList) = false := by simp
                have e5 : (q5.toList != q5.toList) = false := by simp
                have e6 : (b1 != b1) = false := by simp
                have e7 : (b2 != b2) = false := by simp
                have e8 : (b3 != b3) = false := by simp
                go_wp2_with fail
                refine (T1.out _ Hbr.out).mono ?_
                rintro e x1 ⟨rfl, hx1⟩
                have X1 := hide hx1
                clear hx1 Hbr
                go_wp2_with fail
                refine (T2.out _ X1.out).mono ?_
                rintro e x2 ⟨rfl, rfl⟩
                go_wp2_with fail
                refine (T3.out _ X1.out).mono ?_
                rintro e x3 ⟨rfl, hx3⟩
                have X3 := hide hx3
                clear hx3 X1
                go_wp2_with fail
                refine (T4.out _ X3.out).mono ?_
                rintro e x4 ⟨rfl, rfl⟩
                go_wp2_with fail
                refine (T5.out _ X3.out).mono ?_
                rintro e x5 ⟨rfl, hx5⟩
                have X5 := hide hx5
                clear hx5 X3
                go_wp2_with fail
                refine (T6.out _ X5.out).mono ?_
                rintro e x6 ⟨rfl, hx6⟩
                have X6 := hide hx6
                clear hx6 X5
                go_wp2_with fail
                go_roundw
                case rel => exact ⟨i + 1, by omega, by omega, by go_num, X6.out⟩
                case measure => simp [intOf]; omega
              · go_wp2_with fail
                go_ret
                exact ⟨rfl, HbW.out.trans (Hbr.out.mono HbW.out.size)⟩
            · go_wp2_with fail
              go_ret
              exact ⟨rfl, HbW.out.trans (Hbr.out.mono HbW.out.size)⟩
    · exfalso; omega
  · exfalso; omega
  · exfalso; omega
set_option maxHeartbeats 4000000 in
set_option maxRecDepth 100000 in
theorem PoolRead_13 (a0 : Option Addr) (len0 cap0 : Nat) (z0 : List Int) (a1 a2 a3 : Int) (w : World) (w0 : Came .u8 w a0 len0 cap0 z0) (_w1 : (Lit.int .i64 a1).wf = true) (w2 : (Lit.int .u8 a2).wf = true) (_w3 : (Lit.int .i64 a3).wf = true) (hmx : Maxed w) (c3 : a3 < 0) (c1 : ¬ a1 < 0 ∧ ¬ ((min (len0 - (if a3 < 0 ∨ (len0 : Int) < a3 then 0 else a3.toNat)) 3000 : Nat) : Int) ≤ a1) :
    Calls Tryd.prog 3 #[.slice a0 len0 cap0, .int .i64 a1, .int .u8 a2, .int .i64 a3] w fun e w' => e = .returned (.bool true) ∧ Below w.heap.size w w' := by
  obtain ⟨hlc, hcm, hnil⟩ := came_lens w0
  have ha2 : 0 ≤ a2 ∧ a2 ≤ 255 := by simpa [Lit.wf, IntKind.min, IntKind.max, IntKind.signed, IntKind.bits] using w2
  obtain ⟨f, hf⟩ : ∃ f : Nat, f = if a3 < 0 ∨ (len0 : Int) < a3 then 0 else a3.toNat := ⟨_, rfl⟩
  have hfl : f ≤ len0 := by rw [hf]; split <;> omega
  obtain ⟨L, hL⟩ : ∃ L, L = min (len0 - f) 3000 := ⟨_, rfl⟩
  rw [← hf, ← hL] at c1
  obtain ⟨A', hA'⟩ : ∃ A', A' = if cap0 = f then a0 else a0.map (·.add f) := ⟨_, rfl⟩
  obtain ⟨xs, hxs⟩ : ∃ xs, xs = ((z0.take len0).drop f).take L := ⟨_, rfl⟩
  have hL1 : L ≤ 3000 := by omega
  have hbx : IsBytes xs := by rw [hxs]; exact (((came_bytes w0).take _).drop _).take _
  have hrd : Rd w w.heap.size A' L (bys xs) := by
    by_cases h0 : L = 0
    · rw [hxs, h0, List.take_zero]; exact Rd.nil _ _ _
    · have hr := came_rd w0 len0 (Nat.le_refl _)
      obtain ⟨g, o, rfl, _⟩ := hr.2 (by omega)
      have := hr.part f L (by omega)
      rw [hA', if_neg (by omega), hxs]
      simp only [Option.map_some, add_none]
      rw [← List.map_drop, ← List.map_take] at this
      exact this
  have hSl := fun W => slice_from a0 len0 cap0 f hfl W
  rw [← hA'] at hSl
  have HS : Hid (∀ W, Calls Tryd.prog 7 #[.slice A' (len0 - f) (cap0 - f), .int .i64 3000] W fun e w' => e = .returned (.slice A' L (cap0 - f)) ∧ W = w') := hide fun W => by
    have := short_any A' (len0 - f) (cap0 - f) 3000 W (by omega) (fun h => by
      rw [hA'] at h
      split at h
      · have := hnil h; omega
      · cases a0 with
        | none => have := hnil rfl; omega
        | some x => cases h) (by omega) (by omega)
    rwa [show min (len0 - f) (Int.toNat 3000) = L from hL.symm] at this
  have HB := hide (fun W hW => pbegun_is reads_pool says_class W hW)
  have HRd := hide reads_pool
  have MX := hide hmx
  have Hrd := hide hrd
  have HX := hide hbx
  have Hlen : Hid (xs.length = L) := hide (by have := hrd.1; rwa [bys_len] at this)
  obtain ⟨i0, hi0, hz0, hz1, hz2⟩ := info_parts u8info
  unfold maxLen at hcm
  clear hA' hxs hL hrd hbx hmx w0 w2 hnil
  obtain ⟨N0, hN0⟩ : ∃ N0, N0 = len0 - f := ⟨_, rfl⟩
  obtain ⟨C0, hC0⟩ : ∃ C0, C0 = cap0 - f := ⟨_, rfl⟩
  rw [← hN0, ← hC0] at hSl
  rw [← hN0, ← hC0] at HS
  clear hN0 hC0
  have h3 : (a3 < 0 ∧ f = 0) ∨ (¬ a3 < 0 ∧ (len0 : Int) < a3 ∧ f = 0) ∨ (¬ a3 < 0 ∧ ¬ (len0 : Int) < a3 ∧ a3 = (f : Int)) := by
    rw [hf]
    by_cases q1 : a3 < 0
    · exact .inl ⟨q1, by rw [if_pos (.inl q1)]⟩
    · by_cases q2 : (len0 : Int) < a3
      · exact .inr (.inl ⟨q1, q2, by rw [if_pos (.inr q2)]⟩)
      · exact .inr (.inr ⟨q1, q2, by rw [if_neg (by omega)]; omega⟩)
  clear hf
  have h1 : a1 < 0 ∨ (¬ a1 < 0 ∧ (L : Int) ≤ a1) ∨ ∃ j : Nat, a1 = j ∧ j < L := by
    by_cases q1 : a1 < 0
    · exact .inl q1
    · by_cases q2 : (L : Int) ≤ a1
      · exact .inr (.inl ⟨q1, q2⟩)
      · exact .inr (.inr ⟨a1.toNat, by omega, by omega⟩)
  rcases h3 with ⟨q1, rfl⟩ | ⟨q1, q2, rfl⟩ | ⟨q1, q2, rfl⟩
  · have hSl0 : ∀ W, (Instr.slice 22 (.slice a0 len0 cap0) (some (.int .i64 0)) none none).run Tryd.prog W = .ok (.slice A' N0 C0) W := hSl
    clear hSl
    rcases h1 with q3 | ⟨q3, q4⟩ | ⟨j, rfl, q3⟩
    · exfalso; omega
    · exfalso; omega
    · clear c3 c1
      go_enter Tryd.func3, Tryd.ntmps3
      go_wp2_with fail
      refine (HB.out w MX.out).mono ?_
      rintro e w2 ⟨rfl, hb2⟩
      have Hb2 := hide hb2
      have hbs2 := hb2.size
      have Hrd2 := hide (Hrd.out.below hb2)
      clear hb2
      go_wp2_with fail
      refine (HS.out _).mono ?_
      rintro e w3 ⟨rfl, rfl⟩
      go_wp2_with (at_builtin; refine wpList_append_rd _ rfl (.const (.slice none 0 0)) (.tmp 47) 22 rfl w.heap.size 5 i0 _ 1 Tryd.underlying22 hi0 hz0 hz1 hz2 rfl (.slice none 0 0) 0 [] rfl (World.ownsRow_nil _ _ _ _) w.heap.size A' L C0 (bys xs) rfl Hrd2.out (bys_one xs) (by unfold maxLen; omega) (by omega) hbs2 ?_)
      intro v1 w4 hown1 hg1
      try simp only [Nat.zero_add, List.nil_append] at hown1
      obtain ⟨A1, c1, hv1, hs1, hlc1'⟩ := own_src hown1
      have hb4 : Below w.heap.size w w4 := Hb2.out.grown hg1 Hb2.out.size (by simp [Value.ownBlock])
      rw [hv1]
      have Hs4 := hide hs1
      have Hb4 := hide hb4
      clear hown1 hv1 hs1 hg1 hb4 Hb2 Hrd2
      rcases Hs4.out with ⟨_, h0, _⟩ | ⟨g1, ex, rfl, hg1, hl1, hat1⟩
      · omega
      have hjx : j < xs.length := by rw [Hlen.out]; exact q3
      obtain ⟨y, hy⟩ : ∃ y, xs.getD j 0 = y := ⟨_, rfl⟩
      have hcj : w4.cell? ⟨g1, j, none⟩ = some (.int .u8 y) := by
        rw [hat1.cell, List.getElem?_append_left (by rw [bys_len]; exact hjx), ← hy]
        simp [bys, List.getD, hjx]
      have hfj := hat1.free j
      obtain ⟨v, hv⟩ : ∃ v, bits .xor .u8 y a2 = v := ⟨_, rfl⟩
      have hvr : 0 ≤ v ∧ v < 256 := by rw [← hv]; exact xor_range _ _
      have hat5 := hat1.set j (.int .u8 v)
      have hset : (bys xs ++ ex).set j (.int .u8 v) = bys (xs.set j v) ++ ex := by
        rw [List.set_append_left _ _ (by rw [bys_len]; exact hjx)]
        simp [bys, List.map_set]
      rw [hset] at hat5
      obtain ⟨ys, hys⟩ : ∃ ys, ys = xs.set j v := ⟨_, rfl⟩
      have HX2 : Hid (IsBytes ys) := hide (by
        rw [hys]
        intro x hx
        rcases List.mem_or_eq_of_mem_set hx with hx | rfl
        · exact HX.out x hx
        · exact hvr)
      have Hlen2 : Hid (ys.length = L) := hide (by rw [hys, List.length_set]; exact Hlen.out)
      rw [← hys] at hat5
      have Hs5 : Hid (Src (w4.setCell ⟨g1, j, none⟩ (.int .u8 v)) w.heap.size 5 (some ⟨g1, 0, none⟩) L (bys ys)) := hide (.inr ⟨g1, ex, rfl, hg1, by rw [bys_len]; exact Hlen2.out, hat5⟩)
      have Hb5 : Hid (Below w.heap.size w (w4.setCell ⟨g1, j, none⟩ (.int .u8 v))) := hide (Hb4.out.setCell hg1 _)
      clear hys hset hat5 hat1 hvr hjx hl1 Hs4 Hb4 HX Hlen hy
      go_upto_region 9 with fail
      try rw [hv]
      clear hcj hfj hv
      generalize w4.setCell ⟨g1, j, none⟩ (.int .u8 v) = w4 at *
      have Hs4 := Hs5
      have Hb4 := Hb5
      have HX := HX2
      have Hlen := Hlen2
      clear Hs5 Hb5 HX2 Hlen2
      generalize (some (⟨g1, 0, none⟩ : Addr)) = A1 at *
      go_wp2_with fail
      refine (new_any A1 L c1 ys w4 _ Hs4.out.rd (Nat.le_refl _) (by omega) HX.out).mono ?_
      rintro e w5 ⟨gc, gb, rfl, hc5, hgc5, hgb5, hb5⟩
      have Hs5 := hide (Hs4.out.new (grown_below hb5 none) (by simp))
      have Hb5 := hide (Hb4.out.trans (hb5.mono Hb4.out.size))
      have Hgc := hide (show w.heap.size ≤ gc from Nat.le_trans Hb4.out.size hgc5)
      have Hc5 := hide hc5
      clear hc5 hgc5 hgb5 hb5 Hs4 Hb4
      go_wp2_with fail
      have hB : Both w.heap.size (w5.alloc (.cells #[.slice A1 L c1, .int .i64 0, .bool false] 29)) gc gb w5.heap.size A1 A1 c1 ys 0 false 0 false := by
        refine ⟨Hc5.out.grown (World.grownBy_alloc w5 _ none) (by simp) (by simp), ⟨?_, ?_, Nat.zero_le _, HX.out, by rw [Hlen.out]; omega, by rw [Hlen.out]; exact hlc1'⟩, ?_, Hgc.out, Hb5.out.size⟩
        · rw [Hlen.out]; exact At.new w5 29 [.slice A1 L c1, .int .i64 0, .bool false]
        · rw [Hlen.out]; exact Hs5.out.new (World.grownBy_alloc w5 _ none) (by simp)
        · rw [Hlen.out]; exact Hs5.out.new (World.grownBy_alloc w5 _ none) (by simp)
      have HB5 := hide hB
      have Hb6 : Hid (Below w.heap.size w (w5.alloc (.cells #[.slice A1 L c1, .int .i64 0, .bool false] 29))) := hide (Hb5.out.alloc Hb5.out.size _)
      clear hB Hs5 Hb5 Hc5
      generalize w5.alloc (.cells #[.slice A1 L c1, .int .i64 0, .bool false] 29) = w6 at *
      generalize w5.heap.size = r at *
      refine (HRd.out gc gb ys 0 w6 (MX.out.below Hb6.out) HB5.out.c).mono ?_
      rintro e w7 ⟨hg7, h7⟩
      rw [List.drop_zero] at h7
      have hf7 : Ref w7 r w.heap.size A1 c1 ys 0 false := ⟨HB5.out.f.1.grown hg7 (by simpa using HB5.out.ne.symm), HB5.out.f.2.1.far HB5.out.c.1 (by decide) hg7, HB5.out.f.2.2⟩
      have HRP := hide (rpool_any r w.heap.size A1 c1 ys 0 w7 hf7)
      rw [List.drop_zero] at HRP
      have Hb7 := hide (Hb6.out.grown hg7 Hb6.out.size (by intro q hq; cases hq; exact Hgc.out))
      have hlr : w.heap.size ≤ r := HB5.out.lr
      have hngr : gc ≠ r := HB5.out.ne
      have hngb : r ≠ gb := HB5.out.f.1.ne HB5.out.c.2.1 (by decide)
      have HAr := hide hf7.1
      clear hg7 hf7 HB5 Hb6
      rcases h7 with ⟨h7, v7, rfl⟩ | ⟨ps, m, A5, c5, h7, rfl, hrd7, hc7, hwf7⟩
      · rw [h7] at HRP
        go_wp2_with fail
        refine HRP.out.mono ?_
        rintro e w8 ⟨hg8, ⟨_, rfl⟩ | ⟨_, _, _, h8, _⟩⟩
        · have Hb8 := hide (Hb7.out.grown hg8 Hb7.out.size (by intro q hq; cases hq; exact hlr))
          have h00 : (false != false) = false := rfl
          clear hg8 h7
          go_wp2_with fail
          refine wp_region_text (fun W => Below w.heap.size w W) (by kernel_rfl) (by kernel_rfl) (by kernel_rfl) Hb8.out.drew ?_
          repeat (first
            | (refine text_skip (by rfl) ?_
               simp only [Act.put, List.setIfInBounds_toArray, List.set_cons_zero, List.set_cons_succ])
            | (refine text_value (v := ?_) (by rfl) ?_ ?_
               rotate_left
               · (intro W hSw; go_simp; try with_reducible rfl)
               simp only [Act.put, List.setIfInBounds_toArray, List.set_cons_zero, List.set_cons_succ])
            | fail)
          refine text_end ?_
          intro W hSw
          have HSw := hide hSw
          clear hSw
          go_wp2_with fail
          go_loopw [16] (fun iv wr => iv = .int .i64 (-1) ∧ wr = W) (fun _ _ => 0)
          case atStart => exact ⟨rfl, rfl⟩
          case round =>
            obtain ⟨rfl, rfl⟩ := hrel
            go_wp2_with fail
            go_ret
            exact ⟨rfl, HSw.out⟩
        · cases h8
      · have hpl := pool_len h7
        rw [h7] at HRP
        have R7 := hide hrd7
        have C7 := hide hc7
        clear hrd7 hc7 hwf7 h7
        go_wp2_with fail
        refine HRP.out.mono ?_
        rintro e w8 ⟨hg8, ⟨h8, _⟩ | ⟨ps', m', A6, h8, rfl, hrd8, hf8, _⟩⟩
        · cases h8
        · cases h8
          have Hb8 := hide (Hb7.out.grown hg8 Hb7.out.size (by intro q hq; cases hq; exact hlr))
          have RA := hide (rdc_far R7.out HAr.out hg8 (Nat.le_refl _))
          have RB := hide hrd8
          have C8 := hide (C7.out.grown hg8 (by simpa using hngr) (by simpa using hngb.symm))
          have hr1 : w8.cell? ⟨r, 1, none⟩ = some (.int .i64 ((0 + m : Nat) : Int)) := hf8.1.cell 1
          clear hg8 hrd8 hf8 R7 C7 HRP HAr Hb7
          have h00 : (true != true) = false := rfl
          have hmm : (((0 + m : Nat) : Int) != ((0 + m : Nat) : Int)) = false := by simp
          generalize 0 + m = mm at *
          generalize hpn : ps.length = n at *
          go_wp2_with fail
          refine wp_region_text (fun W => ∃ q, W = w8.drewN q) (by kernel_rfl) (by kernel_rfl) (by kernel_rfl) ⟨1, rfl⟩ ?_
          repeat (first
            | (refine text_skip (by rfl) ?_
               simp only [Act.put, List.setIfInBounds_toArray, List.set_cons_zero, List.set_cons_succ])
            | (refine text_value (v := ?_) (by rfl) ?_ ?_
               rotate_left
               · (intro W hSw; obtain ⟨q, rfl⟩ := hSw; go_simp; try with_reducible rfl)
               simp only [Act.put, List.setIfInBounds_toArray, List.set_cons_zero, List.set_cons_succ])
            | (refine text_call (by rfl) ?_ (fun W hSw => same_q (c := c5) (c' := n) RA.out RB.out (by omega) hSw) ?_
               · (intro W hSw; go_simp; done)
               simp only [Act.put, List.setIfInBounds_toArray, List.set_cons_zero, List.set_cons_succ])
            | (refine text_call (by rfl) ?_ (fun W hSw => at_w C8.out hSw) ?_
               · (intro W hSw; go_simp; done)
               simp only [Act.put, List.setIfInBounds_toArray, List.set_cons_zero, List.set_cons_succ])
            | fail)
          refine text_end ?_
          intro W hSw
          obtain ⟨q, rfl⟩ := hSw
          have HbW := hide (below_drewN Hb8.out q)
          have RA2 := hide (RA.out.drewN q)
          have RB2 := hide (RB.out.drewN q)
          have RAz : Hid (w8.heap.size ≤ (w8.drewN q).heap.size) := hide (Nat.le_refl _)
          clear RA RB Hb8 C8 hr1
          generalize w8.drewN q = w9 at *
          go_wp2_with fail
          go_loopw [16] (fun iv wr => ∃ i : Int, -1 ≤ i ∧ i ≤ 80 ∧ iv = .int .i64 i ∧ Below w9.heap.size w9 wr) (fun iv _ => (80 - intOf iv).toNat)
          case atStart => exact ⟨-1, by omega, by omega, rfl, Below.refl _ _⟩
          case round =>
            obtain ⟨i, hi1, hi2, rfl, hbr⟩ := hrel
            have Hbr := hide hbr
            clear hbr
            by_cases u1 : i < (n : Int) + 2
            · by_cases u2 : i < 80
              · have T1 : Hid (∀ W, Below w9.heap.size w9 W → Calls Tryd.prog 13 #[.slice A5 n c5, .int .i64 i] W fun e w' => e = .returned (.tuple #[.string (strOfNums ((textAt ps i).getD [])), .bool (textAt ps i).isSome]) ∧ Below w9.heap.size w9 w') := hide fun W hb => by
                  rw [← textV_pair]
                  exact (text_is A5 n c5 ps i W ((RA2.out.below (hb.mono RAz.out)).mono (Nat.le_trans RAz.out hb.size))).mono fun e w' hh => ⟨hh.1, hb.trans (hh.2.mono hb.size)⟩
                have T2 : Hid (∀ W, Below w9.heap.size w9 W → Calls Tryd.prog 14 #[.slice A6 n n, .int .i64 i] W fun e w' => e = .returned (.tuple #[.string (strOfNums ((textAt ps i).getD [])), .bool (textAt ps i).isSome]) ∧ W = w') := hide fun W hb => by
                  rw [← textV_pair]
                  exact rtext5_any A6 n n ps _ i W (RB2.out.below (hb.mono RAz.out))
                have T3 : Hid (∀ W, Below w9.heap.size w9 W → Calls Tryd.prog 15 #[.slice A5 n c5, .int .i64 i] W fun e w' => e = .returned (.tuple #[.string (strOfNums ((classAt ps i).getD [])), .bool (classAt ps i).isSome]) ∧ Below w9.heap.size w9 w') := hide fun W hb => by
                  rw [← textV_pair]
                  exact (class_is A5 n c5 ps i W ((RA2.out.below (hb.mono RAz.out)).mono (Nat.le_trans RAz.out hb.size))).mono fun e w' hh => ⟨hh.1, hb.trans (hh.2.mono hb.size)⟩
                have T4 : Hid (∀ W, Below w9.heap.size w9 W → Calls Tryd.prog 16 #[.slice A6 n n, .int .i64 i] W fun e w' => e = .returned (.tuple #[.string (strOfNums ((classAt ps i).getD [])), .bool (classAt ps i).isSome]) ∧ W = w') := hide fun W hb => by
                  rw [← textV_pair]
                  exact rclass5_any A6 n n ps _ i W (RB2.out.below (hb.mono RAz.out))
                have T5 : Hid (∀ W, Below w9.heap.size w9 W → Calls Tryd.prog 17 #[.slice A5 n c5, .int .i64 i] W fun e w' => e = .returned (.tuple #[.string (strOfNums ((memberAt ps i).getD ([], [], [])).1), .string (strOfNums ((memberAt ps i).getD ([], [], [])).2.1), .string (strOfNums ((memberAt ps i).getD ([], [], [])).2.2), .bool (memberAt ps i).isSome]) ∧ Below w9.heap.size w9 w') := hide fun W hb => by
                  rw [← memberV_pair]
                  exact (member_is A5 n c5 ps i W ((RA2.out.below (hb.mono RAz.out)).mono (Nat.le_trans RAz.out hb.size))).mono fun e w' hh => ⟨hh.1, hb.trans (hh.2.mono hb.size)⟩
                have T6 : Hid (∀ W, Below w9.heap.size w9 W → Calls Tryd.prog 18 #[.slice A6 n n, .int .i64 i] W fun e w' => e = .returned (.tuple #[.string (strOfNums ((memberAt ps i).getD ([], [], [])).1), .string (strOfNums ((memberAt ps i).getD ([], [], [])).2.1), .string (strOfNums ((memberAt ps i).getD ([], [], [])).2.2), .bool (memberAt ps i).isSome]) ∧ Below w9.heap.size w9 w') := hide fun W hb => by
                  rw [← memberV_pair]
                  exact (rmember5_any A6 n n ps W.heap.size i W ((RB2.out.below (hb.mono RAz.out)).mono (Nat.le_trans RAz.out hb.size)) (Nat.le_refl _)).mono fun e w' hh => ⟨hh.1, hb.trans (hh.2.mono hb.size)⟩
                generalize strOfNums ((textAt ps i).getD []) = q1 at *
                generalize strOfNums ((classAt ps i).getD []) = q2 at *
                generalize strOfNums ((memberAt ps i).getD ([], [], [])).1 = q3 at *
                generalize strOfNums ((memberAt ps i).getD ([], [], [])).2.1 = q4 at *
                generalize strOfNums ((memberAt ps i).getD ([], [], [])).2.2 = q5 at *
                generalize (textAt ps i).isSome = b1 at *
                generalize (classAt ps i).isSome = b2 at *
                generalize (memberAt ps i).isSome = b3 at *
                have e1 : (q1.toList != q1.toList) = false := by simp
                have e2 : (q2.toList != q2.toList) = false := by simp
                have e3 : (q3.toList != q3.toList) = false := by simp
                have e4 : (q4.toList != q4.toList) = false := by simp
                have e5 : (q5.toList != q5.toList) = false := by simp
                have e6 : (b1 != b1) = false := by simp
                have e7 : (b2 != b2) = false := by simp
                have e8 : (b3 != b3) = false := by simp
                go_wp2_with fail
                refine (T1.out _ Hbr.out).mono ?_
                rintro e x1 ⟨rfl, hx1⟩
                have X1 := hide hx1
                clear hx1 Hbr
                go_wp2_with fail
                refine (T2.out _ X1.out).mono ?_
                rintro e x2 ⟨rfl, rfl⟩
                go_wp2_with fail
                refine (T3.out _ X1.out).mono ?_
                rintro e x3 ⟨rfl, hx3⟩
                have X3 := hide hx3
                clear hx3 X1
                go_wp2_with fail
                refine (T4.out _ X3.out).mono ?_
                rintro e x4 ⟨rfl, rfl⟩
                go_wp2_with fail
                refine (T5.out _ X3.out).mono ?_
                rintro e x5 ⟨rfl, hx5⟩
                have X5 := hide hx5
                clear hx5 X3
                go_wp2_with fail
                refine (T6.out _ X5.out).mono ?_
                rintro e x6 ⟨rfl, hx6⟩
                have X6 := hide hx6
                clear hx6 X5
                go_wp2_with fail
                go_roundw
                case rel => exact ⟨i + 1, by omega, by omega, by go_num, X6.out⟩
                case measure => simp [intOf]; omega
              · go_wp2_with fail
                go_ret
                exact ⟨rfl, HbW.out.trans (Hbr.out.mono HbW.out.size)⟩
            · go_wp2_with fail
              go_ret
              exact ⟨rfl, HbW.out.trans (Hbr.out.mono HbW.out.size)⟩
  · exfalso; omega
  · exfalso; omega
set_option maxHeartbeats 4000000 in
set_option maxRecDepth 100000 in
theorem PoolRead_21 (a0 : Option Addr) (len0 cap0 : Nat) (z0 : List Int) (a1 a2 a3 : Int) (w : World) (w0 : Came .u8 w a0 len0 cap0 z0) (_w1 : (Lit.int .i64 a1).wf = true) (w2 : (Lit.int .u8 a2).wf = true) (_w3 : (Lit.int .i64 a3).wf = true) (hmx : Maxed w) (c3 : ¬ a3 < 0 ∧ (len0 : Int) < a3) (c1 : a1 < 0) :
    Calls Tryd.prog 3 #[.slice a0 len0 cap0, .int .i64 a1, .int .u8 a2, .int .i64 a3] w fun e w' => e = .returned (.bool true) ∧ Below w.heap.size w w' := by
  obtain ⟨hlc, hcm, hnil⟩ := came_lens w0
  have ha2 : 0 ≤ a2 ∧ a2 ≤ 255 := by simpa [Lit.wf, IntKind.min, IntKind.max, IntKind.signed, IntKind.bits] using w2
  obtain ⟨f, hf⟩ : ∃ f : Nat, f = if a3 < 0 ∨ (len0 : Int) < a3 then 0 else a3.toNat := ⟨_, rfl⟩
  have hfl : f ≤ len0 := by rw [hf]; split <;> omega
  obtain ⟨L, hL⟩ : ∃ L, L = min (len0 - f) 3000 := ⟨_, rfl⟩
  obtain ⟨A', hA'⟩ : ∃ A', A' = if cap0 = f then a0 else a0.map (·.add f) := ⟨_, rfl⟩
  obtain ⟨xs, hxs⟩ : ∃ xs, xs = ((z0.take len0).drop f).take L := ⟨_, rfl⟩
  have hL1 : L ≤ 3000 := by omega
  have hbx : IsBytes xs := by rw [hxs]; exact (((came_bytes w0).take _).drop _).take _
  have hrd : Rd w w.heap.size A' L (bys xs) := by
    by_cases h0 : L = 0
    · rw [hxs, h0, List.take_zero]; exact Rd.nil _ _ _
    · have hr := came_rd w0 len0 (Nat.le_refl _)
      obtain ⟨g, o, rfl, _⟩ := hr.2 (by omega)
      have := hr.part f L (by omega)
      rw [hA', if_neg (by omega), hxs]
      simp only [Option.map_some, add_none]
      rw [← List.map_drop, ← List.map_take] at this
      exact this
  have hSl := fun W => slice_from a0 len0 cap0 f hfl W
  rw [← hA'] at hSl
  have HS : Hid (∀ W, Calls Tryd.prog 7 #[.slice A' (len0 - f) (cap0 - f), .int .i64 3000] W fun e w' => e = .returned (.slice A' L (cap0 - f)) ∧ W = w') := hide fun W => by
    have := short_any A' (len0 - f) (cap0 - f) 3000 W (by omega) (fun h => by
      rw [hA'] at h
      split at h
      · have := hnil h; omega
      · cases a0 with
        | none => have := hnil rfl; omega
        | some x => cases h) (by omega) (by omega)
    rwa [show min (len0 - f) (Int.toNat 3000) = L from hL.symm] at this
  have HB := hide (fun W hW => pbegun_is reads_pool says_class W hW)
  have HRd := hide reads_pool
  have MX := hide hmx
  have Hrd := hide hrd
  have HX := hide hbx
  have Hlen : Hid (xs.length = L) := hide (by have := hrd.1; rwa [bys_len] at this)
  obtain ⟨i0, hi0, hz0, hz1, hz2⟩ := info_parts u8info
  unfold maxLen at hcm
  clear hA' hxs hL hrd hbx hmx w0 w2 hnil
  obtain ⟨N0, hN0⟩ : ∃ N0, N0 = len0 - f := ⟨_, rfl⟩
  obtain ⟨C0, hC0⟩ : ∃ C0, C0 = cap0 - f := ⟨_, rfl⟩
  rw [← hN0, ← hC0] at hSl
  rw [← hN0, ← hC0] at HS
  clear hN0 hC0
  have h3 : (a3 < 0 ∧ f = 0) ∨ (¬ a3 < 0 ∧ (len0 : Int) < a3 ∧ f = 0) ∨ (¬ a3 < 0 ∧ ¬ (len0 : Int) < a3 ∧ a3 = (f : Int)) := by
    rw [hf]
    by_cases q1 : a3 < 0
    · exact .inl ⟨q1, by rw [if_pos (.inl q1)]⟩
    · by_cases q2 : (len0 : Int) < a3
      · exact .inr (.inl ⟨q1, q2, by rw [if_pos (.inr q2)]⟩)
      · exact .inr (.inr ⟨q1, q2, by rw [if_neg (by omega)]; omega⟩)
  clear hf
  have h1 : a1 < 0 ∨ (¬ a1 < 0 ∧ (L : Int) ≤ a1) ∨ ∃ j : Nat, a1 = j ∧ j < L := by
    by_cases q1 : a1 < 0
    · exact .inl q1
    · by_cases q2 : (L : Int) ≤ a1
      · exact .inr (.inl ⟨q1, q2⟩)
      · exact .inr (.inr ⟨a1.toNat, by omega, by omega⟩)
  rcases h3 with ⟨q1, rfl⟩ | ⟨q1, q2, rfl⟩ | ⟨q1, q2, rfl⟩
  · exfalso; omega
  · have hSl0 : ∀ W, (Instr.slice 22 (.slice a0 len0 cap0) (some (.int .i64 0)) none none).run Tryd.prog W = .ok (.slice A' N0 C0) W := hSl
    clear hSl
    rcases h1 with q3 | ⟨q3, q4⟩ | ⟨j, rfl, q3⟩
    · clear c3 c1
      go_enter Tryd.func3, Tryd.ntmps3
      go_wp2_with fail
      refine (HB.out w MX.out).mono ?_
      rintro e w2 ⟨rfl, hb2⟩
      have Hb2 := hide hb2
      have hbs2 := hb2.size
      have Hrd2 := hide (Hrd.out.below hb2)
      clear hb2
      go_wp2_with fail
      refine (HS.out _).mono ?_
      rintro e w3 ⟨rfl, rfl⟩
      go_wp2_with (at_builtin; refine wpList_append_rd _ rfl (.const (.slice none 0 0)) (.tmp 47) 22 rfl w.heap.size 5 i0 _ 1 Tryd.underlying22 hi0 hz0 hz1 hz2 rfl (.slice none 0 0) 0 [] rfl (World.ownsRow_nil _ _ _ _) w.heap.size A' L C0 (bys xs) rfl Hrd2.out (bys_one xs) (by unfold maxLen; omega) (by omega) hbs2 ?_)
      intro v1 w4 hown1 hg1
      try simp only [Nat.zero_add, List.nil_append] at hown1
      obtain ⟨A1, c1, hv1, hs1, hlc1'⟩ := own_src hown1
      have hb4 : Below w.heap.size w w4 := Hb2.out.grown hg1 Hb2.out.size (by simp [Value.ownBlock])
      rw [hv1]
      have Hs4 := hide hs1
      have Hb4 := hide hb4
      clear hown1 hv1 hs1 hg1 hb4 Hb2 Hrd2
      obtain ⟨ys, hys⟩ : ∃ ys, ys = xs := ⟨_, rfl⟩
      rw [← hys] at Hs4 HX Hlen
      clear hys
      go_wp2_with fail
      refine (new_any A1 L c1 ys w4 _ Hs4.out.rd (Nat.le_refl _) (by omega) HX.out).mono ?_
      rintro e w5 ⟨gc, gb, rfl, hc5, hgc5, hgb5, hb5⟩
      have Hs5 := hide (Hs4.out.new (grown_below hb5 none) (by simp))
      have Hb5 := hide (Hb4.out.trans (hb5.mono Hb4.out.size))
      have Hgc := hide (show w.heap.size ≤ gc from Nat.le_trans Hb4.out.size hgc5)
      have Hc5 := hide hc5
      clear hc5 hgc5 hgb5 hb5 Hs4 Hb4
      go_wp2_with fail
      have hB : Both w.heap.size (w5.alloc (.cells #[.slice A1 L c1, .int .i64 0, .bool false] 29)) gc gb w5.heap.size A1 A1 c1 ys 0 false 0 false := by
        refine ⟨Hc5.out.grown (World.grownBy_alloc w5 _ none) (by simp) (by simp), ⟨?_, ?_, Nat.zero_le _, HX.out, by rw [Hlen.out]; omega, by rw [Hlen.out]; exact hlc1'⟩, ?_, Hgc.out, Hb5.out.size⟩
        · rw [Hlen.out]; exact At.new w5 29 [.slice A1 L c1, .int .i64 0, .bool false]
        · rw [Hlen.out]; exact Hs5.out.new (World.grownBy_alloc w5 _ none) (by simp)
        · rw [Hlen.out]; exact Hs5.out.new (World.grownBy_alloc w5 _ none) (by simp)
      have HB5 := hide hB
      have Hb6 : Hid (Below w.heap.size w (w5.alloc (.cells #[.slice A1 L c1, .int .i64 0, .bool false] 29))) := hide (Hb5.out.alloc Hb5.out.size _)
      clear hB Hs5 Hb5 Hc5
      generalize w5.alloc (.cells #[.slice A1 L c1, .int .i64 0, .bool false] 29) = w6 at *
      generalize w5.heap.size = r at *
      refine (HRd.out gc gb ys 0 w6 (MX.out.below Hb6.out) HB5.out.c).mono ?_
      rintro e w7 ⟨hg7, h7⟩
      rw [List.drop_zero] at h7
      have hf7 : Ref w7 r w.heap.size A1 c1 ys 0 false := ⟨HB5.out.f.1.grown hg7 (by simpa using HB5.out.ne.symm), HB5.out.f.2.1.far HB5.out.c.1 (by decide) hg7, HB5.out.f.2.2⟩
      have HRP := hide (rpool_any r w.heap.size A1 c1 ys 0 w7 hf7)
      rw [List.drop_zero] at HRP
      have Hb7 := hide (Hb6.out.grown hg7 Hb6.out.size (by intro q hq; cases hq; exact Hgc.out))
      have hlr : w.heap.size ≤ r := HB5.out.lr
      have hngr : gc ≠ r := HB5.out.ne
      have hngb : r ≠ gb := HB5.out.f.1.ne HB5.out.c.2.1 (by decide)
      have HAr := hide hf7.1
      clear hg7 hf7 HB5 Hb6
      rcases h7 with ⟨h7, v7, rfl⟩ | ⟨ps, m, A5, c5, h7, rfl, hrd7, hc7, hwf7⟩
      · rw [h7] at HRP
        go_wp2_with fail
        refine HRP.out.mono ?_
        rintro e w8 ⟨hg8, ⟨_, rfl⟩ | ⟨_, _, _, h8, _⟩⟩
        · have Hb8 := hide (Hb7.out.grown hg8 Hb7.out.size (by intro q hq; cases hq; exact hlr))
          have h00 : (false != false) = false := rfl
          clear hg8 h7
          go_wp2_with fail
          refine wp_region_text (fun W => Below w.heap.size w W) (by kernel_rfl) (by kernel_rfl) (by kernel_rfl) Hb8.out.drew ?_
          repeat (first
            | (refine text_skip (by rfl) ?_
               simp only [Act.put, List.setIfInBounds_toArray, List.set_cons_zero, List.set_cons_succ])
            | (refine text_value (v := ?_) (by rfl) ?_ ?_
               rotate_left
               · (intro W hSw; go_simp; try with_reducible rfl)
               simp only [Act.put, List.setIfInBounds_toArray, List.set_cons_zero, List.set_cons_succ])
            | fail)
          refine text_end ?_
          intro W hSw
          have HSw := hide hSw
          clear hSw
          go_wp2_with fail
          go_loopw [16] (fun iv wr => iv = .int .i64 (-1) ∧ wr = W) (fun _ _ => 0)
          case atStart => exact ⟨rfl, rfl⟩
          case round =>
            obtain ⟨rfl, rfl⟩ := hrel
            go_wp2_with fail
            go_ret
            exact ⟨rfl, HSw.out⟩
        · cases h8
      · have hpl := pool_len h7
        rw [h7] at HRP
        have R7 := hide hrd7
        have C7 := hide hc7
        clear hrd7 hc7 hwf7 h7
        go_wp2_with fail
        refine HRP.out.mono ?_
        rintro e w8 ⟨hg8, ⟨h8, _⟩ | ⟨ps', m', A6, h8, rfl, hrd8, hf8, _⟩⟩
        · cases h8
        · cases h8
          have Hb8 := hide (Hb7.out.grown hg8 Hb7.out.size (by intro q hq; cases hq; exact hlr))
          have RA := hide (rdc_far R7.out HAr.out hg8 (Nat.le_refl _))
          have RB := hide hrd8
          have C8 := hide (C7.out.grown hg8 (by simpa using hngr) (by simpa using hngb.symm))
          have hr1 : w8.cell? ⟨r, 1, none⟩ = some (.int .i64 ((0 + m : Nat) : Int)) := hf8.1.cell 1
          clear hg8 hrd8 hf8 R7 C7 HRP HAr Hb7
          have h00 : (true != true) = false := rfl
          have hmm : (((0 + m : Nat) : Int) != ((0 + m : Nat) : Int)) = false := by simp
          generalize 0 + m = mm at *
          generalize hpn : ps.length = n at *
          go_wp2_with fail
          refine wp_region_text (fun W => ∃ q, W = w8.drewN q) (by kernel_rfl) (by kernel_rfl) (by kernel_rfl) ⟨1, rfl⟩ ?_
          repeat (first
            | (refine text_skip (by rfl) ?_
               simp only [Act.put, List.setIfInBounds_toArray, List.set_cons_zero, List.set_cons_succ])
            | (refine text_value (v := ?_) (by rfl) ?_ ?_
               rotate_left
               · (intro W hSw; obtain ⟨q, rfl⟩ := hSw; go_simp; try with_reducible rfl)
               simp only [Act.put, List.setIfInBounds_toArray, List.set_cons_zero, List.set_cons_succ])
            | (refine text_call (by rfl) ?_ (fun W hSw => same_q (c := c5) (c' := n) RA.out RB.out (by omega) hSw) ?_
               · (intro W hSw; go_simp; done)
               simp only [Act.put, List.setIfInBounds_toArray, List.set_cons_zero, List.set_cons_succ])
            | (refine text_call (by rfl) ?_ (fun W hSw => at_w C8.out hSw) ?_
               · (intro W hSw; go_simp; done)
               simp only [Act.put, List.setIfInBounds_toArray, List.set_cons_zero, List.set_cons_succ])
            | fail)
          refine text_end ?_
          intro W hSw
          obtain ⟨q, rfl⟩ := hSw
          have HbW := hide (below_drewN Hb8.out q)
          have RA2 := hide (RA.out.drewN q)
          have RB2 := hide (RB.out.drewN q)
          have RAz : Hid (w8.heap.size ≤ (w8.drewN q).heap.size) := hide (Nat.le_refl _)
          clear RA RB Hb8 C8 hr1
          generalize w8.drewN q = w9 at *
          go_wp2_with fail
          go_loopw [16] (fun iv wr => ∃ i : Int, -1 ≤ i ∧ i ≤ 80 ∧ iv = .int .i64 i ∧ Below w9.heap.size w9 wr) (fun iv _ => (80 - intOf iv).toNat)
          case atStart => exact ⟨-1, by omega, by omega, rfl, Below.refl _ _⟩
          case round =>
            obtain ⟨i, hi1, hi2, rfl, hbr⟩ := hrel
            have Hbr := hide hbr
            clear hbr
            by_cases u1 : i < (n : Int) + 2
            · by_cases u2 : i < 80
              · have T1 : Hid (∀ W, Below w9.heap.size w9 W → Calls Tryd.prog 13 #[.slice A5 n c5, .int .i64 i] W fun e w' => e = .returned (.tuple #[.string (strOfNums ((textAt ps i).getD [])), .bool (textAt ps i).isSome]) ∧ Below w9.heap.size w9 w') := hide fun W hb => by
                  rw [← textV_pair]
                  exact (text_is A5 n c5 ps i W ((RA2.out.below (hb.mono RAz.out)).mono (Nat.le_trans RAz.out hb.size))).mono fun e w' hh => ⟨hh.1, hb.trans (hh.2.mono hb.size)⟩
                have T2 : Hid (∀ W, Below w9.heap.size w9 W → Calls Tryd.prog 14 #[.slice A6 n n, .int .i64 i] W fun e w' => e = .returned (.tuple #[.string (strOfNums ((textAt ps i).getD [])), .bool (textAt ps i).isSome]) ∧ W = w') := hide fun W hb => by
                  rw [← textV_pair]
                  exact rtext5_any A6 n n ps _ i W (RB2.out.below (hb.mono RAz.out))
                have T3 : Hid (∀ W, Below w9.heap.size w9 W → Calls Tryd.prog 15 #[.slice A5 n c5, .int .i64 i] W fun e w' => e = .returned (.tuple #[.string (strOfNums ((classAt ps i).getD [])), .bool (classAt ps i).isSome]) ∧ Below w9.heap.size w9 w') := hide fun W hb => by
                  rw [← textV_pair]
                  exact (class_is A5 n c5 ps i W ((RA2.out.below (hb.mono RAz.out)).mono (Nat.le_trans RAz.out hb.size))).mono fun e w' hh => ⟨hh.1, hb.trans (hh.2.mono hb.size)⟩
                have T4 : Hid (∀ W, Below w9.heap.size w9 W → Calls Tryd.prog 16 #[.slice A6 n n, .int .i64 i] W fun e w' => e = .returned (.tuple #[.string (strOfNums ((classAt ps i).getD [])), .bool (classAt ps i).isSome]) ∧ W = w') := hide fun W hb => by
                  rw [← textV_pair]
                  exact rclass5_any A6 n n ps _ i W (RB2.out.below (hb.mono RAz.out))
                have T5 : Hid (∀ W, Below w9.heap.size w9 W → Calls Tryd.prog 17 #[.slice A5 n c5, .int .i64 i] W fun e w' => e = .returned (.tuple #[.string (strOfNums ((memberAt ps i).getD ([], [], [])).1), .string (strOfNums ((memberAt ps i).getD ([], [], [])).2.1), .string (strOfNums ((memberAt ps i).getD ([], [], [])).2.2), .bool (memberAt ps i).isSome]) ∧ Below w9.heap.size w9 w') := hide fun W hb => by
                  rw [← memberV_pair]
                  exact (member_is A5 n c5 ps i W ((RA2.out.below (hb.mono RAz.out)).mono (Nat.le_trans RAz.out hb.size))).mono fun e w' hh => ⟨hh.1, hb.trans (hh.2.mono hb.size)⟩
                have T6 : Hid (∀ W, Below w9.heap.size w9 W → Calls Tryd.prog 18 #[.slice A6 n n, .int .i64 i] W fun e w' => e = .returned (.tuple #[.string (strOfNums ((memberAt ps i).getD ([], [], [])).1), .string (strOfNums ((memberAt ps i).getD ([], [], [])).2.1), .string (strOfNums ((memberAt ps i).getD ([], [], [])).2.2), .bool (memberAt ps i).isSome]) ∧ Below w9.heap.size w9 w') := hide fun W hb => by
                  rw [← memberV_pair]
                  exact (rmember5_any A6 n n ps W.heap.size i W ((RB2.out.below (hb.mono RAz.out)).mono (Nat.le_trans RAz.out hb.size)) (Nat.le_refl _)).mono fun e w' hh => ⟨hh.1, hb.trans (hh.2.mono hb.size)⟩
                generalize strOfNums ((textAt ps i).getD []) = q1 at *
                generalize strOfNums ((classAt ps i).getD []) = q2 at *
                generalize strOfNums ((memberAt ps i).getD ([], [], [])).1 = q3 at *
                generalize strOfNums ((memberAt ps i).getD ([], [], [])).2.1 = q4 at *
                generalize strOfNums ((memberAt ps i).getD ([], [], [])).2.2 = q5 at *
                generalize (textAt ps i).isSome = b1 at *
                generalize (classAt ps i).isSome = b2 at *
                generalize (memberAt ps i).isSome = b3 at *
                have e1 : (q1.toList != q1.toList) = false := by simp
                have e2 : (q2.toList != q2.toList) = false := by simp
                have e3 : (q3.toList != q3.toList) = false := by simp
                have e4 : (q4.toList != q4.toList) = false := by simp
                have e5 : (q5.toList != q5.toList) = false := by simp
                have e6 : (b1 != b1) = false := by simp
                have e7 : (b2 != b2) = false := by simp
                have e8 : (b3 != b3) = false := by simp
                go_wp2_with fail
                refine (T1.out _ Hbr.out).mono ?_
                rintro e x1 ⟨rfl, hx1⟩
                have X1 := hide hx1
                clear hx1 Hbr
                go_wp2_with fail
                refine (T2.out _ X1.out).mono ?_
                rintro e x2 ⟨rfl, rfl⟩
                go_wp2_with fail
                refine (T3.out _ X1.out).mono ?_
                rintro e x3 ⟨rfl, hx3⟩
                have X3 := hide hx3
                clear hx3 X1
                go_wp2_with fail
                refine (T4.out _ X3.out).mono ?_
                rintro e x4 ⟨rfl, rfl⟩
                go_wp2_with fail
                refine (T5.out _ X3.out).mono ?_
                rintro e x5 ⟨rfl, hx5⟩
                have X5 := hide hx5
                clear hx5 X3
                go_wp2_with fail
                refine (T6.out _ X5.out).mono ?_
                rintro e x6 ⟨rfl, hx6⟩
                have X6 := hide hx6
                clear hx6 X5
                go_wp2_with fail
                go_roundw
                case rel => exact ⟨i + 1, by omega, by omega, by go_num, X6.out⟩
                case measure => simp [intOf]; omega
              · go_wp2_with fail
                go_ret
                exact ⟨rfl, HbW.out.trans (Hbr.out.mono HbW.out.size)⟩
            · go_wp2_with fail
              go_ret
              exact ⟨rfl, HbW.out.trans (Hbr.out.mono HbW.out.size)⟩
    · exfalso; omega
    · exfalso; omega
  · exfalso; omega
set_option maxHeartbeats 4000000 in
set_option maxRecDepth 100000 in
theorem PoolRead_22 (a0 : Option Addr) (len0 cap0 : Nat) (z0 : List Int) (a1 a2 a3 : Int) (w : World) (w0 : Came .u8 w a0 len0 cap0 z0) (_w1 : (Lit.int .i64 a1).wf = true) (w2 : (Lit.int .u8 a2).wf = true) (_w3 : (Lit.int .i64 a3).wf = true) (hmx : Maxed w) (c3 : ¬ a3 < 0 ∧ (len0 : Int) < a3) (c1 : ¬ a1 < 0 ∧ ((min (len0 - (if a3 < 0 ∨ (len0 : Int) < a3 then 0 else a3.toNat)) 3000 : Nat) : Int) ≤ a1) :
    Calls Tryd.prog 3 #[.slice a0 len0 cap0, .int .i64 a1, .int .u8 a2, .int .i64 a3] w fun e w' => e = .returned (.bool true) ∧ Below w.heap.size w w' := by
  obtain ⟨hlc, hcm, hnil⟩ := came_lens w0
  have ha2 : 0 ≤ a2 ∧ a2 ≤ 255 := by simpa [Lit.wf, IntKind.min, IntKind.max, IntKind.signed, IntKind.bits] using w2
  obtain ⟨f, hf⟩ : ∃ f : Nat, f = if a3 < 0 ∨ (len0 : Int) < a3 then 0 else a3.toNat := ⟨_, rfl⟩
  have hfl : f ≤ len0 := by rw [hf]; split <;> omega
  obtain ⟨L, hL⟩ : ∃ L, L = min (len0 - f) 3000 := ⟨_, rfl⟩
  rw [← hf, ← hL] at c1
  obtain ⟨A', hA'⟩ : ∃ A', A' = if cap0 = f then a0 else a0.map (·.add f) := ⟨_, rfl⟩
  obtain ⟨xs, hxs⟩ : ∃ xs, xs = ((z0.take len0).drop f).take L := ⟨_, rfl⟩
  have hL1 : L ≤ 3000 := by omega
  have hbx : IsBytes xs := by rw [hxs]; exact (((came_bytes w0).take _).drop _).take _
  have hrd : Rd w w.heap.size A' L (bys xs) := by
    by_cases h0 : L = 0
    · rw [hxs, h0, List.take_zero]; exact Rd.nil _ _ _
    · have hr := came_rd w0 len0 (Nat.le_refl _)
      obtain ⟨g, o, rfl, _⟩ := hr.2 (by omega)
      have := hr.part f L (by omega)
      rw [hA', if_neg (by omega), hxs]
      simp only [Option.map_some, add_none]
      rw [← List.map_drop, ← List.map_take] at this
      exact this
  have hSl := fun W => slice_from a0 len0 cap0 f hfl W
  rw [← hA'] at hSl
  have HS : Hid (∀ W, Calls Tryd.prog 7 #[.slice A' (len0 - f) (cap0 - f), .int .i64 3000] W fun e w' => e = .returned (.slice A' L (cap0 - f)) ∧ W = w') := hide fun W => by
    have := short_any A' (len0 - f) (cap0 - f) 3000 W (by omega) (fun h => by
      rw [hA'] at h
      split at h
      · have := hnil h; omega
      · cases a0 with
        | none => have := hnil rfl; omega
        | some x => cases h) (by omega) (by omega)
    rwa [show min (len0 - f) (Int.toNat 3000) = L from hL.symm] at this
  have HB := hide (fun W hW => pbegun_is reads_pool says_class W hW)
  have HRd := hide reads_pool
  have MX := hide hmx
  have Hrd := hide hrd
  have HX := hide hbx
  have Hlen : Hid (xs.length = L) := hide (by have := hrd.1; rwa [bys_len] at this)
  obtain ⟨i0, hi0, hz0, hz1, hz2⟩ := info_parts u8info
  unfold maxLen at hcm
  clear hA' hxs hL hrd hbx hmx w0 w2 hnil
  obtain ⟨N0, hN0⟩ : ∃ N0, N0 = len0 - f := ⟨_, rfl⟩
  obtain ⟨C0, hC0⟩ : ∃ C0, C0 = cap0 - f := ⟨_, rfl⟩
  rw [← hN0, ← hC0] at hSl
  rw [← hN0, ← hC0] at HS
  clear hN0 hC0
  have h3 : (a3 < 0 ∧ f = 0) ∨ (¬ a3 < 0 ∧ (len0 : Int) < a3 ∧ f = 0) ∨ (¬ a3 < 0 ∧ ¬ (len0 : Int) < a3 ∧ a3 = (f : Int)) := by
    rw [hf]
    by_cases q1 : a3 < 0
    · exact .inl ⟨q1, by rw [if_pos (.inl q1)]⟩
    · by_cases q2 : (len0 : Int) < a3
      · exact .inr (.inl ⟨q1, q2, by rw [if_pos (.inr q2)]⟩)
      · exact .inr (.inr ⟨q1, q2, by rw [if_neg (by omega)]; omega⟩)
  clear hf
  have h1 : a1 < 0 ∨ (¬ a1 < 0 ∧ (L : Int) ≤ a1) ∨ ∃ j : Nat, a1 = j ∧ j < L := by
    by_cases q1 : a1 < 0
    · exact .inl q1
    · by_cases q2 : (L : Int) ≤ a1
      · exact .inr (.inl ⟨q1, q2⟩)
      · exact .inr (.inr ⟨a1.toNat, by omega, by omega⟩)
  rcases h3 with ⟨q1, rfl⟩ | ⟨q1, q2, rfl⟩ | ⟨q1, q2, rfl⟩
  · exfalso; omega
  · have hSl0 : ∀ W, (Instr.slice 22 (.slice a0 len0 cap0) (some (.int .i64 0)) none none).run Tryd.prog W = .ok (.slice A' N0 C0) W := hSl
    clear hSl
    rcases h1 with q3 | ⟨q3, q4⟩ | ⟨j, rfl, q3⟩
    · exfalso; omega
    · clear c3 c1
      go_enter Tryd.func3, Tryd.ntmps3
      go_wp2_with fail
      refine (HB.out w MX.out).mono ?_
      rintro e w2 ⟨rfl, hb2⟩
      have Hb2 := hide hb2
      have hbs2 := hb2.size
      have Hrd2 := hide (Hrd.out.below hb2)
      clear hb2
      go_wp2_with fail
      refine (HS.out _).mono ?_
      rintro e w3 ⟨rfl, rfl⟩
      go_wp2_with (at_builtin; refine wpList_append_rd _ rfl (.const (.slice none 0 0)) (.tmp 47) 22 rfl w.heap.size 5 i0 _ 1 Tryd.underlying22 hi0 hz0 hz1 hz2 rfl (.slice none 0 0) 0 [] rfl (World.ownsRow_nil _ _ _ _) w.heap.size A' L C0 (bys xs) rfl Hrd2.out (bys_one xs) (by unfold maxLen; omega) (by omega) hbs2 ?_)
      intro v1 w4 hown1 hg1
      try simp only [Nat.zero_add, List.nil_append] at hown1
      obtain ⟨A1, c1, hv1, hs1, hlc1'⟩ := own_src hown1
      have hb4 : Below w.heap.size w w4 := Hb2.out.grown hg1 Hb2.out.size (by simp [Value.ownBlock])
      rw [hv1]
      have Hs4 := hide hs1
      have Hb4 := hide hb4
      clear hown1 hv1 hs1 hg1 hb4 Hb2 Hrd2
      obtain ⟨ys, hys⟩ : ∃ ys, ys = xs := ⟨_, rfl⟩
      rw [← hys] at Hs4 HX Hlen
      clear hys
      go_wp2_with fail
      refine (new_any A1 L c1 ys w4 _ Hs4.out.rd (Nat.le_refl _) (by omega) HX.out).mono ?_
      rintro e w5 ⟨gc, gb, rfl, hc5, hgc5, hgb5, hb5⟩
      have Hs5 := hide (Hs4.out.new (grown_below hb5 none) (by simp))
      have Hb5 := hide (Hb4.out.trans (hb5.mono Hb4.out.size))
      have Hgc := hide (show w.heap.size ≤ gc from Nat.le_trans Hb4.out.size hgc5)
      have Hc5 := hide hc5
      clear hc5 hgc5 hgb5 hb5 Hs4 Hb4
      go_wp2_with fail
      have hB : Both w.heap.size (w5.alloc (.cells #[.slice A1 L c1, .int .i64 0, .bool false] 29)) gc gb w5.heap.size A1 A1 c1 ys 0 false 0 false := by
        refine ⟨Hc5.out.grown (World.grownBy_alloc w5 _ none) (by simp) (by simp), ⟨?_, ?_, Nat.zero_le _, HX.out, by rw [Hlen.out]; omega, by rw [Hlen.out]; exact hlc1'⟩, ?_, Hgc.out, Hb5.out.size⟩
        · rw [Hlen.out]; exact At.new w5 29 [.slice A1 L c1, .int .i64 0, .bool false]
        · rw [Hlen.out]; exact Hs5.out.new (World.grownBy_alloc w5 _ none) (by simp)
        · rw [Hlen.out]; exact Hs5.out.new (World.grownBy_alloc w5 _ none) (by simp)
      have HB5 := hide hB
      have Hb6 : Hid (Below w.heap.size w (w5.alloc (.cells #[.slice A1 L c1, .int .i64 0, .bool false] 29))) := hide (Hb5.out.alloc Hb5.out.size _)
      clear hB Hs5 Hb5 Hc5
      generalize w5.alloc (.cells #[.slice A1 L c1, .int .i64 0, .bool false] 29) = w6 at *
      generalize w5.heap.size = r at *
      refine (HRd.out gc gb ys 0 w6 (MX.out.below Hb6.out) HB5.out.c).mono ?_
      rintro e w7 ⟨hg7, h7⟩
      rw [List.drop_zero] at h7
      have hf7 : Ref w7 r w.heap.size A1 c1 ys 0 false := ⟨HB5.out.f.1.grown hg7 (by simpa using HB5.out.ne.symm), HB5.out.f.2.1.far HB5.out.c.1 (by decide) hg7, HB5.out.f.2.2⟩
      have HRP := hide (rpool_any r w.heap.size A1 c1 ys 0 w7 hf7)
      rw [List.drop_zero] at HRP
      have Hb7 := hide (Hb6.out.grown hg7 Hb6.out.size (by intro q hq; cases hq; exact Hgc.out))
      have hlr : w.heap.size ≤ r := HB5.out.lr
      have hngr : gc ≠ r := HB5.out.ne
      have hngb : r ≠ gb := HB5.out.f.1.ne HB5.out.c.2.1 (by decide)
      have HAr := hide hf7.1
      clear hg7 hf7 HB5 Hb6
      rcases h7 with ⟨h7, v7, rfl⟩ | ⟨ps, m, A5, c5, h7, rfl, hrd7, hc7, hwf7⟩
      · rw [h7] at HRP
        go_wp2_with fail
        refine HRP.out.mono ?_
        rintro e w8 ⟨hg8, ⟨_, rfl⟩ | ⟨_, _, _, h8, _⟩⟩
        · have Hb8 := hide (Hb7.out.grown hg8 Hb7.out.size (by intro q hq; cases hq; exact hlr))
          have h00 : (false != false) = false := rfl
          clear hg8 h7
          go_wp2_with fail
          refine wp_region_text (fun W => Below w.heap.size w W) (by kernel_rfl) (by kernel_rfl) (by kernel_rfl) Hb8.out.drew ?_
          repeat (first
            | (refine text_skip (by rfl) ?_
               simp only [Act.put, List.setIfInBounds_toArray, List.set_cons_zero, List.set_cons_succ])
            | (refine text_value (v := ?_) (by rfl) ?_ ?_
               rotate_left
               · (intro W hSw; go_simp; try with_reducible rfl)
               simp only [Act.put, List.setIfInBounds_toArray, List.set_cons_zero, List.set_cons_succ])
            | fail)
          refine text_end ?_
          intro W hSw
          have HSw := hide hSw
          clear hSw
          go_wp2_with fail
          go_loopw [16] (fun iv wr => iv = .int .i64 (-1) ∧ wr = W) (fun _ _ => 0)
          case atStart => exact ⟨rfl, rfl⟩
          case round =>
            obtain ⟨rfl, rfl⟩ := hrel
            go_wp2_with fail
            go_ret
            exact ⟨rfl, HSw.out⟩
        · cases h8
      · have hpl := pool_len h7
        rw [h7] at HRP
        have R7 := hide hrd7
        have C7 := hide hc7
        clear hrd7 hc7 hwf7 h7
        go_wp2_with fail
        refine HRP.out.mono ?_
        rintro e w8 ⟨hg8, ⟨h8, _⟩ | ⟨ps', m', A6, h8, rfl, hrd8, hf8, _⟩⟩
        · cases h8
        · cases h8
          have Hb8 := hide (Hb7.out.grown hg8 Hb7.out.size (by intro q hq; cases hq; exact hlr))
          have RA := hide (rdc_far R7.out HAr.out hg8 (Nat.le_refl _))
          have RB := hide hrd8
          have C8 := hide (C7.out.grown hg8 (by simpa using hngr) (by simpa using hngb.symm))
          have hr1 : w8.cell? ⟨r, 1, none⟩ = some (.int .i64 ((0 + m : Nat) : Int)) := hf8.1.cell 1
          clear hg8 hrd8 hf8 R7 C7 HRP HAr Hb7
          have h00 : (true != true) = false := rfl
          have hmm : (((0 + m : Nat) : Int) != ((0 + m : Nat) : Int)) = false := by simp
          generalize 0 + m = mm at *
          generalize hpn : ps.length = n at *
          go_wp2_with fail
          refine wp_region_text (fun W => ∃ q, W = w8.drewN q) (by kernel_rfl) (by kernel_rfl) (by kernel_rfl) ⟨1, rfl⟩ ?_
          repeat (first
            | (refine text_skip (by rfl) ?_
               simp only [Act.put, List.setIfInBounds_toArray, List.set_cons_zero, List.set_cons_succ])
            | (refine text_value (v := ?_) (by rfl) ?_ ?_
               rotate_left
               · (intro W hSw; obtain ⟨q, rfl⟩ := hSw; go_simp; try with_reducible rfl)
               simp only [Act.put, List.setIfInBounds_toArray, List.set_cons_zero, List.set_cons_succ])
            | (refine text_call (by rfl) ?_ (fun W hSw => same_q (c := c5) (c' := n) RA.out RB.out (by omega) hSw) ?_
               · (intro W hSw; go_simp; done)
               simp only [Act.put, List.setIfInBounds_toArray, List.set_cons_zero, List.set_cons_succ])
            | (refine text_call (by rfl) ?_ (fun W hSw => at_w C8.out hSw) ?_
               · (intro W hSw; go_simp; done)
               simp only [Act.put, List.setIfInBounds_toArray, List.set_cons_zero, List.set_cons_succ])
            | fail)
          refine text_end ?_
          intro W hSw
          obtain ⟨q, rfl⟩ := hSw
          have HbW := hide (below_drewN Hb8.out q)
          have RA2 := hide (RA.out.drewN q)
          have RB2 := hide (RB.out.drewN q)
          have RAz : Hid (w8.heap.size ≤ (w8.drewN q).heap.size) := hide (Nat.le_refl _)
          clear RA RB Hb8 C8 hr1
          generalize w8.drewN q = w9 at *
          go_wp2_with fail
          go_loopw [16] (fun iv wr => ∃ i : Int, -1 ≤ i ∧ i ≤ 80 ∧ iv = .int .i64 i ∧ Below w9.heap.size w9 wr) (fun iv _ => (80 - intOf iv).toNat)
          case atStart => exact ⟨-1, by omega, by omega, rfl, Below.refl _ _⟩
          case round =>
            obtain ⟨i, hi1, hi2, rfl, hbr⟩ := hrel
            have Hbr := hide hbr
            clear hbr
            by_cases u1 : i < (n : Int) + 2
            · by_cases u2 : i < 80
              · have T1 : Hid (∀ W, Below w9.heap.size w9 W → Calls Tryd.prog 13 #[.slice A5 n c5, .int .i64 i] W fun e w' => e = .returned (.tuple #[.string (strOfNums ((textAt ps i).getD [])), .bool (textAt ps i).isSome]) ∧ Below w9.heap.size w9 w') := hide fun W hb => by
                  rw [← textV_pair]
                  exact (text_is A5 n c5 ps i W ((RA2.out.below (hb.mono RAz.out)).mono (Nat.le_trans RAz.out hb.size))).mono fun e w' hh => ⟨hh.1, hb.trans (hh.2.mono hb.size)⟩
                have T2 : Hid (∀ W, Below w9.heap.size w9 W → Calls Tryd.prog 14 #[.slice A6 n n, .int .i64 i] W fun e w' => e = .returned (.tuple #[.string (strOfNums ((textAt ps i).getD [])), .bool (textAt ps i).isSome]) ∧ W = w') := hide fun W hb => by
                  rw [← textV_pair]
                  exact rtext5_any A6 n n ps _ i W (RB2.out.below (hb.mono RAz.out))
                have T3 : Hid (∀ W, Below w9.heap.size w9 W → Calls Tryd.prog 15 #[.slice A5 n c5, .int .i64 i] W fun e w' => e = .returned (.tuple #[.string (strOfNums ((classAt ps i).getD [])), .bool (classAt ps i).isSome]) ∧ Below w9.heap.size w9 w') := hide fun W hb => by
                  rw [← textV_pair]
                  exact (class_is A5 n c5 ps i W ((RA2.out.below (hb.mono RAz.out)).mono (Nat.le_trans RAz.out hb.size))).mono fun e w' hh => ⟨hh.1, hb.trans (hh.2.mono hb.size)⟩
                have T4 : Hid (∀ W, Below w9.heap.size w9 W → Calls Tryd.prog 16 #[.slice A6 n n, .int .i64 i] W fun e w' => e = .returned (.tuple #[.string (strOfNums ((classAt ps i).getD [])), .bool (classAt ps i).isSome]) ∧ W = w') := hide fun W hb => by
                  rw [← textV_pair]
                  exact rclass5_any A6 n n ps _ i W (RB2.out.below (hb.mono RAz.out))
                have T5 : Hid (∀ W, Below w9.heap.size w9 W → Calls Tryd.prog 17 #[.slice A5 n c5, .int .i64 i] W fun e w' => e = .returned (.tuple #[.string (strOfNums ((memberAt ps i).getD ([], [], [])).1), .string (strOfNums ((memberAt ps i).getD ([], [], [])).2.1), .string (strOfNums ((memberAt ps i).getD ([], [], [])).2.2), .bool (memberAt ps i).isSome]) ∧ Below w9.heap.size w9 w') := hide fun W hb => by
                  rw [← memberV_pair]
                  exact (member_is A5 n c5 ps i W ((RA2.out.below (hb.mono RAz.out)).mono (Nat.le_trans RAz.out hb.size))).mono fun e w' hh => ⟨hh.1, hb.trans (hh.2.mono hb.size)⟩
                have T6 : Hid (∀ W, Below w9.heap.size w9 W → Calls Tryd.prog 18 #[.slice A6 n n, .int .i64 i] W fun e w' => e = .returned (.tuple #[.string (strOfNums ((memberAt ps i).getD ([], [], [])).1), .string (strOfNums ((memberAt ps i).getD ([], [], [])).2.1), .string (strOfNums ((memberAt ps i).getD ([], [], [])).2.2), .bool (memberAt ps i).isSome]) ∧ Below w9.heap.size w9 w') := hide fun W hb => by
                  rw [← memberV_pair]
                  exact (rmember5_any A6 n n ps W.heap.size i W ((RB2.out.below (hb.mono RAz.out)).mono (Nat.le_trans RAz.out hb.size)) (Nat.le_refl _)).mono fun e w' hh => ⟨hh.1, hb.trans (hh.2.mono hb.size)⟩
                generalize strOfNums ((textAt ps i).getD []) = q1 at *
                generalize strOfNums ((classAt ps i).getD []) = q2 at *
                generalize strOfNums ((memberAt ps i).getD ([], [], [])).1 = q3 at *
                generalize strOfNums ((memberAt ps i).getD ([], [], [])).2.1 = q4 at *
                generalize strOfNums ((memberAt ps i).getD ([], [], [])).2.2 = q5 at *
                generalize (textAt ps i).isSome = b1 at *
                generalize (classAt ps i).isSome = b2 at *
                generalize (memberAt ps i).isSome = b3 at *
                have e1 : (q1.toList != q1.toList) = false := by simp
                have e2 : (q2.toList != q2.toList) = false := by simp
                have e3 : (q3.toList != q3.toList) = false := by simp
                have e4 : (q4.toList != q4.toList) = false := by simp
                have e5 : (q5.toList != q5.toList) = false := by simp
                have e6 : (b1 != b1) = false := by simp
                have e7 : (b2 != b2) = false := by simp
                have e8 : (b3 != b3) = false := by simp
                go_wp2_with fail
                refine (T1.out _ Hbr.out).mono ?_
                rintro e x1 ⟨rfl, hx1⟩
                have X1 := hide hx1
                clear hx1 Hbr
                go_wp2_with fail
                refine (T2.out _ X1.out).mono ?_
                rintro e x2 ⟨rfl, rfl⟩
                go_wp2_with fail
                refine (T3.out _ X1.out).mono ?_
                rintro e x3 ⟨rfl, hx3⟩
                have X3 := hide hx3
                clear hx3 X1
                go_wp2_with fail
                refine (T4.out _ X3.out).mono ?_
                rintro e x4 ⟨rfl, rfl⟩
                go_wp2_with fail
                refine (T5.out _ X3.out).mono ?_
                rintro e x5 ⟨rfl, hx5⟩
                have X5 := hide hx5
                clear hx5 X3
                go_wp2_with fail
                refine (T6.out _ X5.out).mono ?_
                rintro e x6 ⟨rfl, hx6⟩
                have X6 := hide hx6
                clear hx6 X5
                go_wp2_with fail
                go_roundw
                case rel => exact ⟨i + 1, by omega, by omega, by go_num, X6.out⟩
                case measure => simp [intOf]; omega
              · go_wp2_with fail
                go_ret
                exact ⟨rfl, HbW.out.trans (Hbr.out.mono HbW.out.size)⟩
            · go_wp2_with fail
              go_ret
              exact ⟨rfl, HbW.out.trans (Hbr.out.mono HbW.out.size)⟩
    · exfalso; omega
  · exfalso; omega
set_option maxHeartbeats 4000000 in
set_option maxRecDepth 100000 in
theorem PoolRead_23 (a0 : Option Addr) (len0 cap0 : Nat) (z0 : List Int) (a1 a2 a3 : Int) (w : World) (w0 : Came .u8 w a0 len0 cap0 z0) (_w1 : (Lit.int .i64 a1).wf = true) (w2 : (Lit.int .u8 a2).wf = true) (_w3 : (Lit.int .i64 a3).wf = true) (hmx : Maxed w) (c3 : ¬ a3 < 0 ∧ (len0 : Int) < a3) (c1 : ¬ a1 < 0 ∧ ¬ ((min (len0 - (if a3 < 0 ∨ (len0 : Int) < a3 then 0 else a3.toNat)) 3000 : Nat) : Int) ≤ a1) :
    Calls Tryd.prog 3 #[.slice a0 len0 cap0, .int .i64 a1, .int .u8 a2, .int .i64 a3] w fun e w' => e = .returned (.bool true) ∧ Below w.heap.size w w' := by
  obtain ⟨hlc, hcm, hnil⟩ := came_lens w0
  have ha2 : 0 ≤ a2 ∧ a2 ≤ 255 := by simpa [Lit.wf, IntKind.min, IntKind.max, IntKind.signed, IntKind.bits] using w2
  obtain ⟨f, hf⟩ : ∃ f : Nat, f = if a3 < 0 ∨ (len0 : Int) < a3 then 0 else a3.toNat := ⟨_, rfl⟩
  have hfl : f ≤ len0 := by rw [hf]; split <;> omega
  obtain ⟨L, hL⟩ : ∃ L, L = min (len0 - f) 3000 := ⟨_, rfl⟩
  rw [← hf, ← hL] at c1
  obtain ⟨A', hA'⟩ : ∃ A', A' = if cap0 = f then a0 else a0.map (·.add f) := ⟨_, rfl⟩
  obtain ⟨xs, hxs⟩ : ∃ xs, xs = ((z0.take len0).drop f).take L := ⟨_, rfl⟩
  have hL1 : L ≤ 3000 := by omega
  have hbx : IsBytes xs := by rw [hxs]; exact (((came_bytes w0).take _).drop _).take _
  have hrd : Rd w w.heap.size A' L (bys xs) := by
    by_cases h0 : L = 0
    · rw [hxs, h0, List.take_zero]; exact Rd.nil _ _ _
    · have hr := came_rd w0 len0 (Nat.le_refl _)
      obtain ⟨g, o, rfl, _⟩ := hr.2 (by omega)
      have := hr.part f L (by omega)
      rw [hA', if_neg (by omega), hxs]
      simp only [Option.map_some, add_none]
      rw [← List.map_drop, ← List.map_take] at this
      exact this
  have hSl := fun W => slice_from a0 len0 cap0 f hfl W
  rw [← hA'] at hSl
  have HS : Hid (∀ W, Calls Tryd.prog 7 #[.slice A' (len0 - f) (cap0 - f), .int .i64 3000] W fun e w' => e = .returned (.slice A' L (cap0 - f)) ∧ W = w') := hide fun W => by
    have := short_any A' (len0 - f) (cap0 - f) 3000 W (by omega) (fun h => by
      rw [hA'] at h
      split at h
      · have := hnil h; omega
      · cases a0 with
        | none => have := hnil rfl; omega
        | some x => cases h) (by omega) (by omega)
    rwa [show min (len0 - f) (Int.toNat 3000) = L from hL.symm] at this
  have HB := hide (fun W hW => pbegun_is reads_pool says_class W hW)
  have HRd := hide reads_pool
  have MX := hide hmx
  have Hrd := hide hrd
  have HX := hide hbx
  have Hlen : Hid (xs.length = L) := hide (by have := hrd.1; rwa [bys_len] at this)
  obtain ⟨i0, hi0, hz0, hz1, hz2⟩ := info_parts u8info
  unfold maxLen at hcm
  clear hA' hxs hL hrd hbx hmx w0 w2 hnil
  obtain ⟨N0, hN0⟩ : ∃ N0, N0 = len0 - f := ⟨_, rfl⟩
  obtain ⟨C0, hC0⟩ : ∃ C0, C0 = cap0 - f := ⟨_, rfl⟩
  rw [← hN0, ← hC0] at hSl
  rw [← hN0, ← hC0] at HS
  clear hN0 hC0
  have h3 : (a3 < 0 ∧ f = 0) ∨ (¬ a3 < 0 ∧ (len0 : Int) < a3 ∧ f = 0) ∨ (¬ a3 < 0 ∧ ¬ (len0 : Int) < a3 ∧ a3 = (f : Int)) := by
    rw [hf]
    by_cases q1 : a3 < 0
    · exact .inl ⟨q1, by rw [if_pos (.inl q1)]⟩
    · by_cases q2 : (len0 : Int) < a3
      · exact .inr (.inl ⟨q1, q2, by rw [if_pos (.inr q2)]⟩)
      · exact .inr (.inr ⟨q1, q2, by rw [if_neg (by omega)]; omega⟩)
  clear hf
  have h1 : a1 < 0 ∨ (¬ a1 < 0 ∧ (L : Int) ≤ a1) ∨ ∃ j : Nat, a1 = j ∧ j < L := by
    by_cases q1 : a1 < 0
    · exact .inl q1
    · by_cases q2 : (L : Int) ≤ a1
      · exact .inr (.inl ⟨q1, q2⟩)
      · exact .inr (.inr ⟨a1.toNat, by omega, by omega⟩)
  rcases h3 with ⟨q1, rfl⟩ | ⟨q1, q2, rfl⟩ | ⟨q1, q2, rfl⟩
  · exfalso; omega
  · have hSl0 : ∀ W, (Instr.slice 22 (.slice a0 len0 cap0) (some (.int .i64 0)) none none).run Tryd.prog W = .ok (.slice A' N0 C0) W := hSl
    clear hSl
    rcases h1 with q3 | ⟨q3, q4⟩ | ⟨j, rfl, q3⟩
    · exfalso; omega
    · exfalso; omega
    · clear c3 c1
      go_enter Tryd.func3, Tryd.ntmps3
      go_wp2_with fail
      refine (HB.out w MX.out).mono ?_
      rintro e w2 ⟨rfl, hb2⟩
      have Hb2 := hide hb2
      have hbs2 := hb2.size
      have Hrd2 := hide (Hrd.out.below hb2)
      clear hb2
      go_wp2_with fail
      refine (HS.out _).mono ?_
      rintro e w3 ⟨rfl, rfl⟩
      go_wp2_with (at_builtin; refine wpList_append_rd _ rfl (.const (.slice none 0 0)) (.tmp 47) 22 rfl w.heap.size 5 i0 _ 1 Tryd.underlying22 hi0 hz0 hz1 hz2 rfl (.slice none 0 0) 0 [] rfl (World.ownsRow_nil _ _ _ _) w.heap.size A' L C0 (bys xs) rfl Hrd2.out (bys_one xs) (by unfold maxLen; omega) (by omega) hbs2 ?_)
      intro v1 w4 hown1 hg1
      try simp only [Nat.zero_add, List.nil_append] at hown1
      obtain ⟨A1, c1, hv1, hs1, hlc1'⟩ := own_src hown1
      have hb4 : Below w.heap.size w w4 := Hb2.out.grown hg1 Hb2.out.size (by simp [Value.ownBlock])
      rw [hv1]
      have Hs4 := hide hs1
      have Hb4 := hide hb4
      clear hown1 hv1 hs1 hg1 hb4 Hb2 Hrd2
      rcases Hs4.out with ⟨_, h0, _⟩ | ⟨g1, ex, rfl, hg1, hl1, hat1⟩
      · omega
      have hjx : j < xs.length := by rw [Hlen.out]; exact q3
      obtain ⟨y, hy⟩ : ∃ y, xs.getD j 0 = y := ⟨_, rfl⟩
      have hcj : w4.cell? ⟨g1, j, none⟩ = some (.int .u8 y) := by
        rw [hat1.cell, List.getElem?_append_left (by rw [bys_len]; exact hjx), ← hy]
        simp [bys, List.getD, hjx]
      have hfj := hat1.free j
      obtain ⟨v, hv⟩ : ∃ v, bits .xor .u8 y a2 = v := ⟨_, rfl⟩
      have hvr : 0 ≤ v ∧ v < 256 := by rw [← hv]; exact xor_range _ _
      have hat5 := hat1.set j (.int .u8 v)
      have hset : (bys xs ++ ex).set j (.int .u8 v) = bys (xs.set j v) ++ ex := by
        rw [List.set_append_left _ _ (by rw [bys_len]; exact hjx)]
        simp [bys, List.map_set]
      rw [hset] at hat5
      obtain ⟨ys, hys⟩ : ∃ ys, ys = xs.set j v := ⟨_, rfl⟩
      have HX2 : Hid (IsBytes ys) := hide (by
        rw [hys]
        intro x hx
        rcases List.mem_or_eq_of_mem_set hx with hx | rfl
        · exact HX.out x hx
        · exact hvr)
      have Hlen2 : Hid (ys.length = L) := hide (by rw [hys, List.length_set]; exact Hlen.out)
      rw [← hys] at hat5
      have Hs5 : Hid (Src (w4.setCell ⟨g1, j, none⟩ (.int .u8 v)) w.heap.size 5 (some ⟨g1, 0, none⟩) L (bys ys)) := hide (.inr ⟨g1, ex, rfl, hg1, by rw [bys_len]; exact Hlen2.out, hat5⟩)
      have Hb5 : Hid (Below w.heap.size w (w4.setCell ⟨g1, j, none⟩ (.int .u8 v))) := hide (Hb4.out.setCell hg1 _)
      clear hys hset hat5 hat1 hvr hjx hl1 Hs4 Hb4 HX Hlen hy
      go_upto_region 9 with fail
      try rw [hv]
      clear hcj hfj hv
      generalize w4.setCell ⟨g1, j, none⟩ (.int .u8 v) = w4 at *
      have Hs4 := Hs5
      have Hb4 := Hb5
      have HX := HX2
      have Hlen := Hlen2
      clear Hs5 Hb5 HX2 Hlen2
      generalize (some (⟨g1, 0, none⟩ : Addr)) = A1 at *
      go_wp2_with fail
      refine (new_any A1 L c1 ys w4 _ Hs4.out.rd (Nat.le_refl _) (by omega) HX.out).mono ?_
      rintro e w5 ⟨gc, gb, rfl, hc5, hgc5, hgb5, hb5⟩
      have Hs5 := hide (Hs4.out.new (grown_below hb5 none) (by simp))
      have Hb5 := hide (Hb4.out.trans (hb5.mono Hb4.out.size))
      have Hgc := hide (show w.heap.size ≤ gc from Nat.le_trans Hb4.out.size hgc5)
      have Hc5 := hide hc5
      clear hc5 hgc5 hgb5 hb5 Hs4 Hb4
      go_wp2_with fail
      have hB : Both w.heap.size (w5.alloc (.cells #[.slice A1 L c1, .int .i64 0, .bool false] 29)) gc gb w5.heap.size A1 A1 c1 ys 0 false 0 false := by
        refine ⟨Hc5.out.grown (World.grownBy_alloc w5 _ none) (by simp) (by simp), ⟨?_, ?_, Nat.zero_le _, HX.out, by rw [Hlen.out]; omega, by rw [Hlen.out]; exact hlc1'⟩, ?_, Hgc.out, Hb5.out.size⟩
        · rw [Hlen.out]; exact At.new w5 29 [.slice A1 L c1, .int .i64 0, .bool false]
        · rw [Hlen.out]; exact Hs5.out.new (World.grownBy_alloc w5 _ none) (by simp)
        · rw [Hlen.out]; exact Hs5.out.new (World.grownBy_alloc w5 _ none) (by simp)
      have HB5 := hide hB
      have Hb6 : Hid (Below w.heap.size w (w5.alloc (.cells #[.slice A1 L c1, .int .i64 0, .bool false] 29))) := hide (Hb5.out.alloc Hb5.out.size _)
      clear hB Hs5 Hb5 Hc5
      generalize w5.alloc (.cells #[.slice A1 L c1, .int .i64 0, .bool false] 29) = w6 at *
      generalize w5.heap.size = r at *
      refine (HRd.out gc gb ys 0 w6 (MX.out.below Hb6.out) HB5.out.c).mono ?_
      rintro e w7 ⟨hg7, h7⟩
      rw [List.drop_zero] at h7
      have hf7 : Ref w7 r w.heap.size A1 c1 ys 0 false := ⟨HB5.out.f.1.grown hg7 (by simpa using HB5.out.ne.symm), HB5.out.f.2.1.far HB5.out.c.1 (by decide) hg7, HB5.out.f.2.2⟩
      have HRP := hide (rpool_any r w.heap.size A1 c1 ys 0 w7 hf7)
      rw [List.drop_zero] at HRP
      have Hb7 := hide (Hb6.out.grown hg7 Hb6.out.size (by intro q hq; cases hq; exact Hgc.out))
      have hlr : w.heap.size ≤ r := HB5.out.lr
      have hngr : gc ≠ r := HB5.out.ne
      have hngb : r ≠ gb := HB5.out.f.1.ne HB5.out.c.2.1 (by decide)
      have HAr := hide hf7.1
      clear hg7 hf7 HB5 Hb6
      rcases h7 with ⟨h7, v7, rfl⟩ | ⟨ps, m, A5, c5, h7, rfl, hrd7, hc7, hwf7⟩
      · rw [h7] at HRP
        go_wp2_with fail
        refine HRP.out.mono ?_
        rintro e w8 ⟨hg8, ⟨_, rfl⟩ | ⟨_, _, _, h8, _⟩⟩
        · have Hb8 := hide (Hb7.out.grown hg8 Hb7.out.size (by intro q hq; cases hq; exact hlr))
          have h00 : (false != false) = false := rfl
          clear hg8 h7
          go_wp2_with fail
          refine wp_region_text (fun W => Below w.heap.size w W) (by kernel_rfl) (by kernel_rfl) (by kernel_rfl) Hb8.out.drew ?_
          repeat (first
            | (refine text_skip (by rfl) ?_
               simp only [Act.put, List.setIfInBounds_toArray, List.set_cons_zero, List.set_cons_succ])
            | (refine text_value (v := ?_) (by rfl) ?_ ?_
               rotate_left
               · (intro W hSw; go_simp; try with_reducible rfl)
               simp only [Act.put, List.setIfInBounds_toArray, List.set_cons_zero, List.set_cons_succ])
            | fail)
          refine text_end ?_
          intro W hSw
          have HSw := hide hSw
          clear hSw
          go_wp2_with fail
          go_loopw [16] (fun iv wr => iv = .int .i64 (-1) ∧ wr = W) (fun _ _ => 0)
          case atStart => exact ⟨rfl, rfl⟩
          case round =>
            obtain ⟨rfl, rfl⟩ := hrel
            go_wp2_with fail
            go_ret
            exact ⟨rfl, HSw.out⟩
        · cases h8
      · have hpl := pool_len h7
        rw [h7] at HRP
        have R7 := hide hrd7
        have C7 := hide hc7
        clear hrd7 hc7 hwf7 h7
        go_wp2_with fail
        refine HRP.out.mono ?_
        rintro e w8 ⟨hg8, ⟨h8, _⟩ | ⟨ps', m', A6, h8, rfl, hrd8, hf8, _⟩⟩
        · cases h8
        · cases h8
          have Hb8 := hide (Hb7.out.grown hg8 Hb7.out.size (by intro q hq; cases hq; exact hlr))
          have RA := hide (rdc_far R7.out HAr.out hg8 (Nat.le_refl _))
          have RB := hide hrd8
          have C8 := hide (C7.out.grown hg8 (by simpa using hngr) (by simpa using hngb.symm))
          have hr1 : w8.cell? ⟨r, 1, none⟩ = some (.int .i64 ((0 + m : Nat) : Int)) := hf8.1.cell 1
          clear hg8 hrd8 hf8 R7 C7 HRP HAr Hb7
          have h00 : (true != true) = false := rfl
          have hmm : (((0 + m : Nat) : Int) != ((0 + m : Nat) : Int)) = false := by simp
          generalize 0 + m = mm at *
          generalize hpn : ps.length = n at *
          go_wp2_with fail
          refine wp_region_text (fun W => ∃ q, W = w8.drewN q) (by kernel_rfl) (by kernel_rfl) (by kernel_rfl) ⟨1, rfl⟩ ?_
          repeat (first
            | (refine text_skip (by rfl) ?_
               simp only [Act.put, List.setIfInBounds_toArray, List.set_cons_zero, List.set_cons_succ])
            | (refine text_value (v := ?_) (by rfl) ?_ ?_
               rotate_left
               · (intro W hSw; obtain ⟨q, rfl⟩ := hSw; go_simp; try with_reducible rfl)
               simp only [Act.put, List.setIfInBounds_toArray, List.set_cons_zero, List.set_cons_succ])
            | (refine text_call (by rfl) ?_ (fun W hSw => same_q (c := c5) (c' := n) RA.out RB.out (by omega) hSw) ?_
               · (intro W hSw; go_simp; done)
               simp only [Act.put, List.setIfInBounds_toArray, List.set_cons_zero, List.set_cons_succ])
            | (refine text_call (by rfl) ?_ (fun W hSw => at_w C8.out hSw) ?_
               · (intro W hSw; go_simp; done)
               simp only [Act.put, List.setIfInBounds_toArray, List.set_cons_zero, List.set_cons_succ])
            | fail)
          refine text_end ?_
          intro W hSw
          obtain ⟨q, rfl⟩ := hSw
          have HbW := hide (below_drewN Hb8.out q)
          have RA2 := hide (RA.out.drewN q)
          have RB2 := hide (RB.out.drewN q)
          have RAz : Hid (w8.heap.size ≤ (w8.drewN q).heap.size) := hide (Nat.le_refl _)
          clear RA RB Hb8 C8 hr1
          generalize w8.drewN q = w9 at *
          go_wp2_with fail
          go_loopw [16] (fun iv wr => ∃ i : Int, -1 ≤ i ∧ i ≤ 80 ∧ iv = .int .i64 i ∧ Below w9.heap.size w9 wr) (fun iv _ => (80 - intOf iv).toNat)
          case atStart => exact ⟨-1, by omega, by omega, rfl, Below.refl _ _⟩
          case round =>
            obtain ⟨i, hi1, hi2, rfl, hbr⟩ := hrel
            have Hbr := hide hbr
            clear hbr
            by_cases u1 : i < (n : Int) + 2
            · by_cases u2 : i < 80
              · have T1 : Hid (∀ W, Below w9.heap.size w9 W → Calls Tryd.prog 13 #[.slice A5 n c5, .int .i64 i] W fun e w' => e = .returned (.tuple #[.string (strOfNums ((textAt ps i).getD [])), .bool (textAt ps i).isSome]) ∧ Below w9.heap.size w9 w') := hide fun W hb => by
                  rw [← textV_pair]
                  exact (text_is A5 n c5 ps i W ((RA2.out.below (hb.mono RAz.out)).mono (Nat.le_trans RAz.out hb.size))).mono fun e w' hh => ⟨hh.1, hb.trans (hh.2.mono hb.size)⟩
                have T2 : Hid (∀ W, Below w9.heap.size w9 W → Calls Tryd.prog 14 #[.slice A6 n n, .int .i64 i] W fun e w' => e = .returned (.tuple #[.string (strOfNums ((textAt ps i).getD [])), .bool (textAt ps i).isSome]) ∧ W = w') := hide fun W hb => by
                  rw [← textV_pair]
                  exact rtext5_any A6 n n ps _ i W (RB2.out.below (hb.mono RAz.out))
                have T3 : Hid (∀ W, Below w9.heap.size w9 W → Calls Tryd.prog 15 #[.slice A5 n c5, .int .i64 i] W fun e w' => e = .returned (.tuple #[.string (strOfNums ((classAt ps i).getD [])), .bool (classAt ps i).isSome]) ∧ Below w9.heap.size w9 w') := hide fun W hb => by
                  rw [← textV_pair]
                  exact (class_is A5 n c5 ps i W ((RA2.out.below (hb.mono RAz.out)).mono (Nat.le_trans RAz.out hb.size))).mono fun e w' hh => ⟨hh.1, hb.trans (hh.2.mono hb.size)⟩
                have T4 : Hid (∀ W, Below w9.heap.size w9 W → Calls Tryd.prog 16 #[.slice A6 n n, .int .i64 i] W fun e w' => e = .returned (.tuple #[.string (strOfNums ((classAt ps i).getD [])), .bool (classAt ps i).isSome]) ∧ W = w') := hide fun W hb => by
                  rw [← textV_pair]
                  exact rclass5_any A6 n n ps _ i W (RB2.out.below (hb.mono RAz.out))
                have T5 : Hid (∀ W, Below w9.heap.size w9 W → Calls Tryd.prog 17 #[.slice A5 n c5, .int .i64 i] W fun e w' => e = .returned (.tuple #[.string (strOfNums ((memberAt ps i).getD ([], [], [])).1), .string (strOfNums ((memberAt ps i).getD ([], [], [])).2.1), .string (strOfNums ((memberAt ps i).getD ([], [], [])).2.2), .bool (memberAt ps i).isSome]) ∧ Below w9.heap.size w9 w') := hide fun W hb => by
                  rw [← memberV_pair]
                  exact (member_is A5 n c5 ps i W ((RA2.out.below (hb.mono RAz.out)).mono (Nat.le_trans RAz.out hb.size))).mono fun e w' hh => ⟨hh.1, hb.trans (hh.2.mono hb.size)⟩
                have T6 : Hid (∀ W, Below w9.heap.size w9 W → Calls Tryd.prog 18 #[.slice A6 n n, .int .i64 i] W fun e w' => e = .returned (.tuple #[.string (strOfNums ((memberAt ps i).getD ([], [], [])).1), .string (strOfNums ((memberAt ps i).getD ([], [], [])).2.1), .string (strOfNums ((memberAt ps i).getD ([], [], [])).2.2), .bool (memberAt ps i).isSome]) ∧ Below w9.heap.size w9 w') := hide fun W hb => by
                  rw [← memberV_pair]
                  exact (rmember5_any A6 n n ps W.heap.size i W ((RB2.out.below (hb.mono RAz.out)).mono (Nat.le_trans RAz.out hb.size)) (Nat.le_refl _)).mono fun e w' hh => ⟨hh.1, hb.trans (hh.2.mono hb.size)⟩
                generalize strOfNums ((textAt ps i).getD []) = q1 at *
                generalize strOfNums ((classAt ps i).getD []) = q2 at *
                generalize strOfNums ((memberAt ps i).getD ([], [], [])).1 = q3 at *
                generalize strOfNums ((memberAt ps i).getD ([], [], [])).2.1 = q4 at *
                generalize strOfNums ((memberAt ps i).getD ([], [], [])).2.2 = q5 at *
                generalize (textAt ps i).isSome = b1 at *
                generalize (classAt ps i).isSome = b2 at *
                generalize (memberAt ps i).isSome = b3 at *
                have e1 : (q1.toList != q1.toList) = false := by simp
                have e2 : (q2.toList != q2.toList) = false := by simp
                have e3 : (q3.toList != q3.toList) = false := by simp
                have e4 : (q4.toList != q4.toList) = false := by simp
                have e5 : (q5.toList != q5.toList) = false := by simp
                have e6 : (b1 != b1) = false := by simp
                have e7 : (b2 != b2) = false := by simp
                have e8 : (b3 != b3) = false := by simp
                go_wp2_with fail
                refine (T1.out _ Hbr.out).mono ?_
                rintro e x1 ⟨rfl, hx1⟩
                have X1 := hide hx1
                clear hx1 Hbr
                go_wp2_with fail
                refine (T2.out _ X1.out).mono ?_
                rintro e x2 ⟨rfl, rfl⟩
                go_wp2_with fail
                refine (T3.out _ X1.out).mono ?_
                rintro e x3 ⟨rfl, hx3⟩
                have X3 := hide hx3
                clear hx3 X1
                go_wp2_with fail
                refine (T4.out _ X3.out).mono ?_
                rintro e x4 ⟨rfl, rfl⟩
                go_wp2_with fail
                refine (T5.out _ X3.out).mono ?_
                rintro e x5 ⟨rfl, hx5⟩
                have X5 := hide hx5
                clear hx5 X3
                go_wp2_with fail
                refine (T6.out _ X5.out).mono ?_
                rintro e x6 ⟨rfl, hx6⟩
                have X6 := hide hx6
                clear hx6 X5
                go_wp2_with fail
                go_roundw
                case rel => exact ⟨i + 1, by omega, by omega, by go_num, X6.out⟩
                case measure => simp [intOf]; omega
              · go_wp2_with fail
                go_ret
                exact ⟨rfl, HbW.out.trans (Hbr.out.mono HbW.out.size)⟩
            · go_wp2_with fail
              go_ret
              exact ⟨rfl, HbW.out.trans (Hbr.out.mono HbW.out.size)⟩
  · exfalso; omega
set_option maxHeartbeats 4000000 in
set_option maxRecDepth 100000 in
theorem PoolRead_31 (a0 : Option Addr) (len0 cap0 : Nat) (z0 : List Int) (a1 a2 a3 : Int) (w : World) (w0 : Came .u8 w a0 len0 cap0 z0) (_w1 : (Lit.int .i64 a1).wf = true) (w2 : (Lit.int .u8 a2).wf = true) (_w3 : (Lit.int .i64 a3).wf = true) (hmx : Maxed w) (c3 : ¬ a3 < 0 ∧ ¬ (len0 : Int) < a3) (c1 : a1 < 0) :
    Calls Tryd.prog 3 #[.slice a0 len0 cap0, .int .i64 a1, .int .u8 a2, .int .i64 a3] w fun e w' => e = .returned (.bool true) ∧ Below w.heap.size w w' := by
  obtain ⟨hlc, hcm, hnil⟩ := came_lens w0
  have ha2 : 0 ≤ a2 ∧ a2 ≤ 255 := by simpa [Lit.wf, IntKind.min, IntKind.max, IntKind.signed, IntKind.bits] using w2
  obtain ⟨f, hf⟩ : ∃ f : Nat, f = if a3 < 0 ∨ (len0 : Int) < a3 then 0 else a3.toNat := ⟨_, rfl⟩
  have hfl : f ≤ len0 := by rw [hf]; split <;> omega
  obtain ⟨L, hL⟩ : ∃ L, L = min (len0 - f) 3000 := ⟨_, rfl⟩
  obtain ⟨A', hA'⟩ : ∃ A', A' = if cap0 = f then a0 else a0.map (·.add f) := ⟨_, rfl⟩
  obtain ⟨xs, hxs⟩ : ∃ xs, xs = ((z0.take len0).drop f).take L := ⟨_, rfl⟩
  have hL1 : L ≤ 3000 := by omega
  have hbx : IsBytes xs := by rw [hxs]; exact (((came_bytes w0).take _).drop _).take _
  have hrd : Rd w w.heap.size A' L (bys xs) := by
    by_cases h0 : L = 0
    · rw [hxs, h0, List.take_zero]; exact Rd.nil _ _ _
    · have hr := came_rd w0 len0 (Nat.le_refl _)
      obtain ⟨g, o, rfl, _⟩ := hr.2 (by omega)
      have := hr.part f L (by omega)
      rw [hA', if_neg (by omega), hxs]
      simp only [Option.map_some, add_none]
      rw [← List.map_drop, ← List.map_take] at this
      exact this
  have hSl := fun W => slice_from a0 len0 cap0 f hfl W
  rw [← hA'] at hSl
  have HS : Hid (∀ W, Calls Tryd.prog 7 #[.slice A' (len0 - f) (cap0 - f), .int .i64 3000] W fun e w' => e = .returned (.slice A' L (cap0 - f)) ∧ W = w') := hide fun W => by
    have := short_any A' (len0 - f) (cap0 - f) 3000 W (by omega) (fun h => by
      rw [hA'] at h
      split at h
      · have := hnil h; omega
      · cases a0 with
        | none => have := hnil rfl; omega
        | some x => cases h) (by omega) (by omega)
    rwa [show min (len0 - f) (Int.toNat 3000) = L from hL.symm] at this
  have HB := hide (fun W hW => pbegun_is reads_pool says_class W hW)
  have HRd := hide reads_pool
  have MX := hide hmx
  have Hrd := hide hrd
  have HX := hide hbx
  have Hlen : Hid (xs.length = L) := hide (by have := hrd.1; rwa [bys_len] at this)
  obtain ⟨i0, hi0, hz0, hz1, hz2⟩ := info_parts u8info
  unfold maxLen at hcm
  clear hA' hxs hL hrd hbx hmx w0 w2 hnil
  obtain ⟨N0, hN0⟩ : ∃ N0, N0 = len0 - f := ⟨_, rfl⟩
  obtain ⟨C0, hC0⟩ : ∃ C0, C0 = cap0 - f := ⟨_, rfl⟩
  rw [← hN0, ← hC0] at hSl
  rw [← hN0, ← hC0] at HS
  clear hN0 hC0
  have h3 : (a3 < 0 ∧ f = 0) ∨ (¬ a3 < 0 ∧ (len0 : Int) < a3 ∧ f = 0) ∨ (¬ a3 < 0 ∧ ¬ (len0 : Int) < a3 ∧ a3 = (f : Int)) := by
    rw [hf]
    by_cases q1 : a3 < 0
    · exact .inl ⟨q1, by rw [if_pos (.inl q1)]⟩
    · by_cases q2 : (len0 : Int) < a3
      · exact .inr (.inl ⟨q1, q2, by rw [if_pos (.inr q2)]⟩)
      · exact .inr (.inr ⟨q1, q2, by rw [if_neg (by omega)]; omega⟩)
  clear hf
  have h1 : a1 < 0 ∨ (¬ a1 < 0 ∧ (L : Int) ≤ a1) ∨ ∃ j : Nat, a1 = j ∧ j < L := by
    by_cases q1 : a1 < 0
    · exact .inl q1
    · by_cases q2 : (L : Int) ≤ a1
      · exact .inr (.inl ⟨q1, q2⟩)
      · exact .inr (.inr ⟨a1.toNat, by omega, by omega⟩)
  rcases h3 with ⟨q1, rfl⟩ | ⟨q1, q2, rfl⟩ | ⟨q1, q2, rfl⟩
  · exfalso; omega
  · exfalso; omega
  · rcases h1 with q3 | ⟨q3, q4⟩ | ⟨j, rfl, q3⟩
    · clear c3 c1
      go_enter Tryd.func3, Tryd.ntmps3
      go_wp2_with fail
      refine (HB.out w MX.out).mono ?_
      rintro e w2 ⟨rfl, hb2⟩
      have Hb2 := hide hb2
      have hbs2 := hb2.size
      have Hrd2 := hide (Hrd.out.below hb2)
      clear hb2
      go_wp2_with fail
      refine (HS.out _).mono ?_
      rintro e w3 ⟨rfl, rfl⟩
      go_wp2_with (at_builtin; refine wpList_append_rd _ rfl (.const (.slice none 0 0)) (.tmp 47) 22 rfl w.heap.size 5 i0 _ 1 Tryd.underlying22 hi0 hz0 hz1 hz2 rfl (.slice none 0 0) 0 [] rfl (World.ownsRow_nil _ _ _ _) w.heap.size A' L C0 (bys xs) rfl Hrd2.out (bys_one xs) (by unfold maxLen; omega) (by omega) hbs2 ?_)
      intro v1 w4 hown1 hg1
      try simp only [Nat.zero_add, List.nil_append] at hown1
      obtain ⟨A1, c1, hv1, hs1, hlc1'⟩ := own_src hown1
      have hb4 : Below w.heap.size w w4 := Hb2.out.grown hg1 Hb2.out.size (by simp [Value.ownBlock])
      rw [hv1]
      have Hs4 := hide hs1
      have Hb4 := hide hb4
      clear hown1 hv1 hs1 hg1 hb4 Hb2 Hrd2
      obtain ⟨ys, hys⟩ : ∃ ys, ys = xs := ⟨_, rfl⟩
      rw [← hys] at Hs4 HX Hlen
      clear hys
      go_wp2_with fail
      refine (new_any A1 L c1 ys w4 _ Hs4.out.rd (Nat.le_refl _) (by omega) HX.out).mono ?_
      rintro e w5 ⟨gc, gb, rfl, hc5, hgc5, hgb5, hb5⟩
      have Hs5 := hide (Hs4.out.new (grown_below hb5 none) (by simp))
      have Hb5 := hide (Hb4.out.trans (hb5.mono Hb4.out.size))
      have Hgc := hide (show w.heap.size ≤ gc from Nat.le_trans Hb4.out.size hgc5)
      have Hc5 := hide hc5
      clear hc5 hgc5 hgb5 hb5 Hs4 Hb4
      go_wp2_with fail
      have hB : Both w.heap.size (w5.alloc (.cells #[.slice A1 L c1, .int .i64 0, .bool false] 29)) gc gb w5.heap.size A1 A1 c1 ys 0 false 0 false := by
        refine ⟨Hc5.out.grown (World.grownBy_alloc w5 _ none) (by simp) (by simp), ⟨?_, ?_, Nat.zero_le _, HX.out, by rw [Hlen.out]; omega, by rw [Hlen.out]; exact hlc1'⟩, ?_, Hgc.out, Hb5.out.size⟩
        · rw [Hlen.out]; exact At.new w5 29 [.slice A1 L c1, .int .i64 0, .bool false]
        · rw [Hlen.out]; exact Hs5.out.new (World.grownBy_alloc w5 _ none) (by simp)
        · rw [Hlen.out]; exact Hs5.out.new (World.grownBy_alloc w5 _ none) (by simp)
      have HB5 := hide hB
      have Hb6 : Hid (Below w.heap.size w (w5.alloc (.cells #[.slice A1 L c1, .int .i64 0, .bool false] 29))) := hide (Hb5.out.alloc Hb5.out.size _)
      clear hB Hs5 Hb5 Hc5
      generalize w5.alloc (.cells #[.slice A1 L c1, .int .i64 0, .bool false] 29) = w6 at *
      generalize w5.heap.size = r at *
      refine (HRd.out gc gb ys 0 w6 (MX.out.below Hb6.out) HB5.out.c).mono ?_
      rintro e w7 ⟨hg7, h7⟩
      rw [List.drop_zero] at h7
      have hf7 : Ref w7 r w.heap.size A1 c1 ys 0 false := ⟨HB5.out.f.1.grown hg7 (by simpa using HB5.out.ne.symm), HB5.out.f.2.1.far HB5.out.c.1 (by decide) hg7, HB5.out.f.2.2⟩
      have HRP := hide (rpool_any r w.heap.size A1 c1 ys 0 w7 hf7)
      rw [List.drop_zero] at HRP
      have Hb7 := hide (Hb6.out.grown hg7 Hb6.out.size (by intro q hq; cases hq; exact Hgc.out))
      have hlr : w.heap.size ≤ r := HB5.out.lr
      have hngr : gc ≠ r := HB5.out.ne
      have hngb : r ≠ gb := HB5.out.f.1.ne HB5.out.c.2.1 (by decide)
      have HAr := hide hf7.1
      clear hg7 hf7 HB5 Hb6
      rcases h7 with ⟨h7, v7, rfl⟩ | ⟨ps, m, A5, c5, h7, rfl, hrd7, hc7, hwf7⟩
      · rw [h7] at HRP
        go_wp2_with fail
        refine HRP.out.mono ?_
        rintro e w8 ⟨hg8, ⟨_, rfl⟩ | ⟨_, _, _, h8, _⟩⟩
        · have Hb8 := hide (Hb7.out.grown hg8 Hb7.out.size (by intro q hq; cases hq; exact hlr))
          have h00 : (false != false) = false := rfl
          clear hg8 h7
          go_wp2_with fail
          refine wp_region_text (fun W => Below w.heap.size w W) (by kernel_rfl) (by kernel_rfl) (by kernel_rfl) Hb8.out.drew ?_
          repeat (first
            | (refine text_skip (by rfl) ?_
               simp only [Act.put, List.setIfInBounds_toArray, List.set_cons_zero, List.set_cons_succ])
            | (refine text_value (v := ?_) (by rfl) ?_ ?_
               rotate_left
               · (intro W hSw; go_simp; try with_reducible rfl)
               simp only [Act.put, List.setIfInBounds_toArray, List.set_cons_zero, List.set_cons_succ])
            | fail)
          refine text_end ?_
          intro W hSw
          have HSw := hide hSw
          clear hSw
          go_wp2_with fail
          go_loopw [16] (fun iv wr => iv = .int .i64 (-1) ∧ wr = W) (fun _ _ => 0)
          case atStart => exact ⟨rfl, rfl⟩
          case round =>
            obtain ⟨rfl, rfl⟩ := hrel
            go_wp2_with fail
            go_ret
            exact ⟨rfl, HSw.out⟩
        · cases h8
      · have hpl := pool_len h7
        rw [h7] at HRP
        have R7 := hide hrd7
        have C7 := hide hc7
        clear hrd7 hc7 hwf7 h7
        go_wp2_with fail
        refine HRP.out.mono ?_
        rintro e w8 ⟨hg8, ⟨h8, _⟩ | ⟨ps', m', A6, h8, rfl, hrd8, hf8, _⟩⟩
        · cases h8
        · cases h8
          have Hb8 := hide (Hb7.out.grown hg8 Hb7.out.size (by intro q hq; cases hq; exact hlr))
          have RA := hide (rdc_far R7.out HAr.out hg8 (Nat.le_refl _))
          have RB := hide hrd8
          have C8 := hide (C7.out.grown hg8 (by simpa using hngr) (by simpa using hngb.symm))
          have hr1 : w8.cell? ⟨r, 1, none⟩ = some (.int .i64 ((0 + m : Nat) : Int)) := hf8.1.cell 1
          clear hg8 hrd8 hf8 R7 C7 HRP HAr Hb7
          have h00 : (true != true) = false := rfl
          have hmm : (((0 + m : Nat) : Int) != ((0 + m : Nat) : Int)) = false := by simp
          generalize 0 + m = mm at *
          generalize hpn : ps.length = n at *
          go_wp2_with fail
          refine wp_region_text (fun W => ∃ q, W = w8.drewN q) (by kernel_rfl) (by kernel_rfl) (by kernel_rfl) ⟨1, rfl⟩ ?_
          repeat (first
            | (refine text_skip (by rfl) ?_
               simp only [Act.put, List.setIfInBounds_toArray, List.set_cons_zero, List.set_cons_succ])
            | (refine text_value (v := ?_) (by rfl) ?_ ?_
               rotate_left
               · (intro W hSw; obtain ⟨q, rfl⟩ := hSw; go_simp; try with_reducible rfl)
               simp only [Act.put, List.setIfInBounds_toArray, List.set_cons_zero, List.set_cons_succ])
            | (refine text_call (by rfl) ?_ (fun W hSw => same_q (c := c5) (c' := n) RA.out RB.out (by omega) hSw) ?_
               · (intro W hSw; go_simp; done)
               simp only [Act.put, List.setIfInBounds_toArray, List.set_cons_zero, List.set_cons_succ])
            | (refine text_call (by rfl) ?_ (fun W hSw => at_w C8.out hSw) ?_
               · (intro W hSw; go_simp; done)
               simp only [Act.put, List.setIfInBounds_toArray, List.set_cons_zero, List.set_cons_succ])
            | fail)
          refine text_end ?_
          intro W hSw
          obtain ⟨q, rfl⟩ := hSw
          have HbW := hide (below_drewN Hb8.out q)
          have RA2 := hide (RA.out.drewN q)
          have RB2 := hide (RB.out.drewN q)
          have RAz : Hid (w8.heap.size ≤ (w8.drewN q).heap.size) := hide (Nat.le_refl _)
          clear RA RB Hb8 C8 hr1
          generalize w8.drewN q = w9 at *
          go_wp2_with fail
          go_loopw [16] (fun iv wr => ∃ i : Int, -1 ≤ i ∧ i ≤ 80 ∧ iv = .int .i64 i ∧ Below w9.heap.size w9 wr) (fun iv _ => (80 - intOf iv).toNat)
          case atStart => exact ⟨-1, by omega, by omega, rfl, Below.refl _ _⟩
          case round =>
            obtain ⟨i, hi1, hi2, rfl, hbr⟩ := hrel
            have Hbr := hide hbr
            clear hbr
            by_cases u1 : i < (n : Int) + 2
            · by_cases u2 : i < 80
              · have T1 : Hid (∀ W, Below w9.heap.size w9 W → Calls Tryd.prog 13 #[.slice A5 n c5, .int .i64 i] W fun e w' => e = .returned (.tuple #[.string (strOfNums ((textAt ps i).getD [])), .bool (textAt ps i).isSome]) ∧ Below w9.heap.size w9 w') := hide fun W hb => by
                  rw [← textV_pair]
                  exact (text_is A5 n c5 ps i W ((RA2.out.below (hb.mono RAz.out)).mono (Nat.le_trans RAz.out hb.size))).mono fun e w' hh => ⟨hh.1, hb.trans (hh.2.mono hb.size)⟩
                have T2 : Hid (∀ W, Below w9.heap.size w9 W → Calls Tryd.prog 14 #[.slice A6 n n, .int .i64 i] W fun e w' => e = .returned (.tuple #[.string (strOfNums ((textAt ps i).getD [])), .bool (textAt ps i).isSome]) ∧ W = w') := hide fun W hb => by
                  rw [← textV_pair]
                  exact rtext5_any A6 n n ps _ i W (RB2.out.below (hb.mono RAz.out))
                have T3 : Hid (∀ W, Below w9.heap.size w9 W → Calls Tryd.prog 15 #[.slice A5 n c5, .int .i64 i] W fun e w' => e = .returned (.tuple #[.string (strOfNums ((classAt ps i).getD [])), .bool (classAt ps i).isSome]) ∧ Below w9.heap.size w9 w') := hide fun W hb => by
                  rw [← textV_pair]
                  exact (class_is A5 n c5 ps i W ((RA2.out.below (hb.mono RAz.out)).mono (Nat.le_trans RAz.out hb.size))).mono fun e w' hh => ⟨hh.1, hb.trans (hh.2.mono hb.size)⟩
                have T4 : Hid (∀ W, Below w9.heap.size w9 W → Calls Tryd.prog 16 #[.slice A6 n n, .int .i64 i] W fun e w' => e = .returned (.tuple #[.string (strOfNums ((classAt ps i).getD [])), .bool (classAt ps i).isSome]) ∧ W = w') := hide fun W hb => by
                  rw [← textV_pair]
                  exact rclass5_any A6 n n ps _ i W (RB2.out.below (hb.mono RAz.out))
                have T5 : Hid (∀ W, Below w9.heap.size w9 W → Calls Tryd.prog 17 #[.slice A5 n c5, .int .i64 i] W fun e w' => e = .returned (.tuple #[.string (strOfNums ((memberAt ps i).getD ([], [], [])).1), .string (strOfNums ((memberAt ps i).getD ([], [], [])).2.1), .string (strOfNums ((memberAt ps i).getD ([], [], [])).2.2), .bool (memberAt ps i).isSome]) ∧ Below w9.heap.size w9 w') := hide fun W hb => by
                  rw [← memberV_pair]
                  exact (member_is A5 n c5 ps i W ((RA2.out.below (hb.mono RAz.out)).mono (Nat.le_trans RAz.out hb.size))).mono fun e w' hh => ⟨hh.1, hb.trans (hh.2.mono hb.size)⟩
                have T6 : Hid (∀ W, Below w9.heap.size w9 W → Calls Tryd.prog 18 #[.slice A6 n n, .int .i64 i] W fun e w' => e = .returned (.tuple #[.string (strOfNums ((memberAt ps i).getD ([], [], [])).1), .string (strOfNums ((memberAt ps i).getD ([], [], [])).2.1), .string (strOfNums ((memberAt ps i).getD ([], [], [])).2.2), .bool (memberAt ps i).isSome]) ∧ Below w9.heap.size w9 w') := hide fun W hb => by
                  rw [← memberV_pair]
                  exact (rmember5_any A6 n n ps W.heap.size i W ((RB2.out.below (hb.mono RAz.out)).mono (Nat.le_trans RAz.out hb.size)) (Nat.le_refl _)).mono fun e w' hh => ⟨hh.1, hb.trans (hh.2.mono hb.size)⟩
                generalize strOfNums ((textAt ps i).getD []) = q1 at *
                generalize strOfNums ((classAt ps i).getD []) = q2 at *
                generalize strOfNums ((memberAt ps i).getD ([], [], [])).1 = q3 at *
                generalize strOfNums ((memberAt ps i).getD ([], [], [])).2.1 = q4 at *
                generalize strOfNums ((memberAt ps i).getD ([], [], [])).2.2 = q5 at *
                generalize (textAt ps i).isSome = b1 at *
                generalize (classAt ps i).isSome = b2 at *
                generalize (memberAt ps i).isSome = b3 at *
                have e1 : (q1.toList != q1.toList) = false := by simp
                have e2 : (q2.toList != q2.toList) = false := by simp
                have e3 : (q3.toList != q3.toList) = false := by simp
                have e4 : (q4.toList != q4.toList) = false := by simp
                have e5 : (q5.toList != q5.toList) = false := by simp
                have e6 : (b1 != b1) = false := by simp
                have e7 : (b2 != b2) = false := by simp
                have e8 : (b3 != b3) = false := by simp
                go_wp2_with fail
                refine (T1.out _ Hbr.out).mono ?_
                rintro e x1 ⟨rfl, hx1⟩
                have X1 := hide hx1
                clear hx1 Hbr
                go_wp2_with fail
                refine (T2.out _ X1.out).mono ?_
                rintro e x2 ⟨rfl, rfl⟩
                go_wp2_with fail
                refine (T3.out _ X1.out).mono ?_
                rintro e x3 ⟨rfl, hx3⟩
                have X3 := hide hx3
                clear hx3 X1
                go_wp2_with fail
                refine (T4.out _ X3.out).mono ?_
                rintro e x4 ⟨rfl, rfl⟩
                go_wp2_with fail
                refine (T5.out _ X3.out).mono ?_
                rintro e x5 ⟨rfl, hx5⟩
                have X5 := hide hx5
                clear hx5 X3
                go_wp2_with fail
                refine (T6.out _ X5.out).mono ?_
                rintro e x6 ⟨rfl, hx6⟩
                have X6 := hide hx6
                clear hx6 X5
                go_wp2_with fail
                go_roundw
                case rel => exact ⟨i + 1, by omega, by omega, by go_num, X6.out⟩
                case measure => simp [intOf]; omega
              · go_wp2_with fail
                go_ret
                exact ⟨rfl, HbW.out.trans (Hbr.out.mono HbW.out.size)⟩
            · go_wp2_with fail
              go_ret
              exact ⟨rfl, HbW.out.trans (Hbr.out.mono HbW.out.size)⟩
    · exfalso; omega
    · exfalso; omega
set_option maxHeartbeats 4000000 in
set_option maxRecDepth 100000 in
theorem PoolRead_32 (a0 : Option Addr) (len0 cap0 : Nat) (z0 : List Int) (a1 a2 a3 : Int) (w : World) (w0 : Came .u8 w a0 len0 cap0 z0) (_w1 : (Lit.int .i64 a1).wf = true) (w2 : (Lit.int .u8 a2).wf = true) (_w3 : (Lit.int .i64 a3).wf = true) (hmx : Maxed w) (c3 : ¬ a3 < 0 ∧ ¬ (len0 : Int) < a3) (c1 : ¬ a1 < 0 ∧ ((min (len0 - (if a3 < 0 ∨ (len0 : Int) < a3 then 0 else a3.toNat)) 3000 : Nat) : Int) ≤ a1) :
    Calls Tryd.prog 3 #[.slice a0 len0 cap0, .int .i64 a1, .int .u8 a2, .int .i64 a3] w fun e w' => e = .returned (.bool true) ∧ Below w.heap.size w w' := by
  obtain ⟨hlc, hcm, hnil⟩ := came_lens w0
  have ha2 : 0 ≤ a2 ∧ a2 ≤ 255 := by simpa [Lit.wf, IntKind.min, IntKind.max, IntKind.signed, IntKind.bits] using w2
  obtain ⟨f, hf⟩ : ∃ f : Nat, f = if a3 < 0 ∨ (len0 : Int) < a3 then 0 else a3.toNat := ⟨_, rfl⟩
  have hfl : f ≤ len0 := by rw [hf]; split <;> omega
  obtain ⟨L, hL⟩ : ∃ L, L = min (len0 - f) 3000 := ⟨_, rfl⟩
  rw [← hf, ← hL] at c1
  obtain ⟨A', hA'⟩ : ∃ A', A' = if cap0 = f then a0 else a0.map (·.add f) := ⟨_, rfl⟩
  obtain ⟨xs, hxs⟩ : ∃ xs, xs = ((z0.take len0).drop f).take L := ⟨_, rfl⟩
  have hL1 : L ≤ 3000 := by omega
  have hbx : IsBytes xs := by rw [hxs]; exact (((came_bytes w0).take _).drop _).take _
  have hrd : Rd w w.heap.size A' L (bys xs) := by
    by_cases h0 : L = 0
    · rw [hxs, h0, List.take_zero]; exact Rd.nil _ _ _
    · have hr := came_rd w0 len0 (Nat.le_refl _)
      obtain ⟨g, o, rfl, _⟩ := hr.2 (by omega)
      have := hr.part f L (by omega)
      rw [hA', if_neg (by omega), hxs]
      simp only [Option.map_some, add_none]
      rw [← List.map_drop, ← List.map_take] at this
      exact this
  have hSl := fun W => slice_from a0 len0 cap0 f hfl W
  rw [← hA'] at hSl
  have HS : Hid (∀ W, Calls Tryd.prog 7 #[.slice A' (len0 - f) (cap0 - f), .int .i64 3000] W fun e w' => e = .returned (.slice A' L (cap0 - f)) ∧ W = w') := hide fun W => by
    have := short_any A' (len0 - f) (cap0 - f) 3000 W (by omega) (fun h => by
      rw [hA'] at h
      split at h
      · have := hnil h; omega
      · cases a0 with
        | none => have := hnil rfl; omega
        | some x => cases h) (by omega) (by omega)
    rwa [show min (len0 - f) (Int.toNat 3000) = L from hL.symm] at this
  have HB := hide (fun W hW => pbegun_is reads_pool says_class W hW)
  have HRd := hide reads_pool
  have MX := hide hmx
  have Hrd := hide hrd
  have HX := hide hbx
  have Hlen : Hid (xs.length = L) := hide (by have := hrd.1; rwa [bys_len] at this)
  obtain ⟨i0, hi0, hz0, hz1, hz2⟩ := info_parts u8info
  unfold maxLen at hcm
  clear hA' hxs hL hrd hbx hmx w0 w2 hnil
  obtain ⟨N0, hN0⟩ : ∃ N0, N0 = len0 - f := ⟨_, rfl⟩
  obtain ⟨C0, hC0⟩ : ∃ C0, C0 = cap0 - f := ⟨_, rfl⟩
  rw [← hN0, ← hC0] at hSl
  rw [← hN0, ← hC0] at HS
  clear hN0 hC0
  have h3 : (a3 < 0 ∧ f = 0) ∨ (¬ a3 < 0 ∧ (len0 : Int) < a3 ∧ f = 0) ∨ (¬ a3 < 0 ∧ ¬ (len0 : Int) < a3 ∧ a3 = (f : Int)) := by
    rw [hf]
    by_cases q1 : a3 < 0
    · exact .inl ⟨q1, by rw [if_pos (.inl q1)]⟩
    · by_cases q2 : (len0 : Int) < a3
      · exact .inr (.inl ⟨q1, q2, by rw [if_pos (.inr q2)]⟩)
      · exact .inr (.inr ⟨q1, q2, by rw [if_neg (by omega)]; omega⟩)
  clear hf
  have h1 : a1 < 0 ∨ (¬ a1 < 0 ∧ (L : Int) ≤ a1) ∨ ∃ j : Nat, a1 = j ∧ j < L := by
    by_cases q1 : a1 < 0
    · exact .inl q1
    · by_cases q2 : (L : Int) ≤ a1
      · exact .inr (.inl ⟨q1, q2⟩)
      · exact .inr (.inr ⟨a1.toNat, by omega, by omega⟩)
  rcases h3 with ⟨q1, rfl⟩ | ⟨q1, q2, rfl⟩ | ⟨q1, q2, rfl⟩
  · exfalso; omega
  · exfalso; omega
  · rcases h1 with q3 | ⟨q3, q4⟩ | ⟨j, rfl, q3⟩
    · exfalso; omega
    · clear c3 c1
      go_enter Tryd.func3, Tryd.ntmps3
      go_wp2_with fail
      refine (HB.out w MX.out).mono ?_
      rintro e w2 ⟨rfl, hb2⟩
      have Hb2 := hide hb2
      have hbs2 := hb2.size
      have Hrd2 := hide (Hrd.out.below hb2)
      clear hb2
      go_wp2_with fail
      refine (HS.out _).mono ?_
      rintro e w3 ⟨rfl, rfl⟩
      go_wp2_with (at_builtin; refine wpList_append_rd _ rfl (.const (.slice none 0 0)) (.tmp 47) 22 rfl w.heap.size 5 i0 _ 1 Tryd.underlying22 hi0 hz0 hz1 hz2 rfl (.slice none 0 0) 0 [] rfl (World.ownsRow_nil _ _ _ _) w.heap.size A' L C0 (bys xs) rfl Hrd2.out (bys_one xs) (by unfold maxLen; omega) (by omega) hbs2 ?_)
      intro v1 w4 hown1 hg1
      try simp only [Nat.zero_add, List.nil_append] at hown1
      obtain ⟨A1, c1, hv1, hs1, hlc1'⟩ := own_src hown1
      have hb4 : Below w.heap.size w w4 := Hb2.out.grown hg1 Hb2.out.size (by simp [Value.ownBlock])
      rw [hv1]
      have Hs4 := hide hs1
      have Hb4 := hide hb4
      clear hown1 hv1 hs1 hg1 hb4 Hb2 Hrd2
      obtain ⟨ys, hys⟩ : ∃ ys, ys = xs := ⟨_, rfl⟩
      rw [← hys] at Hs4 HX Hlen
      clear hys
      go_wp2_with fail
      refine (new_any A1 L c1 ys w4 _ Hs4.out.rd (Nat.le_refl _) (by omega) HX.out).mono ?_
      rintro e w5 ⟨gc, gb, rfl, hc5, hgc5, hgb5, hb5⟩
      have Hs5 := hide (Hs4.out.new (grown_below hb5 none) (by simp))
      have Hb5 := hide (Hb4.out.trans (hb5.mono Hb4.out.size))
      have Hgc := hide (show w.heap.size ≤ gc from Nat.le_trans Hb4.out.size hgc5)
      have Hc5 := hide hc5
      clear hc5 hgc5 hgb5 hb5 Hs4 Hb4
      go_wp2_with fail
      have hB : Both w.heap.size (w5.alloc (.cells #[.slice A1 L c1, .int .i64 0, .bool false] 29)) gc gb w5.heap.size A1 A1 c1 ys 0 false 0 false := by
        refine ⟨Hc5.out.grown (World.grownBy_alloc w5 _ none) (by simp) (by simp), ⟨?_, ?_, Nat.zero_le _, HX.out, by rw [Hlen.out]; omega, by rw [Hlen.out]; exact hlc1'⟩, ?_, Hgc.out, Hb5.out.size⟩
        · rw [Hlen.out]; exact At.new w5 29 [.slice A1 L c1, .int .i64 0, .bool false]
        · rw [Hlen.out]; exact Hs5.out.new (World.grownBy_alloc w5 _ none) (by simp)
        · rw [Hlen.out]; exact Hs5.out.new (World.grownBy_alloc w5 _ none) (by simp)
      have HB5 := hide hB
      have Hb6 : Hid (Below w.heap.size w (w5.alloc (.cells #[.slice A1 L c1, .int .i64 0, .bool false] 29))) := hide (Hb5.out.alloc Hb5.out.size _)
      clear hB Hs5 Hb5 Hc5
      generalize w5.alloc (.cells #[.slice A1 L c1, .int .i64 0, .bool false] 29) = w6 at *
      generalize w5.heap.size = r at *
      refine (HRd.out gc gb ys 0 w6 (MX.out.below Hb6.out) HB5.out.c).mono ?_
      rintro e w7 ⟨hg7, h7⟩
      rw [List.drop_zero] at h7
      have hf7 : Ref w7 r w.heap.size A1 c1 ys 0 false := ⟨HB5.out.f.1.grown hg7 (by simpa using HB5.out.ne.symm), HB5.out.f.2.1.far HB5.out.c.1 (by decide) hg7, HB5.out.f.2.2⟩
      have HRP := hide (rpool_any r w.heap.size A1 c1 ys 0 w7 hf7)
      rw [List.drop_zero] at HRP
      have Hb7 := hide (Hb6.out.grown hg7 Hb6.out.size (by intro q hq; cases hq; exact Hgc.out))
      have hlr : w.heap.size ≤ r := HB5.out.lr
      have hngr : gc ≠ r := HB5.out.ne
      have hngb : r ≠ gb := HB5.out.f.1.ne HB5.out.c.2.1 (by decide)
      have HAr := hide hf7.1
      clear hg7 hf7 HB5 Hb6
      rcases h7 with ⟨h7, v7, rfl⟩ | ⟨ps, m, A5, c5, h7, rfl, hrd7, hc7, hwf7⟩
      · rw [h7] at HRP
        go_wp2_with fail
        refine HRP.out.mono ?_
        rintro e w8 ⟨hg8, ⟨_, rfl⟩ | ⟨_, _, _, h8, _⟩⟩
        · have Hb8 := hide (Hb7.out.grown hg8 Hb7.out.size (by intro q hq; cases hq; exact hlr))
          have h00 : (false != false) = false := rfl
          clear hg8 h7
          go_wp2_with fail
          refine wp_region_text (fun W => Below w.heap.size w W) (by kernel_rfl) (by kernel_rfl) (by kernel_rfl) Hb8.out.drew ?_
          repeat (first
            | (refine text_skip (by rfl) ?_
               simp only [Act.put, List.setIfInBounds_toArray, List.set_cons_zero, List.set_cons_succ])
            | (refine text_value (v := ?_) (by rfl) ?_ ?_
               rotate_left
               · (intro W hSw; go_simp; try with_reducible rfl)
               simp only [Act.put, List.setIfInBounds_toArray, List.set_cons_zero, List.set_cons_succ])
            | fail)
          refine text_end ?_
          intro W hSw
          have HSw := hide hSw
          clear hSw
          go_wp2_with fail
          go_loopw [16] (fun iv wr => iv = .int .i64 (-1) ∧ wr = W) (fun _ _ => 0)
          case atStart => exact ⟨rfl, rfl⟩
          case round =>
            obtain ⟨rfl, rfl⟩ := hrel
            go_wp2_with fail
            go_ret
            exact ⟨rfl, HSw.out⟩
        · cases h8
      · have hpl := pool_len h7
        rw [h7] at HRP
        have R7 := hide hrd7
        have C7 := hide hc7
        clear hrd7 hc7 hwf7 h7
        go_wp2_with fail
        refine HRP.out.mono ?_
        rintro e w8 ⟨hg8, ⟨h8, _⟩ | ⟨ps', m', A6, h8, rfl, hrd8, hf8, _⟩⟩
        · cases h8
        · cases h8
          have Hb8 := hide (Hb7.out.grown hg8 Hb7.out.size (by intro q hq; cases hq; exact hlr))
          have RA := hide (rdc_far R7.out HAr.out hg8 (Nat.le_refl _))
          have RB := hide hrd8
          have C8 := hide (C7.out.grown hg8 (by simpa using hngr) (by simpa using hngb.symm))
          have hr1 : w8.cell? ⟨r, 1, none⟩ = some (.int .i64 ((0 + m : Nat) : Int)) := hf8.1.cell 1
          clear hg8 hrd8 hf8 R7 C7 HRP HAr Hb7
          have h00 : (true != true) = false := rfl
          have hmm : (((0 + m : Nat) : Int) != ((0 + m : Nat) : Int)) = false := by simp
          generalize 0 + m = mm at *
          generalize hpn : ps.length = n at *
          go_wp2_with fail
          refine wp_region_text (fun W => ∃ q, W = w8.drewN q) (by kernel_rfl) (by kernel_rfl) (by kernel_rfl) ⟨1, rfl⟩ ?_
          repeat (first
            | (refine text_skip (by rfl) ?_
               simp only [Act.put, List.setIfInBounds_toArray, List.set_cons_zero, List.set_cons_succ])
            | (refine text_value (v := ?_) (by rfl) ?_ ?_
               rotate_left
               · (intro W hSw; obtain ⟨q, rfl⟩ := hSw; go_simp; try with_reducible rfl)
               simp only [Act.put, List.setIfInBounds_toArray, List.set_cons_zero, List.set_cons_succ])
            | (refine text_call (by rfl) ?_ (fun W hSw => same_q (c := c5) (c' := n) RA.out RB.out (by omega) hSw) ?_
               · (intro W hSw; go_simp; done)
               simp only [Act.put, List.setIfInBounds_toArray, List.set_cons_zero, List.set_cons_succ])
            | (refine text_call (by rfl) ?_ (fun W hSw => at_w C8.out hSw) ?_
               · (intro W hSw; go_simp; done)
               simp only [Act.put, List.setIfInBounds_toArray, List.set_cons_zero, List.set_cons_succ])
            | fail)
          refine text_end ?_
          intro W hSw
          obtain ⟨q, rfl⟩ := hSw
          have HbW := hide (below_drewN Hb8.out q)
          have RA2 := hide (RA.out.drewN q)
          have RB2 := hide (RB.out.drewN q)
          have RAz : Hid (w8.heap.size ≤ (w8.drewN q).heap.size) := hide (Nat.le_refl _)
          clear RA RB Hb8 C8 hr1
          generalize w8.drewN q = w9 at *
          go_wp2_with fail
          go_loopw [16] (fun iv wr => ∃ i : Int, -1 ≤ i ∧ i ≤ 80 ∧ iv = .int .i64 i ∧ Below w9.heap.size w9 wr) (fun iv _ => (80 - intOf iv).toNat)
          case atStart => exact ⟨-1, by omega, by omega, rfl, Below.refl _ _⟩
          case round =>
            obtain ⟨i, hi1, hi2, rfl, hbr⟩ := hrel
            have Hbr := hide hbr
            clear hbr
            by_cases u1 : i < (n : Int) + 2
            · by_cases u2 : i < 80
              · have T1 : Hid (∀ W, Below w9.heap.size w9 W → Calls Tryd.prog 13 #[.slice A5 n c5, .int .i64 i] W fun e w' => e = .returned (.tuple #[.string (strOfNums ((textAt ps i).getD [])), .bool (textAt ps i).isSome]) ∧ Below w9.heap.size w9 w') := hide fun W hb => by
                  rw [← textV_pair]
                  exact (text_is A5 n c5 ps i W ((RA2.out.below (hb.mono RAz.out)).mono (Nat.le_trans RAz.out hb.size))).mono fun e w' hh => ⟨hh.1, hb.trans (hh.2.mono hb.size)⟩
                have T2 : Hid (∀ W, Below w9.heap.size w9 W → Calls Tryd.prog 14 #[.slice A6 n n, .int .i64 i] W fun e w' => e = .returned (.tuple #[.string (strOfNums ((textAt ps i).getD [])), .bool (textAt ps i).isSome]) ∧ W = w') := hide fun W hb => by
                  rw [← textV_pair]
                  exact rtext5_any A6 n n ps _ i W (RB2.out.below (hb.mono RAz.out))
                have T3 : Hid (∀ W, Below w9.heap.size w9 W → Calls Tryd.prog 15 #[.slice A5 n c5, .int .i64 i] W fun e w' => e = .returned (.tuple #[.string (strOfNums ((classAt ps i).getD [])), .bool (classAt ps i).isSome]) ∧ Below w9.heap.size w9 w') := hide fun W hb => by
                  rw [← textV_pair]
                  exact (class_is A5 n c5 ps i W ((RA2.out.below (hb.mono RAz.out)).mono (Nat.le_trans RAz.out hb.size))).mono fun e w' hh => ⟨hh.1, hb.trans (hh.2.mono hb.size)⟩
                have T4 : Hid (∀ W, Below w9.heap.size w9 W → Calls Tryd.prog 16 #[.slice A6 n n, .int .i64 i] W fun e w' => e = .returned (.tuple #[.string (strOfNums ((classAt ps i).getD [])), .bool (classAt ps i).isSome]) ∧ W = w') := hide fun W hb => by
                  rw [← textV_pair]
                  exact rclass5_any A6 n n ps _ i W (RB2.out.below (hb.mono RAz.out))
                have T5 : Hid (∀ W, Below w9.heap.size w9 W → Calls Tryd.prog 17 #[.slice A5 n c5, .int .i64 i] W fun e w' => e = .returned (.tuple #[.string (strOfNums ((memberAt ps i).getD ([], [], [])).1), .string (strOfNums ((memberAt ps i).getD ([], [], [])).2.1), .string (strOfNums ((memberAt ps i).getD ([], [], [])).2.2), .bool (memberAt ps i).isSome]) ∧ Below w9.heap.size w9 w') := hide fun W hb => by
                  rw [← memberV_pair]
                  exact (member_is A5 n c5 ps i W ((RA2.out.below (hb.mono RAz.out)).mono (Nat.le_trans RAz.out hb.size))).mono fun e w' hh => ⟨hh.1, hb.trans (hh.2.mono hb.size)⟩
                have T6 : Hid (∀ W, Below w9.heap.size w9 W → Calls Tryd.prog 18 #[.slice A6 n n, .int .i64 i] W fun e w' => e = .returned (.tuple #[.string (strOfNums ((memberAt ps i).getD ([], [], [])).1), .string (strOfNums ((memberAt ps i).getD ([], [], [])).2.1), .string (strOfNums ((memberAt ps i).getD ([], [], [])).2.2), .bool (memberAt ps i).isSome]) ∧ Below w9.heap.size w9 w') := hide fun W hb => by
                  rw [← memberV_pair]
                  exact (rmember5_any A6 n n ps W.heap.size i W ((RB2.out.below (hb.mono RAz.out)).mono (Nat.le_trans RAz.out hb.size)) (Nat.le_refl _)).mono fun e w' hh => ⟨hh.1, hb.trans (hh.2.mono hb.size)⟩
                generalize strOfNums ((textAt ps i).getD []) = q1 at *
                generalize strOfNums ((classAt ps i).getD []) = q2 at *
                generalize strOfNums ((memberAt ps i).getD ([], [], [])).1 = q3 at *
                generalize strOfNums ((memberAt ps i).getD ([], [], [])).2.1 = q4 at *
                generalize strOfNums ((memberAt ps i).getD ([], [], [])).2.2 = q5 at *
                generalize (textAt ps i).isSome = b1 at *
                generalize (classAt ps i).isSome = b2 at *
                generalize (memberAt ps i).isSome = b3 at *
                have e1 : (q1.toList != q1.toList) = false := by simp
                have e2 : (q2.toList != q2.toList) = false := by simp
                have e3 : (q3.toList != q3.toList) = false := by simp
                have e4 : (q4.toList != q4.toList) = false := by simp
                have e5 : (q5.toList != q5.toList) = false := by simp
                have e6 : (b1 != b1) = false := by simp
                have e7 : (b2 != b2) = false := by simp
                have e8 : (b3 != b3) = false := by simp
                go_wp2_with fail
                refine (T1.out _ Hbr.out).mono ?_
                rintro e x1 ⟨rfl, hx1⟩
                have X1 := hide hx1
                clear hx1 Hbr
                go_wp2_with fail
                refine (T2.out _ X1.out).mono ?_
                rintro e x2 ⟨rfl, rfl⟩
                go_wp2_with fail
                refine (T3.out _ X1.out).mono ?_
                rintro e x3 ⟨rfl, hx3⟩
                have X3 := hide hx3
                clear hx3 X1
                go_wp2_with fail
                refine (T4.out _ X3.out).mono ?_
                rintro e x4 ⟨rfl, rfl⟩
                go_wp2_with fail
                refine (T5.out _ X3.out).mono ?_
                rintro e x5 ⟨rfl, hx5⟩
                have X5 := hide hx5
                clear hx5 X3
                go_wp2_with fail
                refine (T6.out _ X5.out).mono ?_
                rintro e x6 ⟨rfl, hx6⟩
                have X6 := hide hx6
                clear hx6 X5
                go_wp2_with fail
                go_roundw
                case rel => exact ⟨i + 1, by omega, by omega, by go_num, X6.out⟩
                case measure => simp [intOf]; omega
              · go_wp2_with fail
                go_ret
                exact ⟨rfl, HbW.out.trans (Hbr.out.mono HbW.out.size)⟩
            · go_wp2_with fail
              go_ret
              exact ⟨rfl, HbW.out.trans (Hbr.out.mono HbW.out.size)⟩
    · exfalso; omega
set_option maxHeartbeats 4000000 in
set_option maxRecDepth 100000 in
theorem PoolRead_33 (a0 : Option Addr) (len0 cap0 : Nat) (z0 : List Int) (a1 a2 a3 : Int) (w : World) (w0 : Came .u8 w a0 len0 cap0 z0) (_w1 : (Lit.int .i64 a1).wf = true) (w2 : (Lit.int .u8 a2).wf = true) (_w3 : (Lit.int .i64 a3).wf = true) (hmx : Maxed w) (c3 : ¬ a3 < 0 ∧ ¬ (len0 : Int) < a3) (c1 : ¬ a1 < 0 ∧ ¬ ((min (len0 - (if a3 < 0 ∨ (len0 : Int) < a3 then 0 else a3.toNat)) 3000 : Nat) : Int) ≤ a1) :
    Calls Tryd.prog 3 #[.slice a0 len0 cap0, .int .i64 a1, .int .u8 a2, .int .i64 a3] w fun e w' => e = .returned (.bool true) ∧ Below w.heap.size w w' := by
  obtain ⟨hlc, hcm, hnil⟩ := came_lens w0
  have ha2 : 0 ≤ a2 ∧ a2 ≤ 255 := by simpa [Lit.wf, IntKind.min, IntKind.max, IntKind.signed, IntKind.bits] using w2
  obtain ⟨f, hf⟩ : ∃ f : Nat, f = if a3 < 0 ∨ (len0 : Int) < a3 then 0 else a3.toNat := ⟨_, rfl⟩
  have hfl : f ≤ len0 := by rw [hf]; split <;> omega
  obtain ⟨L, hL⟩ : ∃ L, L = min (len0 - f) 3000 := ⟨_, rfl⟩
  rw [← hf, ← hL] at c1
  obtain ⟨A', hA'⟩ : ∃ A', A' = if cap0 = f then a0 else a0.map (·.add f) := ⟨_, rfl⟩
  obtain ⟨xs, hxs⟩ : ∃ xs, xs = ((z0.take len0).drop f).take L := ⟨_, rfl⟩
  have hL1 : L ≤ 3000 := by omega
  have hbx : IsBytes xs := by rw [hxs]; exact (((came_bytes w0).take _).drop _).take _
  have hrd : Rd w w.heap.size A' L (bys xs) := by
    by_cases h0 : L = 0
    · rw [hxs, h0, List.take_zero]; exact Rd.nil _ _ _
    · have hr := came_rd w0 len0 (Nat.le_refl _)
      obtain ⟨g, o, rfl, _⟩ := hr.2 (by omega)
      have := hr.part f L (by omega)
      rw [hA', if_neg (by omega), hxs]
      simp only [Option.map_some, add_none]
      rw [← List.map_drop, ← List.map_take] at this
      exact this
  have hSl := fun W => slice_from a0 len0 cap0 f hfl W
  rw [← hA'] at hSl
  have HS : Hid (∀ W, Calls Tryd.prog 7 #[.slice A' (len0 - f) (cap0 - f), .int .i64 3000] W fun e w' => e = .returned (.slice A' L (cap0 - f)) ∧ W = w') := hide fun W => by
    have := short_any A' (len0 - f) (cap0 - f) 3000 W (by omega) (fun h => by
      rw [hA'] at h
      split at h
      · have := hnil h; omega
      · cases a0 with
        | none => have := hnil rfl; omega
        | some x => cases h) (by omega) (by omega)
    rwa [show min (len0 - f) (Int.toNat 3000) = L from hL.symm] at this
  have HB := hide (fun W hW => pbegun_is reads_pool says_class W hW)
  have HRd := hide reads_pool
  have MX := hide hmx
  have Hrd := hide hrd
  have HX := hide hbx
  have Hlen : Hid (xs.length = L) := hide (by have := hrd.1; rwa [bys_len] at this)
  obtain ⟨i0, hi0, hz0, hz1, hz2⟩ := info_parts u8info
  unfold maxLen at hcm
  clear hA' hxs hL hrd hbx hmx w0 w2 hnil
  obtain ⟨N0, hN0⟩ : ∃ N0, N0 = len0 - f := ⟨_, rfl⟩
  obtain ⟨C0, hC0⟩ : ∃ C0, C0 = cap0 - f := ⟨_, rfl⟩
  rw [← hN0, ← hC0] at hSl
  rw [← hN0, ← hC0] at HS
  clear hN0 hC0
  have h3 : (a3 < 0 ∧ f = 0) ∨ (¬ a3 < 0 ∧ (len0 : Int) < a3 ∧ f = 0) ∨ (¬ a3 < 0 ∧ ¬ (len0 : Int) < a3 ∧ a3 = (f : Int)) := by
    rw [hf]
    by_cases q1 : a3 < 0
    · exact .inl ⟨q1, by rw [if_pos (.inl q1)]⟩
    · by_cases q2 : (len0 : Int) < a3
      · exact .inr (.inl ⟨q1, q2, by rw [if_pos (.inr q2)]⟩)
      · exact .inr (.inr ⟨q1, q2, by rw [if_neg (by omega)]; omega⟩)
  clear hf
  have h1 : a1 < 0 ∨ (¬ a1 < 0 ∧ (L : Int) ≤ a1) ∨ ∃ j : Nat, a1 = j ∧ j < L := by
    by_cases q1 : a1 < 0
    · exact .inl q1
    · by_cases q2 : (L : Int) ≤ a1
      · exact .inr (.inl ⟨q1, q2⟩)
      · exact .inr (.inr ⟨a1.toNat, by omega, by omega⟩)
  rcases h3 with ⟨q1, rfl⟩ | ⟨q1, q2, rfl⟩ | ⟨q1, q2, rfl⟩
  · exfalso; omega
  · exfalso; omega
  · rcases h1 with q3 | ⟨q3, q4⟩ | ⟨j, rfl, q3⟩
    · exfalso; omega
    · exfalso; omega
    · clear c3 c1
      go_enter Tryd.func3, Tryd.ntmps3
      go_wp2_with fail
      refine (HB.out w MX.out).mono ?_
      rintro e w2 ⟨rfl, hb2⟩
      have Hb2 := hide hb2
      have hbs2 := hb2.size
      have Hrd2 := hide (Hrd.out.below hb2)
      clear hb2
      go_wp2_with fail
      refine (HS.out _).mono ?_
      rintro e w3 ⟨rfl, rfl⟩
      go_wp2_with (at_builtin; refine wpList_append_rd _ rfl (.const (.slice none 0 0)) (.tmp 47) 22 rfl w.heap.size 5 i0 _ 1 Tryd.underlying22 hi0 hz0 hz1 hz2 rfl (.slice none 0 0) 0 [] rfl (World.ownsRow_nil _ _ _ _) w.heap.size A' L C0 (bys xs) rfl Hrd2.out (bys_one xs) (by unfold maxLen; omega) (by omega) hbs2 ?_)
      intro v1 w4 hown1 hg1
      try simp only [Nat.zero_add, List.nil_append] at hown1
      obtain ⟨A1, c1, hv1, hs1, hlc1'⟩ := own_src hown1
      have hb4 : Below w.heap.size w w4 := Hb2.out.grown hg1 Hb2.out.size (by simp [Value.ownBlock])
      rw [hv1]
      have Hs4 := hide hs1
      have Hb4 := hide hb4
      clear hown1 hv1 hs1 hg1 hb4 Hb2 Hrd2
      rcases Hs4.out with ⟨_, h0, _⟩ | ⟨g1, ex, rfl, hg1, hl1, hat1⟩
      · omega
      have hjx : j < xs.length := by rw [Hlen.out]; exact q3
      obtain ⟨y, hy⟩ : ∃ y, xs.getD j 0 = y := ⟨_, rfl⟩
      have hcj : w4.cell? ⟨g1, j, none⟩ = some (.int .u8 y) := by
        rw [hat1.cell, List.getElem?_append_left (by rw [bys_len]; exact hjx), ← hy]
        simp [bys, List.getD, hjx]
      have hfj := hat1.free j
      obtain ⟨v, hv⟩ : ∃ v, bits .xor .u8 y a2 = v := ⟨_, rfl⟩
      have hvr : 0 ≤ v ∧ v < 256 := by rw [← hv]; exact xor_range _ _
      have hat5 := hat1.set j (.int .u8 v)
      have hset : (bys xs ++ ex).set j (.int .u8 v) = bys (xs.set j v) ++ ex := by
        rw [List.set_append_left _ _ (by rw [bys_len]; exact hjx)]
        simp [bys, List.map_set]
      rw [hset] at hat5
      obtain ⟨ys, hys⟩ : ∃ ys, ys = xs.set j v := ⟨_, rfl⟩
      have HX2 : Hid (IsBytes ys) := hide (by
        rw [hys]
        intro x hx
        rcases List.mem_or_eq_of_mem_set hx with hx | rfl
        · exact HX.out x hx
        · exact hvr)
      have Hlen2 : Hid (ys.length = L) := hide (by rw [hys, List.length_set]; exact Hlen.out)
      rw [← hys] at hat5
      have Hs5 : Hid (Src (w4.setCell ⟨g1, j, none⟩ (.int .u8 v)) w.heap.size 5 (some ⟨g1, 0, none⟩) L (bys ys)) := hide (.inr ⟨g1, ex, rfl, hg1, by rw [bys_len]; exact Hlen2.out, hat5⟩)
      have Hb5 : Hid (Below w.heap.size w (w4.setCell ⟨g1, j, none⟩ (.int .u8 v))) := hide (Hb4.out.setCell hg1 _)
      clear hys hset hat5 hat1 hvr hjx hl1 Hs4 Hb4 HX Hlen hy
      go_upto_region 9 with fail
      try rw [hv]
      clear hcj hfj hv
      generalize w4.setCell ⟨g1, j, none⟩ (.int .u8 v) = w4 at *
      have Hs4 := Hs5
      have Hb4 := Hb5
      have HX := HX2
      have Hlen := Hlen2
      clear Hs5 Hb5 HX2 Hlen2
      generalize (some (⟨g1, 0, none⟩ : Addr)) = A1 at *
      go_wp2_with fail
      refine (new_any A1 L c1 ys w4 _ Hs4.out.rd (Nat.le_refl _) (by omega) HX.out).mono ?_
      rintro e w5 ⟨gc, gb, rfl, hc5, hgc5, hgb5, hb5⟩
      have Hs5 := hide (Hs4.out.new (grown_below hb5 none) (by simp))
      have Hb5 := hide (Hb4.out.trans (hb5.mono Hb4.out.size))
      have Hgc := hide (show w.heap.size ≤ gc from Nat.le_trans Hb4.out.size hgc5)
      have Hc5 := hide hc5
      clear hc5 hgc5 hgb5 hb5 Hs4 Hb4
      go_wp2_with fail
      have hB : Both w.heap.size (w5.alloc (.cells #[.slice A1 L c1, .int .i64 0, .bool false] 29)) gc gb w5.heap.size A1 A1 c1 ys 0 false 0 false := by
        refine ⟨Hc5.out.grown (World.grownBy_alloc w5 _ none) (by simp) (by simp), ⟨?_, ?_, Nat.zero_le _, HX.out, by rw [Hlen.out]; omega, by rw [Hlen.out]; exact hlc1'⟩, ?_, Hgc.out, Hb5.out.size⟩
        · rw [Hlen.out]; exact At.new w5 29 [.slice A1 L c1, .int .i64 0, .bool false]
        · rw [Hlen.out]; exact Hs5.out.new (World.grownBy_alloc w5 _ none) (by simp)
        · rw [Hlen.out]; exact Hs5.out.new (World.grownBy_alloc w5 _ none) (by simp)
      have HB5 := hide hB
      have Hb6 : Hid (Below w.heap.size w (w5.alloc (.cells #[.slice A1 L c1, .int .i64 0, .bool false] 29))) := hide (Hb5.out.alloc Hb5.out.size _)
      clear hB Hs5 Hb5 Hc5
      generalize w5.alloc (.cells #[.slice A1 L c1, .int .i64 0, .bool false] 29) = w6 at *
      generalize w5.heap.size = r at *
      refine (HRd.out gc gb ys 0 w6 (MX.out.below Hb6.out) HB5.out.c).mono ?_
      rintro e w7 ⟨hg7, h7⟩
      rw [List.drop_zero] at h7
      have hf7 : Ref w7 r w.heap.size A1 c1 ys 0 false := ⟨HB5.out.f.1.grown hg7 (by simpa using HB5.out.ne.symm), HB5.out.f.2.1.far HB5.out.c.1 (by decide) hg7, HB5.out.f.2.2⟩
      have HRP := hide (rpool_any r w.heap.size A1 c1 ys 0 w7 hf7)
      rw [List.drop_zero] at HRP
      have Hb7 := hide (Hb6.out.grown hg7 Hb6.out.size (by intro q hq; cases hq; exact Hgc.out))
      have hlr : w.heap.size ≤ r := HB5.out.lr
      have hngr : gc ≠ r := HB5.out.ne
      have hngb : r ≠ gb := HB5.out.f.1.ne HB5.out.c.2.1 (by decide)
      have HAr := hide hf7.1
      clear hg7 hf7 HB5 Hb6
      rcases h7 with ⟨h7, v7, rfl⟩ | ⟨ps, m, A5, c5, h7, rfl, hrd7, hc7, hwf7⟩
      · rw [h7] at HRP
        go_wp2_with fail
        refine HRP.out.mono ?_
        rintro e w8 ⟨hg8, ⟨_, rfl⟩ | ⟨_, _, _, h8, _⟩⟩
        · have Hb8 := hide (Hb7.out.grown hg8 Hb7.out.size (by intro q hq; cases hq; exact hlr))
          have h00 : (false != false) = false := rfl
          clear hg8 h7
          go_wp2_with fail
          refine wp_region_text (fun W => Below w.heap.size w W) (by kernel_rfl) (by kernel_rfl) (by kernel_rfl) Hb8.out.drew ?_
          repeat (first
            | (refine text_skip (by rfl) ?_
               simp only [Act.put, List.setIfInBounds_toArray, List.set_cons_zero, List.set_cons_succ])
            | (refine text_value (v := ?_) (by rfl) ?_ ?_
               rotate_left
               · (intro W hSw; go_simp; try with_reducible rfl)
               simp only [Act.put, List.setIfInBounds_toArray, List.set_cons_zero, List.set_cons_succ])
            | fail)
          refine text_end ?_
          intro W hSw
          have HSw := hide hSw
          clear hSw
          go_wp2_with fail
          go_loopw [16] (fun iv wr => iv = .int .i64 (-1) ∧ wr = W) (fun _ _ => 0)
          case atStart => exact ⟨rfl, rfl⟩
          case round =>
            obtain ⟨rfl, rfl⟩ := hrel
            go_wp2_with fail
            go_ret
            exact ⟨rfl, HSw.out⟩
        · cases h8
      · have hpl := pool_len h7
        rw [h7] at HRP
        have R7 := hide hrd7
        have C7 := hide hc7
        clear hrd7 hc7 hwf7 h7
        go_wp2_with fail
        refine HRP.out.mono ?_
        rintro e w8 ⟨hg8, ⟨h8, _⟩ | ⟨ps', m', A6, h8, rfl, hrd8, hf8, _⟩⟩
        · cases h8
        · cases h8
          have Hb8 := hide (Hb7.out.grown hg8 Hb7.out.size (by intro q hq; cases hq; exact hlr))
          have RA := hide (rdc_far R7.out HAr.out hg8 (Nat.le_refl _))
          have RB := hide hrd8
          have C8 := hide (C7.out.grown hg8 (by simpa using hngr) (by simpa using hngb.symm))
          have hr1 : w8.cell? ⟨r, 1, none⟩ = some (.int .i64 ((0 + m : Nat) : Int)) := hf8.1.cell 1
          clear hg8 hrd8 hf8 R7 C7 HRP HAr Hb7
          have h00 : (true != true) = false := rfl
          have hmm : (((0 + m : Nat) : Int) != ((0 + m : Nat) : Int)) = false := by simp
          generalize 0 + m = mm at *
          generalize hpn : ps.length = n at *
          go_wp2_with fail
          refine wp_region_text (fun W => ∃ q, W = w8.drewN q) (by kernel_rfl) (by kernel_rfl) (by kernel_rfl) ⟨1, rfl⟩ ?_
          repeat (first
            | (refine text_skip (by rfl) ?_
               simp only [Act.put, List.setIfInBounds_toArray, List.set_cons_zero, List.set_cons_succ])
            | (refine text_value (v := ?_) (by rfl) ?_ ?_
               rotate_left
               · (intro W hSw; obtain ⟨q, rfl⟩ := hSw; go_simp; try with_reducible rfl)
               simp only [Act.put, List.setIfInBounds_toArray, List.set_cons_zero, List.set_cons_succ])
            | (refine text_call (by rfl) ?_ (fun W hSw => same_q (c := c5) (c' := n) RA.out RB.out (by omega) hSw) ?_
               · (intro W hSw; go_simp; done)
               simp only [Act.put, List.setIfInBounds_toArray, List.set_cons_zero, List.set_cons_succ])
            | (refine text_call (by rfl) ?_ (fun W hSw => at_w C8.out hSw) ?_
               · (intro W hSw; go_simp; done)
               simp only [Act.put, List.setIfInBounds_toArray, List.set_cons_zero, List.set_cons_succ])
            | fail)
          refine text_end ?_
          intro W hSw
          obtain ⟨q, rfl⟩ := hSw
          have HbW := hide (below_drewN Hb8.out q)
          have RA2 := hide (RA.out.drewN q)
          have RB2 := hide (RB.out.drewN q)
          have RAz : Hid (w8.heap.size ≤ (w8.drewN q).heap.size) := hide (Nat.le_refl _)
          clear RA RB Hb8 C8 hr1
          generalize w8.drewN q = w9 at *
          go_wp2_with fail
          go_loopw [16] (fun iv wr => ∃ i : Int, -1 ≤ i ∧ i ≤ 80 ∧ iv = .int .i64 i ∧ Below w9.heap.size w9 wr) (fun iv _ => (80 - intOf iv).toNat)
          case atStart => exact ⟨-1, by omega, by omega, rfl, Below.refl _ _⟩
          case round =>
            obtain ⟨i, hi1, hi2, rfl, hbr⟩ := hrel
            have Hbr := hide hbr
            clear hbr
            by_cases u1 : i < (n : Int) + 2
            · by_cases u2 : i < 80
              · have T1 : Hid (∀ W, Below w9.heap.size w9 W → Calls Tryd.prog 13 #[.slice A5 n c5, .int .i64 i] W fun e w' => e = .returned (.tuple #[.string (strOfNums ((textAt ps i).getD [])), .bool (textAt ps i).isSome]) ∧ Below w9.heap.size w9 w') := hide fun W hb => by
                  rw [← textV_pair]
                  exact (text_is A5 n c5 ps i W ((RA2.out.below (hb.mono RAz.out)).mono (Nat.le_trans RAz.out hb.size))).mono fun e w' hh => ⟨hh.1, hb.trans (hh.2.mono hb.size)⟩
                have T2 : Hid (∀ W, Below w9.heap.size w9 W → Calls Tryd.prog 14 #[.slice A6 n n, .int .i64 i] W fun e w' => e = .returned (.tuple #[.string (strOfNums ((textAt ps i).getD [])), .bool (textAt ps i).isSome]) ∧ W = w') := hide fun W hb => by
                  rw [← textV_pair]
                  exact rtext5_any A6 n n ps _ i W (RB2.out.below (hb.mono RAz.out))
                have T3 : Hid (∀ W, Below w9.heap.size w9 W → Calls Tryd.prog 15 #[.slice A5 n c5, .int .i64 i] W fun e w' => e = .returned (.tuple #[.string (strOfNums ((classAt ps i).getD [])), .bool (classAt ps i).isSome]) ∧ Below w9.heap.size w9 w') := hide fun W hb => by
                  rw [← textV_pair]
                  exact (class_is A5 n c5 ps i W ((RA2.out.below (hb.mono RAz.out)).mono (Nat.le_trans RAz.out hb.size))).mono fun e w' hh => ⟨hh.1, hb.trans (hh.2.mono hb.size)⟩
                have T4 : Hid (∀ W, Below w9.heap.size w9 W → Calls Tryd.prog 16 #[.slice A6 n n, .int .i64 i] W fun e w' => e = .returned (.tuple #[.string (strOfNums ((classAt ps i).getD [])), .bool (classAt ps i).isSome]) ∧ W = w') := hide fun W hb => by
                  rw [← textV_pair]
                  exact rclass5_any A6 n n ps _ i W (RB2.out.below (hb.mono RAz.out))
                have T5 : Hid (∀ W, Below w9.heap.size w9 W → Calls Tryd.prog 17 #[.slice A5 n c5, .int .i64 i] W fun e w' => e = .returned (.tuple #[.string (strOfNums ((memberAt ps i).getD ([], [], [])).1), .string (strOfNums ((memberAt ps i).getD ([], [], [])).2.1), .string (strOfNums ((memberAt ps i).getD ([], [], [])).2.2), .bool (memberAt ps i).isSome]) ∧ Below w9.heap.size w9 w') := hide fun W hb => by
                  rw [← memberV_pair]
                  exact (member_is A5 n c5 ps i W ((RA2.out.below (hb.mono RAz.out)).mono (Nat.le_trans RAz.out hb.size))).mono fun e w' hh => ⟨hh.1, hb.trans (hh.2.mono hb.size)⟩
                have T6 : Hid (∀ W, Below w9.heap.size w9 W → Calls Tryd.prog 18 #[.slice A6 n n, .int .i64 i] W fun e w' => e = .returned (.tuple #[.string (strOfNums ((memberAt ps i).getD ([], [], [])).1), .string (strOfNums ((memberAt ps i).getD ([], [], [])).2.1), .string (strOfNums ((memberAt ps i).getD ([], [], [])).2.2), .bool (memberAt ps i).isSome]) ∧ Below w9.heap.size w9 w') := hide fun W hb => by
                  rw [← memberV_pair]
                  exact (rmember5_any A6 n n ps W.heap.size i W ((RB2.out.below (hb.mono RAz.out)).mono (Nat.le_trans RAz.out hb.size)) (Nat.le_refl _)).mono fun e w' hh => ⟨hh.1, hb.trans (hh.2.mono hb.size)⟩
                generalize strOfNums ((textAt ps i).getD []) = q1 at *
                generalize strOfNums ((classAt ps i).getD []) = q2 at *
                generalize strOfNums ((memberAt ps i).getD ([], [], [])).1 = q3 at *
                generalize strOfNums ((memberAt ps i).getD ([], [], [])).2.1 = q4 at *
                generalize strOfNums ((memberAt ps i).getD ([], [], [])).2.2 = q5 at *
                generalize (textAt ps i).isSome = b1 at *
                generalize (classAt ps i).isSome = b2 at *
                generalize (memberAt ps i).isSome = b3 at *
                have e1 : (q1.toList != q1.toList) = false := by simp
                have e2 : (q2.toList != q2.toList) = false := by simp
                have e3 : (q3.toList != q3.toList) = false := by simp
                have e4 : (q4.toList != q4.toList) = false := by simp
                have e5 : (q5.toList != q5.toList) = false := by simp
                have e6 : (b1 != b1) = false := by simp
                have e7 : (b2 != b2) = false := by simp
                have e8 : (b3 != b3) = false := by simp
                go_wp2_with fail
                refine (T1.out _ Hbr.out).mono ?_
                rintro e x1 ⟨rfl, hx1⟩
                have X1 := hide hx1
                clear hx1 Hbr
                go_wp2_with fail
                refine (T2.out _ X1.out).mono ?_
                rintro e x2 ⟨rfl, rfl⟩
                go_wp2_with fail
                refine (T3.out _ X1.out).mono ?_
                rintro e x3 ⟨rfl, hx3⟩
                have X3 := hide hx3
                clear hx3 X1
                go_wp2_with fail
                refine (T4.out _ X3.out).mono ?_
                rintro e x4 ⟨rfl, rfl⟩
                go_wp2_with fail
                refine (T5.out _ X3.out).mono ?_
                rintro e x5 ⟨rfl, hx5⟩
                have X5 := hide hx5
                clear hx5 X3
                go_wp2_with fail
                refine (T6.out _ X5.out).mono ?_
                rintro e x6 ⟨rfl, hx6⟩
                have X6 := hide hx6
                clear hx6 X5
                go_wp2_with fail
                go_roundw
                case rel => exact ⟨i + 1, by omega, by omega, by go_num, X6.out⟩
                case measure => simp [intOf]; omega
              · go_wp2_with fail
                go_ret
                exact ⟨rfl, HbW.out.trans (Hbr.out.mono HbW.out.size)⟩
            · go_wp2_with fail
              go_ret
              exact ⟨rfl, HbW.out.trans (Hbr.out.mono HbW.out.size)⟩
theorem PoolRead_walk (a0 : Option Addr) (len0 cap0 : Nat) (z0 : List Int) (a1 a2 a3 : Int) (w : World) (w0 : Came .u8 w a0 len0 cap0 z0) (_w1 : (Lit.int .i64 a1).wf = true) (w2 : (Lit.int .u8 a2).wf = true) (_w3 : (Lit.int .i64 a3).wf = true) (hmx : Maxed w) :
    Calls Tryd.prog 3 #[.slice a0 len0 cap0, .int .i64 a1, .int .u8 a2, .int .i64 a3] w fun e w' => e = .returned (.bool true) ∧ Below w.heap.size w w' := by
  obtain ⟨L, hL⟩ : ∃ L : Nat, L = min (len0 - (if a3 < 0 ∨ (len0 : Int) < a3 then 0 else a3.toNat)) 3000 := ⟨_, rfl⟩
  rcases (by omega : (a3 < 0) ∨ (¬ a3 < 0 ∧ (len0 : Int) < a3) ∨ (¬ a3 < 0 ∧ ¬ (len0 : Int) < a3)) with k | k | k <;> rcases (by omega : a1 < 0 ∨ (¬ a1 < 0 ∧ (L : Int) ≤ a1) ∨ (¬ a1 < 0 ∧ ¬ (L : Int) ≤ a1)) with m | m | m <;> subst hL
  · exact PoolRead_11 a0 len0 cap0 z0 a1 a2 a3 w w0 _w1 w2 _w3 hmx k m
  · exact PoolRead_12 a0 len0 cap0 z0 a1 a2 a3 w w0 _w1 w2 _w3 hmx k m
  · exact PoolRead_13 a0 len0 cap0 z0 a1 a2 a3 w w0 _w1 w2 _w3 hmx k m
  · exact PoolRead_21 a0 len0 cap0 z0 a1 a2 a3 w w0 _w1 w2 _w3 hmx k m
  · exact PoolRead_22 a0 len0 cap0 z0 a1 a2 a3 w w0 _w1 w2 _w3 hmx k m
  · exact PoolRead_23 a0 len0 cap0 z0 a1 a2 a3 w w0 _w1 w2 _w3 hmx k m
  · exact PoolRead_31 a0 len0 cap0 z0 a1 a2 a3 w w0 _w1 w2 _w3 hmx k m
  · exact PoolRead_32 a0 len0 cap0 z0 a1 a2 a3 w w0 _w1 w2 _w3 hmx k m
  · exact PoolRead_33 a0 len0 cap0 z0 a1 a2 a3 w w0 _w1 w2 _w3 hmx k m
end Go.Proofs.YtdhalpmgfmbcgaaDoor
