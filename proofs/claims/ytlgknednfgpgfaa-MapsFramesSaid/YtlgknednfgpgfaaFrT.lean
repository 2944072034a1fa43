/- How one entry turns the state: package stackmap. Nothing is claimed here. -/
import Derived.Test.YtlgknednfgpgfaaFrS
namespace Go.Proofs.Ytlgknednfgpgfaa
open Go.RowKit

/-- What is told where an entry turns the state. -/
def ChangeR (w0 : World) (sb : Nat) (Ap : Option Addr) (np cp : Nat) (ps : List Cst) (at_ : Int) (L : List FT) (VL : Value) (m : Mp) (w : World) (e : Ending) (w' : World) : Prop :=
  match stepF ps L m with
  | none => e = .returned (.bool false) ∧ Below w0.heap.size w0 w'
  | some L' => ∃ VL' VS', e = .returned (.bool true) ∧ SB w0 w' sb Ap np cp ps at_ L' VL' VS' ∧ w'.ownsRow w0.heap.size 37 3 VS' m.stack.length (fcells (m.stack.map (nameF ps))) ∧
      Apart VS' VL' ∧ Near w VL VL' ∧ Near w (.slice none 0 0) VS' ∧ Keeps w w' sb VL
theorem Keeps.below {w w' : World} {sb B : Nat} {V : Value} (h : Keeps w w' sb V) (hs : B ≤ sb) (hv : ∀ k, V.ownBlock = some k → B ≤ k) (hB : B ≤ w.heap.size) : Below B w w' :=
  ⟨h.os, h.tape, h.output, h.size, fun i hi => h.block i (by omega) (by omega) (fun he => by have := hv i he; omega)⟩
/-- The entry's two lists. -/
structure MR (w : World) (base : Nat) (m : Mp) (va vb : Value) : Prop where
  a : w.ownsRow base 37 3 va m.locals.length (vcells m.locals)
  b : w.ownsRow base 37 3 vb m.stack.length (vcells m.stack)
theorem MR.below {w w' : World} {base : Nat} {m : Mp} {va vb : Value} (h : MR w base m va vb) (hb : Below w.heap.size w w') : MR w' base m va vb := ⟨orow_below h.a hb, orow_below h.b hb⟩
theorem vrow_rd {w : World} {base : Nat} {v : Value} {l : List VT} (h : w.ownsRow base 37 3 v l.length (vcells l)) : ∃ A c, v = .slice A l.length c ∧ RdF w w.heap.size A l.length (l.map VT.ft) := by
  rw [vcells_f] at h
  obtain ⟨A, c, rfl, hr, _⟩ := orow_rdF h (by simp)
  exact ⟨A, c, rfl, hr⟩

set_option maxHeartbeats 4000000 in
set_option maxRecDepth 100000 in
theorem smchange_any (w0 : World) (sb : Nat) (Ap : Option Addr) (np cp : Nat) (ps : List Cst) (at_ : Int) (L : List FT) (VL VS : Value) (m : Mp) (va vb : Value) (hm : GoodM ps m) (hL : L.length ≤ 1000) (w : World)
    (h : SB w0 w sb Ap np cp ps at_ L VL VS) (A : Option Addr) (nc : Nat) (A' : Option Addr) (nc' : Nat) (hva : va = .slice A m.locals.length nc) (hvb : vb = .slice A' m.stack.length nc')
    (hra : RdF w w0.heap.size A m.locals.length (m.locals.map VT.ft)) (hrb : RdF w w0.heap.size A' m.stack.length (m.stack.map VT.ft)) :
    Calls Try.prog 28 #[.pointer (some ⟨sb, 0, none⟩), .agg #[.int .i64 m.tag, .int .i64 m.delta, va, vb]] w (ChangeR w0 sb Ap np cp ps at_ L VL m w) := by
  subst hva hvb
  have ht := hm.tag
  have hsm := hm.small
  have hsl := h.st.lt
  have hw0 := h.lt
  have h0 := h.putStack (.slice none 0 0)
  have hb1 : Below (w.setCell ⟨sb, 3, none⟩ (.slice none 0 0)).heap.size (w.setCell ⟨sb, 3, none⟩ (.slice none 0 0)) ((w.setCell ⟨sb, 3, none⟩ (.slice none 0 0)).alloc (.cells #[.int .i64 m.tag, .int .i64 m.delta, .slice A m.locals.length nc, .slice A' m.stack.length nc'] 32)) := (Below.refl _ _).alloc (Nat.le_refl _) _
  have hs0 : (w.setCell ⟨sb, 3, none⟩ (.slice none 0 0)).heap.size = w.heap.size := by simp
  have HM1 := hide (At.new (w.setCell ⟨sb, 3, none⟩ (.slice none 0 0)) 32 [.int .i64 m.tag, .int .i64 m.delta, .slice A m.locals.length nc, .slice A' m.stack.length nc'])
  rw [hs0] at HM1
  have hne : w.heap.size ≠ sb := by omega
  have hne' : sb ≠ w.heap.size := by omega
  have H1 := hide (h0.below hb1)
  have HK1 : Hid (Keeps w ((w.setCell ⟨sb, 3, none⟩ (.slice none 0 0)).alloc (.cells #[.int .i64 m.tag, .int .i64 m.delta, .slice A m.locals.length nc, .slice A' m.stack.length nc'] 32)) sb VL) := hide (Keeps.of (grown_trans (only_set _) (grown_below hb1 (some sb))))
  have HRa := hide ((hra.below ((Below.refl _ w).setCell (p := ⟨sb, 3, none⟩) h.hsb (.slice none 0 0))).below (hb1.mono (by rw [hs0]; exact hw0)))
  have HRb := hide ((hrb.below ((Below.refl _ w).setCell (p := ⟨sb, 3, none⟩) h.hsb (.slice none 0 0))).below (hb1.mono (by rw [hs0]; exact hw0)))
  have hz1 : ((w.setCell ⟨sb, 3, none⟩ (.slice none 0 0)).alloc (.cells #[.int .i64 m.tag, .int .i64 m.delta, .slice A m.locals.length nc, .slice A' m.stack.length nc'] 32)).heap.size = w.heap.size + 1 := by simp
  obtain ⟨⟨c0, c1, c2, c3⟩, f1, f2, f3⟩ := h.cells
  have HGa := hide hm.locals
  have HGb := hide hm.stack
  have HN0 := hide hm.none_
  obtain ⟨mt, md, ml, ms⟩ := m
  simp only at *
  obtain ⟨R, hR⟩ : ∃ R, ChangeR w0 sb Ap np cp ps at_ L VL ⟨mt, md, ml, ms⟩ w = R := ⟨_, rfl⟩
  rw [hR]
  unfold ChangeR stepF at hR
  simp only at hR
  generalize hnl : ml.length = nl at *
  generalize hns : ms.length = ns at *
  have HS := hide h
  have HR0 := hide (And.intro hra hrb)
  clear h hra hrb hm h0 hb1
  have hcases : (mt ≤ 63 ∨ mt = 251) ∨ (63 < mt ∧ mt ≤ 127 ∨ mt = 247) ∨ (248 ≤ mt ∧ mt ≤ 250) ∨ (252 ≤ mt ∧ mt ≤ 254) ∨ mt = 255 := by omega
  rcases hcases with h1 | h1 | h1 | h1 | h1
  · have hms : ms = [] := by rcases HN0.out with h | h; · exact h
                             · omega
    rw [if_neg (by omega), if_neg (by omega), if_neg (by omega)] at hR
    have HR := hide hR
    subst hms
    obtain rfl : ns = 0 := by simpa using hns.symm
    clear hR
    rcases h1 with h1 | rfl
    all_goals
      go_enter Try.func28, Try.ntmps28
      go_wp2_with fail
      rw [← HR.out]
      exact ⟨VL, .slice none 0 0, rfl, H1.out, ⟨by simp [fcells], .inl ⟨rfl, rfl⟩⟩, fun k hk => (by simp [Value.ownBlock] at hk), fun k hk => .inl hk, fun k hk => (by simp [Value.ownBlock] at hk), HK1.out⟩
  · have HU := hide (smpush_any w0 sb Ap np cp ps at_ L VL (.slice none 0 0) w0.heap.size A' ns nc' ms HGb.out (by omega) _ H1.out HRb.out (by omega))
    rw [if_neg (by omega), if_neg (by omega), if_neg (by omega)] at hR
    have HR := hide hR
    clear hR
    rcases h1 with ⟨h1, h2⟩ | rfl
    · have d1 : decide (mt < 0) = false := by simp; omega
      have d2 : decide (255 < mt) = false := by simp; omega
      have d4 : decide (mt ≤ 63) = false := by simp; omega
      have d5 : (mt == 251) = false := by simp; omega
      have d3 : decide (127 < mt) = false := by simp; omega
      have d6 : decide (mt ≤ 247) = true := by simp; omega
      go_enter Try.func28, Try.ntmps28
      go_wp2_with fail
      refine HU.out.mono ?_
      rintro e w2 ⟨V, rfl, q2, q3, q4⟩
      go_wp2_with fail
      rw [← HR.out]
      refine ⟨VL, V, rfl, q2, orow_mono q3 (by omega), fun k hk hk2 => ?_, fun k hk => .inl hk, fun k hk => .inr ?_, HK1.out.trans (Keeps.of (V := VL) q4) (fun k hk => .inl hk)⟩
      · have := q3.lt _ hk
        have := H1.out.own.lt _ hk2
        omega
      · have := q3.lt _ hk
        omega
    · go_enter Try.func28, Try.ntmps28
      go_wp2_with fail
      refine HU.out.mono ?_
      rintro e w2 ⟨V, rfl, q2, q3, q4⟩
      go_wp2_with fail
      rw [← HR.out]
      refine ⟨VL, V, rfl, q2, orow_mono q3 (by omega), fun k hk hk2 => ?_, fun k hk => .inl hk, fun k hk => .inr ?_, HK1.out.trans (Keeps.of (V := VL) q4) (fun k hk => .inl hk)⟩
      · have := q3.lt _ hk
        have := H1.out.own.lt _ hk2
        omega
      · have := q3.lt _ hk
        omega
  · obtain ⟨k, hk, hk1, hk2⟩ : ∃ k : Nat, 251 - mt = k ∧ 1 ≤ k ∧ k ≤ 3 := ⟨(251 - mt).toNat, by omega, by omega, by omega⟩
    have HU := hide (smchop_any w0 sb Ap np cp ps at_ L VL (.slice none 0 0) k ⟨hk1, hk2⟩ (by omega) _ H1.out)
    have hms : ms = [] := by rcases HN0.out with h | h; · exact h
                             · omega
    subst hms
    obtain rfl : ns = 0 := by simpa using hns.symm
    rw [if_pos h1] at hR
    have HR := hide hR
    clear hR
    have HKE : Hid (251 - mt = (k : Int)) := hide hk
    have d1 : decide (mt < 0) = false := by simp; omega
    have d2 : decide (255 < mt) = false := by simp; omega
    have d4 : decide (mt ≤ 63) = false := by simp; omega
    have d5 : (mt == 251) = false := by simp; omega
    have d3 : decide (127 < mt) = true := by simp; omega
    have d7 : decide (mt < 247) = false := by simp; omega
    have d6 : decide (mt ≤ 247) = false := by simp; omega
    have d8 : decide (mt < 251) = true := by simp; omega
    go_enter Try.func28, Try.ntmps28
    go_wp2_with fail
    refine HU.out.mono ?_
    rintro e w2 (⟨hl, rfl, rfl⟩ | ⟨hl, V, rfl, h2, h3, h4⟩)
    · have HB2 := hide H1.out.bel
      go_wp2_with fail
      rw [← HR.out]
      rw [if_pos (by omega)]
      exact ⟨rfl, HB2.out⟩
    · go_wp2_with fail
      rw [← HR.out]
      rw [if_neg (by omega), HKE.out, Int.toNat_natCast]
      exact ⟨V, .slice none 0 0, rfl, h2, ⟨by simp [fcells], .inl ⟨rfl, rfl⟩⟩, fun k hk => (by simp [Value.ownBlock] at hk), fun k hk => (h3 k hk).imp id (by omega), fun k hk => (by simp [Value.ownBlock] at hk), HK1.out.trans (Keeps.of (V := VL) h4) (fun k hk => .inl hk)⟩
  · have HU := hide (smadd_any w0 sb Ap np cp ps at_ L VL (.slice none 0 0) w0.heap.size A nl nc ml HGa.out (by omega) (by omega) _ H1.out HRa.out (by omega))
    have hms : ms = [] := by rcases HN0.out with h | h; · exact h
                             · omega
    subst hms
    obtain rfl : ns = 0 := by simpa using hns.symm
    rw [if_neg (by omega), if_pos h1] at hR
    have HR := hide hR
    clear hR
    have d1 : decide (mt < 0) = false := by simp; omega
    have d2 : decide (255 < mt) = false := by simp; omega
    have d4 : decide (mt ≤ 63) = false := by simp; omega
    have d5 : (mt == 251) = false := by simp; omega
    have d3 : decide (127 < mt) = true := by simp; omega
    have d7 : decide (mt < 247) = false := by simp; omega
    have d6 : decide (mt ≤ 247) = false := by simp; omega
    have d8 : decide (mt < 251) = false := by simp; omega
    have d9 : decide (mt ≤ 254) = true := by simp; omega
    go_enter Try.func28, Try.ntmps28
    go_wp2_with fail
    refine HU.out.mono ?_
    rintro e w2 ⟨V, rfl, h2, h3, h4⟩
    go_wp2_with fail
    rw [← HR.out]
    exact ⟨V, .slice none 0 0, rfl, h2, ⟨by simp [fcells], .inl ⟨rfl, rfl⟩⟩, fun k hk => (by simp [Value.ownBlock] at hk), fun k hk => (h3 k hk).imp id (by omega), fun k hk => (by simp [Value.ownBlock] at hk), HK1.out.trans h4 (fun k hk => .inl hk)⟩
  · subst h1
    rw [if_neg (by omega), if_neg (by omega), if_pos rfl] at hR
    have HR := hide hR
    clear hR
    go_enter Try.func28, Try.ntmps28
    go_wp2_with fail
    have hs2 : ((w.setCell ⟨sb, 3, none⟩ (.slice none 0 0)).setCell ⟨sb, 2, none⟩ (.slice none 0 0)).heap.size = w.heap.size := by simp
    have hb5 : Below w0.heap.size w ((w.setCell ⟨sb, 3, none⟩ (.slice none 0 0)).setCell ⟨sb, 2, none⟩ (.slice none 0 0)) := ((Below.refl _ w).setCell H1.out.hsb _).setCell H1.out.hsb _
    have hb6 : Below w0.heap.size w (((w.setCell ⟨sb, 3, none⟩ (.slice none 0 0)).setCell ⟨sb, 2, none⟩ (.slice none 0 0)).alloc (.cells #[.int .i64 255, .int .i64 md, .slice A nl nc, .slice A' ns nc'] 32)) := hb5.alloc (by rw [hs2]; exact hw0) _
    have H5 : SB w0 (((w.setCell ⟨sb, 3, none⟩ (.slice none 0 0)).setCell ⟨sb, 2, none⟩ (.slice none 0 0)).alloc (.cells #[.int .i64 255, .int .i64 md, .slice A nl nc, .slice A' ns nc'] 32)) sb Ap np cp ps at_ [] (.slice none 0 0) (.slice none 0 0) := ((HS.out.putStack (.slice none 0 0)).putLocals (L' := []) (V := .slice none 0 0) (World.ownsRow_nil _ _ _ _) (by simp [Value.ownBlock])).below ((Below.refl _ _).alloc (Nat.le_refl _) _)
    have HM5 := At.new ((w.setCell ⟨sb, 3, none⟩ (.slice none 0 0)).setCell ⟨sb, 2, none⟩ (.slice none 0 0)) 32 [.int .i64 255, .int .i64 md, .slice A nl nc, .slice A' ns nc']
    rw [hs2] at HM5
    have hK5 : Keeps w (((w.setCell ⟨sb, 3, none⟩ (.slice none 0 0)).setCell ⟨sb, 2, none⟩ (.slice none 0 0)).alloc (.cells #[.int .i64 255, .int .i64 md, .slice A nl nc, .slice A' ns nc'] 32)) sb VL := Keeps.of (grown_trans (grown_trans (only_set _) (only_set _)) (World.grownBy_alloc _ _ _))
    refine (smadd_any w0 sb Ap np cp ps at_ [] (.slice none 0 0) (.slice none 0 0) w0.heap.size A nl nc ml HGa.out (by omega) (by simp) _ H5 (HR0.out.1.below hb6) (by rw [World.size_alloc, hs2]; omega)).mono ?_
    rintro e w2 ⟨V, rfl, q2, q3, q4⟩
    have HM6 : At w2 w.heap.size 32 [.int .i64 255, .int .i64 md, .slice A nl nc, .slice A' ns nc'] := by
      unfold At at HM5 ⊢
      rw [q4.block w.heap.size (by rw [World.size_alloc, hs2]; omega) hne (by simp [Value.ownBlock])]
      exact HM5
    have m3 := HM6.cell 3
    simp only [List.getElem?_cons_succ, List.getElem?_cons_zero] at m3
    have HQ2 := hide q2
    have HQ3 := hide q3
    have HQ4 := hide q4
    have HB6 := hide hb6
    have HK5 := hide hK5
    clear q2 q3 q4 HM5 HM6 H5 hb5 hb6 hK5
    go_wp2_with fail
    have hb7 : Below w0.heap.size w w2 := HB6.out.trans (HQ4.out.below HQ2.out.hsb (fun k hk => (by simp [Value.ownBlock] at hk)) (Nat.le_trans hw0 HB6.out.size))
    have hz2 := HQ4.out.size
    rw [World.size_alloc, hs2] at hz2
    refine (smpush_any w0 sb Ap np cp ps at_ _ V (.slice none 0 0) w0.heap.size A' ns nc' ms HGb.out (by omega) w2 HQ2.out (HR0.out.2.below hb7) (by omega)).mono ?_
    rintro e w3 ⟨V', rfl, q2, q3, q4⟩
    have HP2 := hide q2
    have HP3 := hide q3
    have HP4 := hide q4
    clear q2 q3 q4 hb7
    go_wp2_with fail
    rw [← HR.out]
    refine ⟨V, V', rfl, HP2.out, orow_mono HP3.out (by omega), fun k hk hk2 => ?_, fun k hk => ?_, fun k hk => .inr ?_, (HK5.out.trans (V' := .slice none 0 0) ⟨HQ4.out.os, HQ4.out.tape, HQ4.out.output, HQ4.out.size, HQ4.out.block⟩ (fun k hk => (by simp [Value.ownBlock] at hk))).trans (Keeps.of (V := VL) HP4.out) (fun k hk => .inl hk)⟩
    · have := HP3.out.lt _ hk
      have := HQ2.out.own.lt _ hk2
      omega
    · rcases HQ3.out k hk with h | h
      · simp [Value.ownBlock] at h
      · rw [World.size_alloc, hs2] at h
        exact .inr (by omega)
    · have := HP3.out.lt _ hk
      omega
end Go.Proofs.Ytlgknednfgpgfaa
