/- The document's answer for so many types of stated frames. Nothing is claimed here. -/
import Derived.Test.YtlgknednfgpgfaaMapSpec
import Derived.Test.YtlgknednfgpgfaaPoolRef
import Derived.Test.YtlgknednfgpgfaaOwn
import Derived.Test.YtlgknednfgpgfaaRefG
namespace Go.Proofs.Ytlgknednfgpgfaa
open Go.RowKit

theorem rvtinfo : (Try.prog.info? 37).map (fun i => (i.zero, i.size, i.bytes)) = some (some (.agg #[.int .i64 0, .string ⟨#[]⟩, .int .i64 0]), 3, 32) := by kernel_rfl
/-- A reader of the documents' answers, beside a pool. -/
structure RRd (w : World) (B r base : Nat) (A : Option Addr) (c : Nat) (xs : List Int) (Ap : Option Addr) (np : Nat) (ps : List Cst) (s : St) : Prop where
  ref : RefG w r base A c xs s.1 s.2
  pool : RdC w B Ap np ps
  hB : B ≤ r
section
variable {w w' : World} {B r base : Nat} {A : Option Addr} {c : Nat} {xs : List Int} {Ap : Option Addr} {np : Nat} {ps : List Cst} {s s' : St}
theorem RRd.lt (h : RRd w B r base A c xs Ap np ps s) : B ≤ w.heap.size := by have := h.ref.1.lt; have := h.hB; omega
theorem RRd.step (h : RRd w B r base A c xs Ap np ps s) (hc : RefG w' r base A c xs s'.1 s'.2) (hg : w.grownBy w' (some r)) : RRd w' B r base A c xs Ap np ps s' :=
  ⟨hc, h.pool.below (below_of_grownG hg h.hB h.lt), h.hB⟩
theorem RRd.below (h : RRd w B r base A c xs Ap np ps s) (hb : Below w.heap.size w w') : RRd w' B r base A c xs Ap np ps s :=
  ⟨h.ref.below hb, h.pool.below (hb.mono h.lt), h.hB⟩
theorem RRd.other (h : RRd w B r base A c xs Ap np ps s) {b size m : Nat} {e : TypeId} {v : Value} {ys : List Value} (ho : w.ownsRow b e size v m ys) (hg : w.grownBy w' v.ownBlock) (hr : r < b) : RRd w' B r base A c xs Ap np ps s :=
  ⟨⟨h.ref.1.grown hg (orow_far ho hr), h.ref.2.1.below (below_orow (Below.refl _ _) ho hg h.ref.lt (by have := h.ref.2.2.2.2.2.2; omega)), h.ref.2.2⟩, h.pool.below (below_orow (Below.refl _ _) ho hg h.lt (by have := h.hB; omega)), h.hB⟩
theorem RRd.set (h : RRd w B r base A c xs Ap np ps s) {q : Nat} (hq : r < q) (i : Nat) (u : Value) : RRd (w.setCell ⟨q, i, none⟩ u) B r base A c xs Ap np ps s :=
  ⟨⟨h.ref.1.far (p := ⟨q, i, none⟩) (by simp; omega) u, h.ref.2.1.below ((Below.refl _ _).setCell (by have := h.ref.2.2.2.2.2.2; simp; omega) _), h.ref.2.2⟩, h.pool.below ((Below.refl _ _).setCell (by have := h.hB; simp; omega) _), h.hB⟩
theorem grow_setR {a w : World} {r g : Nat} (h : a.grownBy w (some r)) (hg : a.heap.size ≤ g) (i : Nat) (v : Value) : a.grownBy (w.setCell ⟨g, i, none⟩ v) (some r) :=
  ⟨h.os, h.tape, h.output, by have := h.size; simpa using this, fun k hk hne => (Below.heap_setCell w ⟨g, i, none⟩ v k (by simp; omega)).trans (h.block k hk hne)⟩
theorem grow_moreR {a w w' : World} {r : Option Nat} (h : a.grownBy w r) (hb : Below w.heap.size w w') : a.grownBy w' r := grown_trans h (grown_below hb r)
theorem rn_s (h : RefG w r base A c xs s.1 s.2) (n : Int) (h0 : 0 ≤ n) (h4 : n ≤ 4) : Calls Try.prog 19 #[.pointer (some ⟨r, 0, none⟩), .int .i64 n] w fun e w' => e = .returned (.int .i64 (rdN xs s n)) ∧ RefG w' r base A c xs (rdS xs s n).1 (rdS xs s n).2 ∧ w.grownBy w' (some r) :=
  rnG_is r base A c xs s.1 n s.2 w h h0 h4
end
theorem c3_ofR {w : World} {g : Nat} {t : TypeId} {a b c : Value} (hh : At w g t [a, b, c]) : w.cell? ⟨g, 0, none⟩ = some a ∧ w.cell? ⟨g, 1, none⟩ = some b ∧ w.cell? ⟨g, 2, none⟩ = some c ∧
    w.frozen? ⟨g, 0, none⟩ = false ∧ w.frozen? ⟨g, 1, none⟩ = false ∧ w.frozen? ⟨g, 2, none⟩ = false := ⟨hh.cell 0, hh.cell 1, hh.cell 2, hh.free 0, hh.free 1, hh.free 2⟩
/-- What is told of types that were read. -/
def TypesRR (q : Option (List VT) × St) (r base : Nat) (A : Option Addr) (c : Nat) (xs : List Int) (w : World) (e : Ending) (w' : World) : Prop :=
  w.grownBy w' (some r) ∧ RefG w' r base A c xs q.2.1 q.2.2 ∧
    ((∃ l V, q.1 = some l ∧ e = .returned (.tuple #[V, .bool true]) ∧ w'.ownsRow w.heap.size 37 3 V l.length (vcells l)) ∨ (q.1 = none ∧ e = .returned (.tuple #[.slice none 0 0, .bool false])))
def behindR (L : List VT) (q : Option (List VT) × St) : Option (List VT) × St := (q.1.map (L ++ ·), q.2)
theorem typesR_step (xs : List Int) (ps : List Cst) (n : Nat) (s : St) (L : List VT) {v : VT} {s' : St} (h : nextS xs ps s = (some v, s')) : behindR L (typesS xs ps (n + 1) s) = behindR (L ++ [v]) (typesS xs ps n s') := by
  rw [typesS, h]
  simp only
  cases hx : typesS xs ps n s' with
  | mk a b => cases a <;> simp [behindR]
theorem typesR_none (xs : List Int) (ps : List Cst) (n : Nat) (s : St) (L : List VT) {s' : St} (h : nextS xs ps s = (none, s')) : behindR L (typesS xs ps (n + 1) s) = (none, s') := by
  rw [typesS, h]; rfl

set_option maxHeartbeats 16000000 in
set_option maxRecDepth 100000 in
theorem rvtypes_any (r base B : Nat) (A : Option Addr) (c : Nat) (xs : List Int) (Ap : Option Addr) (np cp : Nat) (ps : List Cst) (m : Nat) (hm : m ≤ 65536) (s : St) (w : World) (h : RRd w B r base A c xs Ap np ps s) :
    Calls Try.prog 20 #[.pointer (some ⟨r, 0, none⟩), .slice Ap np cp, .int .i64 m] w (TypesRR (typesS xs ps m s) r base A c xs w) := by
  obtain ⟨i0, hi0, iz0, iz1, iz2⟩ := info_parts rvtinfo
  have HN : Hid (∀ W s' (n : Int), 0 ≤ n → n ≤ 4 → RRd W B r base A c xs Ap np ps s' → Calls Try.prog 19 #[.pointer (some ⟨r, 0, none⟩), .int .i64 n] W fun e w' => e = .returned (.int .i64 (rdN xs s' n)) ∧ RefG w' r base A c xs (rdS xs s' n).1 (rdS xs s' n).2 ∧ W.grownBy w' (some r)) := hide fun W s' n h0 h4 hW => rn_s hW.ref n h0 h4
  have HCl : Hid (∀ W s' a, RRd W B r base A c xs Ap np ps s' → Calls Try.prog 38 #[.slice Ap np cp, .int .i64 a] W fun e w' => e = .returned (textV (classAt ps a)) ∧ W = w') := hide fun W s' a hW => rclass5_any Ap np cp ps B a W hW.pool
  obtain ⟨R, hR⟩ : ∃ R, typesS xs ps m s = R := ⟨_, rfl⟩
  rw [hR]
  have HR := hide hR
  have hrw := h.ref.1.lt
  have hBr := h.hB
  have HH := hide h
  have hm0 : (0 : Int) ≤ m := by omega
  clear h hR
  go_enter Try.func20, Try.ntmps20
  go_wp2_with fail
  go_loopw [8, 2] (fun v iv wr => ∃ (j : Nat) (L : List VT) (s' : St), j ≤ m ∧ L.length = j ∧ iv = .int .i64 ((m : Int) - j) ∧ wr.ownsRow w.heap.size 37 3 v j (vcells L) ∧ RRd wr B r base A c xs Ap np ps s' ∧ w.grownBy wr (some r) ∧ R = behindR L (typesS xs ps (m - j) s')) (fun _ iv _ => (intOf iv).toNat)
  case atStart =>
    refine ⟨0, [], s, by omega, rfl, by simp, ⟨rfl, .inl ⟨rfl, rfl⟩⟩, HH.out, grown_refl _ _, ?_⟩
    rw [← HR.out]
    cases hx : typesS xs ps m s with
    | mk a b => cases a <;> simp [behindR]
  case round =>
    obtain ⟨j, L, s', hj, hL, rfl, hown, hrd, hgr, hRR⟩ := hrel
    have Hown := hide hown
    have Hrd := hide hrd
    have Hgr := hide hgr
    have HRR := hide hRR
    have hsz := hgr.size
    clear hown hrd hgr hRR HR HH
    by_cases hlt : j < m
    · have hlt' : (0 : Int) < (m : Int) - j := by omega
      have hw1 : IntKind.i64.wrap ((m : Int) - j - 1) = (m : Int) - (j + 1 : Nat) := by rw [IntWalk.i64_in _ (by omega)]; omega
      have hst : m - j = (m - (j + 1)) + 1 := by omega
      have HSp : Hid (nextS xs ps s' = nextS xs ps s') := hide rfl
      have HC := hide (HN.out wr s' 1 (by decide) (by decide) Hrd.out)
      obtain ⟨N, hN⟩ : ∃ N, nextS xs ps s' = N := ⟨_, rfl⟩
      have HN1 := hide hN
      unfold nextS at hN
      simp only at hN
      obtain ⟨s1, hs1⟩ : ∃ s1, rdS xs s' 1 = s1 := ⟨_, rfl⟩
      have HN2 := hide (HN.out)
      rw [hs1] at hN HC
      have hx1 : Hid (∀ n, rdS xs s1 n = rdS xs s1 n) := hide fun _ => rfl
      clear hs1 HN HSp hx1
      by_cases ht : rdN xs s' 1 = 0 ∨ rdN xs s' 1 = 1 ∨ rdN xs s' 1 = 4 ∨ rdN xs s' 1 = 5 ∨ rdN xs s' 1 = 6
      · rw [if_pos ht] at hN
        have HNv := hide hN
        generalize rdN xs s' 1 = t at *
        clear hN
        rcases ht with e | e | e | e | e
        all_goals subst e
        · go_wp2_with fail
          refine HC.out.mono ?_
          rintro e w2 ⟨rfl, hc2, hg2⟩
          have hl2 := hg2.size
          have hfar := orow_new Hown.out hl2
          have HRd2 := hide ((Hrd.out.step (s' := s1) hc2 hg2).below ((Below.refl _ w2).alloc (Nat.le_refl _) (.cells #[.int .i64 0, .string ⟨#[]⟩, .int .i64 0] 37)))
          have HG2 := hide (grow_moreR (grown_trans Hgr.out hg2) ((Below.refl _ w2).alloc (Nat.le_refl _) (.cells #[.int .i64 0, .string ⟨#[]⟩, .int .i64 0] 37)))
          have HO2 := hide (orow_below (orow_kept Hown.out hg2 hrw) ((Below.refl _ w2).alloc (Nat.le_refl _) (.cells #[.int .i64 0, .string ⟨#[]⟩, .int .i64 0] 37)))
          have HT2 := hide (At.new w2 37 [.int .i64 0, .string ⟨#[]⟩, .int .i64 0])
          have hq2 : w.heap.size ≤ w2.heap.size := by omega
          have hqr : w2.heap.size ≠ r := by omega
          have hz2 : (w2.alloc (.cells #[.int .i64 0, .string ⟨#[]⟩, .int .i64 0] 37)).heap.size = w2.heap.size + 1 := by simp
          have rb := HRd2.out.ref.1.cell 2
          simp only [List.getElem?_cons_zero, List.getElem?_cons_succ] at rb
          clear Hrd Hgr Hown HC hc2 hg2
          obtain ⟨k2, b2⟩ := s1
          cases b2
          · have HS : Hid (R = behindR (L ++ [⟨0, 0⟩]) (typesS xs ps (m - (j + 1)) (k2, false))) := hide (by
              rw [HRR.out, hst]
              exact typesR_step xs ps _ s' L (by rw [HN1.out, ← HNv.out]; rfl))
            have HE : Hid (vcells (L ++ [⟨0, 0⟩]) = vcells L ++ [.int .i64 0, .string ⟨#[]⟩, .int .i64 0]) := hide (by simp [vcells, VT.cells])
            clear HRR HN1 HNv hst HCl
            obtain ⟨t0, t1, t2, -⟩ := c3_ofR HT2.out
            have hwr := hrw
            go_wp2_with (at_builtin; go_loud (refine wpList_append_many _ rfl (.tmp 50) (.tmp 52) 30 rfl w.heap.size 37 i0 _ 32 3 (by omega) Try.underlying30 hi0 iz0 iz1 iz2 rfl _ _ _ rfl HO2.out [.int .i64 0, .string ⟨#[]⟩, .int .i64 0] rfl _ (by simp) rfl rfl (by unfold maxLen; omega) (by omega) (by simp; omega) ?_); intro v2 w5 hown3 hg3)
            go_roundw
            case rel =>
              refine ⟨j + 1, L ++ [⟨0, 0⟩], (k2, false), by omega, by simp [hL], by go_num, ?_, HRd2.out.other HO2.out hg3 hrw, grown_orow HG2.out HO2.out hg3 (Nat.le_refl _), HS.out⟩
              rw [HE.out]
              exact hown3
            case measure => simp [intOf]; omega
          · have HS : Hid (R = (none, (k2, true))) := hide (by
              rw [HRR.out, hst]
              exact typesR_none xs ps _ s' L (by rw [HN1.out, ← HNv.out]; rfl))
            clear HRR HN1 HNv hst HCl
            obtain ⟨t0, t1, t2, -⟩ := c3_ofR HT2.out
            go_wp2_with fail
            go_ret2
            have hR := HS.out
            subst hR
            exact ⟨HG2.out, HRd2.out.ref, .inr ⟨rfl, rfl⟩⟩
        · go_wp2_with fail
          refine HC.out.mono ?_
          rintro e w2 ⟨rfl, hc2, hg2⟩
          have hl2 := hg2.size
          have hfar := orow_new Hown.out hl2
          have HRd2 := hide ((Hrd.out.step (s' := s1) hc2 hg2).below ((Below.refl _ w2).alloc (Nat.le_refl _) (.cells #[.int .i64 1, .string ⟨#[]⟩, .int .i64 0] 37)))
          have HG2 := hide (grow_moreR (grown_trans Hgr.out hg2) ((Below.refl _ w2).alloc (Nat.le_refl _) (.cells #[.int .i64 1, .string ⟨#[]⟩, .int .i64 0] 37)))
          have HO2 := hide (orow_below (orow_kept Hown.out hg2 hrw) ((Below.refl _ w2).alloc (Nat.le_refl _) (.cells #[.int .i64 1, .string ⟨#[]⟩, .int .i64 0] 37)))
          have HT2 := hide (At.new w2 37 [.int .i64 1, .string ⟨#[]⟩, .int .i64 0])
          have hq2 : w.heap.size ≤ w2.heap.size := by omega
          have hqr : w2.heap.size ≠ r := by omega
          have hz2 : (w2.alloc (.cells #[.int .i64 1, .string ⟨#[]⟩, .int .i64 0] 37)).heap.size = w2.heap.size + 1 := by simp
          have rb := HRd2.out.ref.1.cell 2
          simp only [List.getElem?_cons_zero, List.getElem?_cons_succ] at rb
          clear Hrd Hgr Hown HC hc2 hg2
          obtain ⟨k2, b2⟩ := s1
          cases b2
          · have HS : Hid (R = behindR (L ++ [⟨1, 0⟩]) (typesS xs ps (m - (j + 1)) (k2, false))) := hide (by
              rw [HRR.out, hst]
              exact typesR_step xs ps _ s' L (by rw [HN1.out, ← HNv.out]; rfl))
            have HE : Hid (vcells (L ++ [⟨1, 0⟩]) = vcells L ++ [.int .i64 1, .string ⟨#[]⟩, .int .i64 0]) := hide (by simp [vcells, VT.cells])
            clear HRR HN1 HNv hst HCl
            obtain ⟨t0, t1, t2, -⟩ := c3_ofR HT2.out
            have hwr := hrw
            go_wp2_with (at_builtin; go_loud (refine wpList_append_many _ rfl (.tmp 50) (.tmp 52) 30 rfl w.heap.size 37 i0 _ 32 3 (by omega) Try.underlying30 hi0 iz0 iz1 iz2 rfl _ _ _ rfl HO2.out [.int .i64 1, .string ⟨#[]⟩, .int .i64 0] rfl _ (by simp) rfl rfl (by unfold maxLen; omega) (by omega) (by simp; omega) ?_); intro v2 w5 hown3 hg3)
            go_roundw
            case rel =>
              refine ⟨j + 1, L ++ [⟨1, 0⟩], (k2, false), by omega, by simp [hL], by go_num, ?_, HRd2.out.other HO2.out hg3 hrw, grown_orow HG2.out HO2.out hg3 (Nat.le_refl _), HS.out⟩
              rw [HE.out]
              exact hown3
            case measure => simp [intOf]; omega
          · have HS : Hid (R = (none, (k2, true))) := hide (by
              rw [HRR.out, hst]
              exact typesR_none xs ps _ s' L (by rw [HN1.out, ← HNv.out]; rfl))
            clear HRR HN1 HNv hst HCl
            obtain ⟨t0, t1, t2, -⟩ := c3_ofR HT2.out
            go_wp2_with fail
            go_ret2
            have hR := HS.out
            subst hR
            exact ⟨HG2.out, HRd2.out.ref, .inr ⟨rfl, rfl⟩⟩
        · go_wp2_with fail
          refine HC.out.mono ?_
          rintro e w2 ⟨rfl, hc2, hg2⟩
          have hl2 := hg2.size
          have hfar := orow_new Hown.out hl2
          have HRd2 := hide ((Hrd.out.step (s' := s1) hc2 hg2).below ((Below.refl _ w2).alloc (Nat.le_refl _) (.cells #[.int .i64 4, .string ⟨#[]⟩, .int .i64 0] 37)))
          have HG2 := hide (grow_moreR (grown_trans Hgr.out hg2) ((Below.refl _ w2).alloc (Nat.le_refl _) (.cells #[.int .i64 4, .string ⟨#[]⟩, .int .i64 0] 37)))
          have HO2 := hide (orow_below (orow_kept Hown.out hg2 hrw) ((Below.refl _ w2).alloc (Nat.le_refl _) (.cells #[.int .i64 4, .string ⟨#[]⟩, .int .i64 0] 37)))
          have HT2 := hide (At.new w2 37 [.int .i64 4, .string ⟨#[]⟩, .int .i64 0])
          have hq2 : w.heap.size ≤ w2.heap.size := by omega
          have hqr : w2.heap.size ≠ r := by omega
          have hz2 : (w2.alloc (.cells #[.int .i64 4, .string ⟨#[]⟩, .int .i64 0] 37)).heap.size = w2.heap.size + 1 := by simp
          have rb := HRd2.out.ref.1.cell 2
          simp only [List.getElem?_cons_zero, List.getElem?_cons_succ] at rb
          clear Hrd Hgr Hown HC hc2 hg2
          obtain ⟨k2, b2⟩ := s1
          cases b2
          · have HS : Hid (R = behindR (L ++ [⟨4, 0⟩]) (typesS xs ps (m - (j + 1)) (k2, false))) := hide (by
              rw [HRR.out, hst]
              exact typesR_step xs ps _ s' L (by rw [HN1.out, ← HNv.out]; rfl))
            have HE : Hid (vcells (L ++ [⟨4, 0⟩]) = vcells L ++ [.int .i64 4, .string ⟨#[]⟩, .int .i64 0]) := hide (by simp [vcells, VT.cells])
            clear HRR HN1 HNv hst HCl
            obtain ⟨t0, t1, t2, -⟩ := c3_ofR HT2.out
            have hwr := hrw
            go_wp2_with (at_builtin; go_loud (refine wpList_append_many _ rfl (.tmp 50) (.tmp 52) 30 rfl w.heap.size 37 i0 _ 32 3 (by omega) Try.underlying30 hi0 iz0 iz1 iz2 rfl _ _ _ rfl HO2.out [.int .i64 4, .string ⟨#[]⟩, .int .i64 0] rfl _ (by simp) rfl rfl (by unfold maxLen; omega) (by omega) (by simp; omega) ?_); intro v2 w5 hown3 hg3)
            go_roundw
            case rel =>
              refine ⟨j + 1, L ++ [⟨4, 0⟩], (k2, false), by omega, by simp [hL], by go_num, ?_, HRd2.out.other HO2.out hg3 hrw, grown_orow HG2.out HO2.out hg3 (Nat.le_refl _), HS.out⟩
              rw [HE.out]
              exact hown3
            case measure => simp [intOf]; omega
          · have HS : Hid (R = (none, (k2, true))) := hide (by
              rw [HRR.out, hst]
              exact typesR_none xs ps _ s' L (by rw [HN1.out, ← HNv.out]; rfl))
            clear HRR HN1 HNv hst HCl
            obtain ⟨t0, t1, t2, -⟩ := c3_ofR HT2.out
            go_wp2_with fail
            go_ret2
            have hR := HS.out
            subst hR
            exact ⟨HG2.out, HRd2.out.ref, .inr ⟨rfl, rfl⟩⟩
        · go_wp2_with fail
          refine HC.out.mono ?_
          rintro e w2 ⟨rfl, hc2, hg2⟩
          have hl2 := hg2.size
          have hfar := orow_new Hown.out hl2
          have HRd2 := hide ((Hrd.out.step (s' := s1) hc2 hg2).below ((Below.refl _ w2).alloc (Nat.le_refl _) (.cells #[.int .i64 5, .string ⟨#[]⟩, .int .i64 0] 37)))
          have HG2 := hide (grow_moreR (grown_trans Hgr.out hg2) ((Below.refl _ w2).alloc (Nat.le_refl _) (.cells #[.int .i64 5, .string ⟨#[]⟩, .int .i64 0] 37)))
          have HO2 := hide (orow_below (orow_kept Hown.out hg2 hrw) ((Below.refl _ w2).alloc (Nat.le_refl _) (.cells #[.int .i64 5, .string ⟨#[]⟩, .int .i64 0] 37)))
          have HT2 := hide (At.new w2 37 [.int .i64 5, .string ⟨#[]⟩, .int .i64 0])
          have hq2 : w.heap.size ≤ w2.heap.size := by omega
          have hqr : w2.heap.size ≠ r := by omega
          have hz2 : (w2.alloc (.cells #[.int .i64 5, .string ⟨#[]⟩, .int .i64 0] 37)).heap.size = w2.heap.size + 1 := by simp
          have rb := HRd2.out.ref.1.cell 2
          simp only [List.getElem?_cons_zero, List.getElem?_cons_succ] at rb
          clear Hrd Hgr Hown HC hc2 hg2
          obtain ⟨k2, b2⟩ := s1
          cases b2
          · have HS : Hid (R = behindR (L ++ [⟨5, 0⟩]) (typesS xs ps (m - (j + 1)) (k2, false))) := hide (by
              rw [HRR.out, hst]
              exact typesR_step xs ps _ s' L (by rw [HN1.out, ← HNv.out]; rfl))
            have HE : Hid (vcells (L ++ [⟨5, 0⟩]) = vcells L ++ [.int .i64 5, .string ⟨#[]⟩, .int .i64 0]) := hide (by simp [vcells, VT.cells])
            clear HRR HN1 HNv hst HCl
            obtain ⟨t0, t1, t2, -⟩ := c3_ofR HT2.out
            have hwr := hrw
            go_wp2_with (at_builtin; go_loud (refine wpList_append_many _ rfl (.tmp 50) (.tmp 52) 30 rfl w.heap.size 37 i0 _ 32 3 (by omega) Try.underlying30 hi0 iz0 iz1 iz2 rfl _ _ _ rfl HO2.out [.int .i64 5, .string ⟨#[]⟩, .int .i64 0] rfl _ (by simp) rfl rfl (by unfold maxLen; omega) (by omega) (by simp; omega) ?_); intro v2 w5 hown3 hg3)
            go_roundw
            case rel =>
              refine ⟨j + 1, L ++ [⟨5, 0⟩], (k2, false), by omega, by simp [hL], by go_num, ?_, HRd2.out.other HO2.out hg3 hrw, grown_orow HG2.out HO2.out hg3 (Nat.le_refl _), HS.out⟩
              rw [HE.out]
              exact hown3
            case measure => simp [intOf]; omega
          · have HS : Hid (R = (none, (k2, true))) := hide (by
              rw [HRR.out, hst]
              exact typesR_none xs ps _ s' L (by rw [HN1.out, ← HNv.out]; rfl))
            clear HRR HN1 HNv hst HCl
            obtain ⟨t0, t1, t2, -⟩ := c3_ofR HT2.out
            go_wp2_with fail
            go_ret2
            have hR := HS.out
            subst hR
            exact ⟨HG2.out, HRd2.out.ref, .inr ⟨rfl, rfl⟩⟩
        · go_wp2_with fail
          refine HC.out.mono ?_
          rintro e w2 ⟨rfl, hc2, hg2⟩
          have hl2 := hg2.size
          have hfar := orow_new Hown.out hl2
          have HRd2 := hide ((Hrd.out.step (s' := s1) hc2 hg2).below ((Below.refl _ w2).alloc (Nat.le_refl _) (.cells #[.int .i64 6, .string ⟨#[]⟩, .int .i64 0] 37)))
          have HG2 := hide (grow_moreR (grown_trans Hgr.out hg2) ((Below.refl _ w2).alloc (Nat.le_refl _) (.cells #[.int .i64 6, .string ⟨#[]⟩, .int .i64 0] 37)))
          have HO2 := hide (orow_below (orow_kept Hown.out hg2 hrw) ((Below.refl _ w2).alloc (Nat.le_refl _) (.cells #[.int .i64 6, .string ⟨#[]⟩, .int .i64 0] 37)))
          have HT2 := hide (At.new w2 37 [.int .i64 6, .string ⟨#[]⟩, .int .i64 0])
          have hq2 : w.heap.size ≤ w2.heap.size := by omega
          have hqr : w2.heap.size ≠ r := by omega
          have hz2 : (w2.alloc (.cells #[.int .i64 6, .string ⟨#[]⟩, .int .i64 0] 37)).heap.size = w2.heap.size + 1 := by simp
          have rb := HRd2.out.ref.1.cell 2
          simp only [List.getElem?_cons_zero, List.getElem?_cons_succ] at rb
          clear Hrd Hgr Hown HC hc2 hg2
          obtain ⟨k2, b2⟩ := s1
          cases b2
          · have HS : Hid (R = behindR (L ++ [⟨6, 0⟩]) (typesS xs ps (m - (j + 1)) (k2, false))) := hide (by
              rw [HRR.out, hst]
              exact typesR_step xs ps _ s' L (by rw [HN1.out, ← HNv.out]; rfl))
            have HE : Hid (vcells (L ++ [⟨6, 0⟩]) = vcells L ++ [.int .i64 6, .string ⟨#[]⟩, .int .i64 0]) := hide (by simp [vcells, VT.cells])
            clear HRR HN1 HNv hst HCl
            obtain ⟨t0, t1, t2, -⟩ := c3_ofR HT2.out
            have hwr := hrw
            go_wp2_with (at_builtin; go_loud (refine wpList_append_many _ rfl (.tmp 50) (.tmp 52) 30 rfl w.heap.size 37 i0 _ 32 3 (by omega) Try.underlying30 hi0 iz0 iz1 iz2 rfl _ _ _ rfl HO2.out [.int .i64 6, .string ⟨#[]⟩, .int .i64 0] rfl _ (by simp) rfl rfl (by unfold maxLen; omega) (by omega) (by simp; omega) ?_); intro v2 w5 hown3 hg3)
            go_roundw
            case rel =>
              refine ⟨j + 1, L ++ [⟨6, 0⟩], (k2, false), by omega, by simp [hL], by go_num, ?_, HRd2.out.other HO2.out hg3 hrw, grown_orow HG2.out HO2.out hg3 (Nat.le_refl _), HS.out⟩
              rw [HE.out]
              exact hown3
            case measure => simp [intOf]; omega
          · have HS : Hid (R = (none, (k2, true))) := hide (by
              rw [HRR.out, hst]
              exact typesR_none xs ps _ s' L (by rw [HN1.out, ← HNv.out]; rfl))
            clear HRR HN1 HNv hst HCl
            obtain ⟨t0, t1, t2, -⟩ := c3_ofR HT2.out
            go_wp2_with fail
            go_ret2
            have hR := HS.out
            subst hR
            exact ⟨HG2.out, HRd2.out.ref, .inr ⟨rfl, rfl⟩⟩
      rw [if_neg ht] at hN
      by_cases h7 : rdN xs s' 1 = 7
      · rw [if_pos h7] at hN
        rw [h7] at HC
        have HNv := hide hN
        clear hN ht h7
        go_wp2_with fail
        refine HC.out.mono ?_
        rintro e w2 ⟨rfl, hc2, hg2⟩
        have hl2 := hg2.size
        have hfar := orow_new Hown.out hl2
        have HRd2 := hide ((Hrd.out.step (s' := s1) hc2 hg2).below ((Below.refl _ w2).alloc (Nat.le_refl _) (.cells #[.int .i64 7, .string ⟨#[]⟩, .int .i64 0] 37)))
        have HG2 := hide (grow_moreR (grown_trans Hgr.out hg2) ((Below.refl _ w2).alloc (Nat.le_refl _) (.cells #[.int .i64 7, .string ⟨#[]⟩, .int .i64 0] 37)))
        have HO2 := hide (orow_below (orow_kept Hown.out hg2 hrw) ((Below.refl _ w2).alloc (Nat.le_refl _) (.cells #[.int .i64 7, .string ⟨#[]⟩, .int .i64 0] 37)))
        have HT2 := hide (At.new w2 37 [.int .i64 7, .string ⟨#[]⟩, .int .i64 0])
        have hq2 : w.heap.size ≤ w2.heap.size := by omega
        have hqr : w2.heap.size ≠ r := by omega
        have hz2 : (w2.alloc (.cells #[.int .i64 7, .string ⟨#[]⟩, .int .i64 0] 37)).heap.size = w2.heap.size + 1 := by simp
        have rb := HRd2.out.ref.1.cell 2
        simp only [List.getElem?_cons_zero, List.getElem?_cons_succ] at rb
        clear Hrd Hgr Hown HC hc2 hg2
        go_wp2_with fail
        refine (HN2.out _ s1 2 (by decide) (by decide) HRd2.out).mono ?_
        rintro e w3 ⟨rfl, hc3, hg3⟩
        obtain ⟨a, ha⟩ : ∃ a, rdN xs s1 2 = a := ⟨_, rfl⟩
        obtain ⟨s2, hs2⟩ : ∃ s2, rdS xs s1 2 = s2 := ⟨_, rfl⟩
        rw [hs2] at hc3
        have HNv : Hid ((if s2.2 || (classAt ps a).isNone then none else some ⟨7, a⟩, s2) = N) := hide (by have := HNv.out; rw [ha, hs2] at this; exact this)
        rw [ha]
        have hl3 := hg3.size
        rw [hz2] at hl3
        have hT3 := HT2.out.grown hg3 (by simpa using hqr)
        obtain ⟨t0, t1, t2, f0, f1, f2⟩ := c3_ofR hT3
        have HRd3 := hide ((HRd2.out.step (s' := s2) hc3 hg3).set (q := w2.heap.size) (by omega) 2 (.int .i64 a))
        have HG3 := hide (grow_setR (grown_trans HG2.out hg3) hq2 2 (.int .i64 a))
        have HO3 := hide ((orow_kept HO2.out hg3 hrw).kept (only_set (i := 2) (.int .i64 a)) (.inr hfar.symm))
        have HT3 := hide (hT3.set 2 (.int .i64 a))
        clear HRd2 HG2 HO2 HT2 hc3 hg3 rb hz2 hs2 ha HN2
        have HRd2 := hide HRd3.out
        have HG2 := hide HG3.out
        have HO2 := hide HO3.out
        have HT2 := hide HT3.out
        clear HRd3 HG3 HO3 HT3
        have rb := HRd2.out.ref.1.cell 2
        simp only [List.getElem?_cons_zero, List.getElem?_cons_succ] at rb
        obtain ⟨t0, t1, t2, -⟩ := c3_ofR HT2.out
        go_wp2_with fail
        refine (HCl.out _ s2 a HRd2.out).mono ?_
        rintro e w4 ⟨rfl, rfl⟩
        rcases textV_split (classAt ps a) with ⟨hcl, hv⟩ | ⟨tx, hcl, hv⟩
        · rw [hv]
          have HS : Hid (R = (none, s2)) := hide (by
            rw [HRR.out, hst]
            refine typesR_none xs ps _ s' L ?_
            rw [HN1.out, ← HNv.out, hcl]
            simp)
          clear HRR HN1 HNv hst HCl
          go_wp2_with fail
          go_ret2
          have hR := HS.out
          subst hR
          exact ⟨HG2.out, HRd2.out.ref, .inr ⟨rfl, rfl⟩⟩
        · rw [hv]
          have HNv : Hid ((if s2.2 = true then none else some ⟨7, a⟩, s2) = N) := hide (by
            rw [← HNv.out, hcl]
            simp)
          have HN2 := hide trivial
          generalize strOfNums tx = q at *
          obtain ⟨k2, b2⟩ := s2
          cases b2
          · have HS : Hid (R = behindR (L ++ [⟨7, a⟩]) (typesS xs ps (m - (j + 1)) (k2, false))) := hide (by
              rw [HRR.out, hst]
              exact typesR_step xs ps _ s' L (by rw [HN1.out, ← HNv.out]; rfl))
            have HE : Hid (vcells (L ++ [⟨7, a⟩]) = vcells L ++ [.int .i64 7, .string ⟨#[]⟩, .int .i64 a]) := hide (by simp [vcells, VT.cells])
            clear HRR HN1 HNv hst HCl
            obtain ⟨t0, t1, t2, -⟩ := c3_ofR HT2.out
            have hwr := hrw
            go_wp2_with (at_builtin; go_loud (refine wpList_append_many _ rfl (.tmp 50) (.tmp 52) 30 rfl w.heap.size 37 i0 _ 32 3 (by omega) Try.underlying30 hi0 iz0 iz1 iz2 rfl _ _ _ rfl HO2.out [.int .i64 7, .string ⟨#[]⟩, .int .i64 a] rfl _ (by simp) rfl rfl (by unfold maxLen; omega) (by omega) (by simp; omega) ?_); intro v2 w5 hown3 hg3)
            go_roundw
            case rel =>
              refine ⟨j + 1, L ++ [⟨7, a⟩], (k2, false), by omega, by simp [hL], by go_num, ?_, HRd2.out.other HO2.out hg3 hrw, grown_orow HG2.out HO2.out hg3 (Nat.le_refl _), HS.out⟩
              rw [HE.out]
              exact hown3
            case measure => simp [intOf]; omega
          · have HS : Hid (R = (none, (k2, true))) := hide (by
              rw [HRR.out, hst]
              exact typesR_none xs ps _ s' L (by rw [HN1.out, ← HNv.out]; rfl))
            clear HRR HN1 HNv hst HCl
            obtain ⟨t0, t1, t2, -⟩ := c3_ofR HT2.out
            go_wp2_with fail
            go_ret2
            have hR := HS.out
            subst hR
            exact ⟨HG2.out, HRd2.out.ref, .inr ⟨rfl, rfl⟩⟩
      rw [if_neg h7] at hN
      by_cases h8 : rdN xs s' 1 = 8
      · rw [if_pos h8] at hN
        rw [h8] at HC
        have HNv := hide hN
        clear hN ht h7 h8
        go_wp2_with fail
        refine HC.out.mono ?_
        rintro e w2 ⟨rfl, hc2, hg2⟩
        have hl2 := hg2.size
        have hfar := orow_new Hown.out hl2
        have HRd2 := hide ((Hrd.out.step (s' := s1) hc2 hg2).below ((Below.refl _ w2).alloc (Nat.le_refl _) (.cells #[.int .i64 8, .string ⟨#[]⟩, .int .i64 0] 37)))
        have HG2 := hide (grow_moreR (grown_trans Hgr.out hg2) ((Below.refl _ w2).alloc (Nat.le_refl _) (.cells #[.int .i64 8, .string ⟨#[]⟩, .int .i64 0] 37)))
        have HO2 := hide (orow_below (orow_kept Hown.out hg2 hrw) ((Below.refl _ w2).alloc (Nat.le_refl _) (.cells #[.int .i64 8, .string ⟨#[]⟩, .int .i64 0] 37)))
        have HT2 := hide (At.new w2 37 [.int .i64 8, .string ⟨#[]⟩, .int .i64 0])
        have hq2 : w.heap.size ≤ w2.heap.size := by omega
        have hqr : w2.heap.size ≠ r := by omega
        have hz2 : (w2.alloc (.cells #[.int .i64 8, .string ⟨#[]⟩, .int .i64 0] 37)).heap.size = w2.heap.size + 1 := by simp
        have rb := HRd2.out.ref.1.cell 2
        simp only [List.getElem?_cons_zero, List.getElem?_cons_succ] at rb
        clear Hrd Hgr Hown HC hc2 hg2
        go_wp2_with fail
        refine (HN2.out _ s1 2 (by decide) (by decide) HRd2.out).mono ?_
        rintro e w3 ⟨rfl, hc3, hg3⟩
        obtain ⟨a, ha⟩ : ∃ a, rdN xs s1 2 = a := ⟨_, rfl⟩
        obtain ⟨s2, hs2⟩ : ∃ s2, rdS xs s1 2 = s2 := ⟨_, rfl⟩
        rw [hs2] at hc3
        have HNv : Hid ((if s2.2 then none else some ⟨8, a⟩, s2) = N) := hide (by have := HNv.out; rw [ha, hs2] at this; exact this)
        rw [ha]
        have hl3 := hg3.size
        rw [hz2] at hl3
        have hT3 := HT2.out.grown hg3 (by simpa using hqr)
        obtain ⟨t0, t1, t2, f0, f1, f2⟩ := c3_ofR hT3
        have HRd3 := hide ((HRd2.out.step (s' := s2) hc3 hg3).set (q := w2.heap.size) (by omega) 2 (.int .i64 a))
        have HG3 := hide (grow_setR (grown_trans HG2.out hg3) hq2 2 (.int .i64 a))
        have HO3 := hide ((orow_kept HO2.out hg3 hrw).kept (only_set (i := 2) (.int .i64 a)) (.inr hfar.symm))
        have HT3 := hide (hT3.set 2 (.int .i64 a))
        clear HRd2 HG2 HO2 HT2 hc3 hg3 rb hz2 hs2 ha HN2
        have HRd2 := hide HRd3.out
        have HG2 := hide HG3.out
        have HO2 := hide HO3.out
        have HT2 := hide HT3.out
        clear HRd3 HG3 HO3 HT3
        have rb := HRd2.out.ref.1.cell 2
        simp only [List.getElem?_cons_zero, List.getElem?_cons_succ] at rb
        obtain ⟨k2, b2⟩ := s2
        cases b2
        · have HS : Hid (R = behindR (L ++ [⟨8, a⟩]) (typesS xs ps (m - (j + 1)) (k2, false))) := hide (by
            rw [HRR.out, hst]
            exact typesR_step xs ps _ s' L (by rw [HN1.out, ← HNv.out]; rfl))
          have HE : Hid (vcells (L ++ [⟨8, a⟩]) = vcells L ++ [.int .i64 8, .string ⟨#[]⟩, .int .i64 a]) := hide (by simp [vcells, VT.cells])
          clear HRR HN1 HNv hst HCl
          obtain ⟨t0, t1, t2, -⟩ := c3_ofR HT2.out
          have hwr := hrw
          go_wp2_with (at_builtin; go_loud (refine wpList_append_many _ rfl (.tmp 50) (.tmp 52) 30 rfl w.heap.size 37 i0 _ 32 3 (by omega) Try.underlying30 hi0 iz0 iz1 iz2 rfl _ _ _ rfl HO2.out [.int .i64 8, .string ⟨#[]⟩, .int .i64 a] rfl _ (by simp) rfl rfl (by unfold maxLen; omega) (by omega) (by simp; omega) ?_); intro v2 w5 hown3 hg3)
          go_roundw
          case rel =>
            refine ⟨j + 1, L ++ [⟨8, a⟩], (k2, false), by omega, by simp [hL], by go_num, ?_, HRd2.out.other HO2.out hg3 hrw, grown_orow HG2.out HO2.out hg3 (Nat.le_refl _), HS.out⟩
            rw [HE.out]
            exact hown3
          case measure => simp [intOf]; omega
        · have HS : Hid (R = (none, (k2, true))) := hide (by
            rw [HRR.out, hst]
            exact typesR_none xs ps _ s' L (by rw [HN1.out, ← HNv.out]; rfl))
          clear HRR HN1 HNv hst HCl
          obtain ⟨t0, t1, t2, -⟩ := c3_ofR HT2.out
          go_wp2_with fail
          go_ret2
          have hR := HS.out
          subst hR
          exact ⟨HG2.out, HRd2.out.ref, .inr ⟨rfl, rfl⟩⟩
      rw [if_neg h8] at hN
      have HNv := hide hN
      generalize rdN xs s' 1 = t at *
      simp only [not_or] at ht
      obtain ⟨t0, t1, t4, t5, t6⟩ := ht
      have e0 : (t == 0) = false := by simpa using t0
      have e1 : (t == 1) = false := by simpa using t1
      have e4 : (t == 4) = false := by simpa using t4
      have e5 : (t == 5) = false := by simpa using t5
      have e6 : (t == 6) = false := by simpa using t6
      have e7 : (t == 7) = false := by simpa using h7
      have e8 : (t == 8) = false := by simpa using h8
      go_wp2_with fail
      refine HC.out.mono ?_
      rintro e w2 ⟨rfl, hc2, hg2⟩
      have hl2 := hg2.size
      have hfar := orow_new Hown.out hl2
      have HRd2 := hide ((Hrd.out.step (s' := s1) hc2 hg2).below ((Below.refl _ w2).alloc (Nat.le_refl _) (.cells #[.int .i64 t, .string ⟨#[]⟩, .int .i64 0] 37)))
      have HG2 := hide (grow_moreR (grown_trans Hgr.out hg2) ((Below.refl _ w2).alloc (Nat.le_refl _) (.cells #[.int .i64 t, .string ⟨#[]⟩, .int .i64 0] 37)))
      have HO2 := hide (orow_below (orow_kept Hown.out hg2 hrw) ((Below.refl _ w2).alloc (Nat.le_refl _) (.cells #[.int .i64 t, .string ⟨#[]⟩, .int .i64 0] 37)))
      have HT2 := hide (At.new w2 37 [.int .i64 t, .string ⟨#[]⟩, .int .i64 0])
      have hq2 : w.heap.size ≤ w2.heap.size := by omega
      have hqr : w2.heap.size ≠ r := by omega
      have hz2 : (w2.alloc (.cells #[.int .i64 t, .string ⟨#[]⟩, .int .i64 0] 37)).heap.size = w2.heap.size + 1 := by simp
      have rb := HRd2.out.ref.1.cell 2
      simp only [List.getElem?_cons_zero, List.getElem?_cons_succ] at rb
      clear Hrd Hgr Hown HC hc2 hg2
      have HS : Hid (R = (none, s1)) := hide (by
        rw [HRR.out, hst]
        exact typesR_none xs ps _ s' L (by rw [HN1.out, ← HNv.out]))
      clear HRR HN1 HNv hst HCl HN2
      go_wp2_with fail
      go_ret2
      have hR := HS.out
      subst hR
      exact ⟨HG2.out, HRd2.out.ref, .inr ⟨rfl, rfl⟩⟩
    · obtain rfl : j = m := by omega
      have hlt' : ¬ (0 : Int) < (j : Int) - j := by omega
      go_wp2_with fail
      go_ret2
      have hR := HRR.out
      rw [Nat.sub_self] at hR
      subst hR
      refine ⟨Hgr.out, Hrd.out.ref, .inl ⟨L, _, by simp [behindR, typesS], rfl, ?_⟩⟩
      rw [hL]
      exact Hown.out
end Go.Proofs.Ytlgknednfgpgfaa
