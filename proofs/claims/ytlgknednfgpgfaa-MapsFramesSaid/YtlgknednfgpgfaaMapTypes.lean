/- How package stackmap reads so many types. Nothing is claimed here. -/
import Derived.Test.YtlgknednfgpgfaaMapParts
import Derived.Test.YtlgknednfgpgfaaOwn
namespace Go.Proofs.Ytlgknednfgpgfaa
open Go.RowKit

theorem vtinfo : (Try.prog.info? 37).map (fun i => (i.zero, i.size, i.bytes)) = some (some (.agg #[.int .i64 0, .string ⟨#[]⟩, .int .i64 0]), 3, 32) := by kernel_rfl
/-- What is told of types that were read. -/
def TypesR (r : Option (List VT) × St) (g gb : Nat) (xs : List Int) (w : World) (e : Ending) (w' : World) : Prop :=
  w.grownBy w' (some g) ∧ Cur w' g gb xs r.2.1 r.2.2 ∧
    ((∃ l V, r.1 = some l ∧ e = .returned (.tuple #[V, .bool true]) ∧ w'.ownsRow w.heap.size 37 3 V l.length (vcells l)) ∨ (r.1 = none ∧ e = .returned (.tuple #[.slice none 0 0, .bool false])))
/-- What is read behind some types. -/
def behindS (L : List VT) (r : Option (List VT) × St) : Option (List VT) × St := (r.1.map (L ++ ·), r.2)
theorem typesS_step (xs : List Int) (ps : List Cst) (n : Nat) (s : St) (L : List VT) {v : VT} {s' : St} (h : nextS xs ps s = (some v, s')) : behindS L (typesS xs ps (n + 1) s) = behindS (L ++ [v]) (typesS xs ps n s') := by
  rw [typesS, h]
  simp only
  cases hx : typesS xs ps n s' with
  | mk a b => cases a <;> simp [behindS]
theorem typesS_none (xs : List Int) (ps : List Cst) (n : Nat) (s : St) (L : List VT) {s' : St} (h : nextS xs ps s = (none, s')) : behindS L (typesS xs ps (n + 1) s) = (none, s') := by
  rw [typesS, h]; rfl

theorem Rdr.other {w w' : World} {B g gb : Nat} {A : Option Addr} {n c : Nat} {xs : List Int} {ps : List Cst} {s : St} {base : Nat} {e : TypeId} {v : Value} {m size : Nat} {ys : List Value} (h : Rdr w B g gb A n c xs ps s)
    (ho : w.ownsRow base e size v m ys) (hg : w.grownBy w' v.ownBlock) (h1 : g < base) (h2 : gb < base) (h3 : B ≤ base) : Rdr w' B g gb A n c xs ps s :=
  ⟨h.cur.grown hg (orow_far ho h1) (orow_far ho h2), h.pool.below (below_orow (Below.refl _ _) ho hg h.lt h3), h.hB⟩

set_option maxHeartbeats 4000000 in
set_option maxRecDepth 100000 in
theorem smtypes_any (g gb B : Nat) (A : Option Addr) (n c m : Nat) (hm : m ≤ 65536) (xs : List Int) (ps : List Cst) (s : St) (w : World) (h : Rdr w B g gb A n c xs ps s) :
    Calls Try.prog 35 #[.agg #[.pointer (some ⟨g, 0, none⟩), .slice A n c], .int .i64 m] w (TypesR (typesS xs ps m s) g gb xs w) := by
  obtain ⟨i0, hi0, iz0, iz1, iz2⟩ := info_parts vtinfo
  have HN : Hid (∀ W s', Rdr W B g gb A n c xs ps s' → Calls Try.prog 45 #[.agg #[.pointer (some ⟨g, 0, none⟩), .slice A n c]] W (NextR (nextS xs ps s') g gb xs W)) := hide fun W s' hW => smnext_any g gb B A n c xs ps s' W hW
  obtain ⟨R, hR⟩ : ∃ R, typesS xs ps m s = R := ⟨_, rfl⟩
  rw [hR]
  have HR := hide hR
  have hgw := h.cur.1.lt
  have hbw := h.cur.2.1.lt
  have hBw := h.lt
  have HH := hide h
  clear h hR
  go_enter Try.func35, Try.ntmps35
  go_wp2_with fail
  have HX := hide (At.new w 53 [.pointer (some ⟨g, 0, none⟩), .slice A n c])
  have HR0 := hide (HH.out.below ((Below.refl _ w).alloc (Nat.le_refl _) (.cells #[.pointer (some ⟨g, 0, none⟩), .slice A n c] 53)))
  have HG0 := hide (grown_below ((Below.refl _ w).alloc (Nat.le_refl _) (.cells #[.pointer (some ⟨g, 0, none⟩), .slice A n c] 53)) (some g))
  have hz0 : (w.alloc (.cells #[.pointer (some ⟨g, 0, none⟩), .slice A n c] 53)).heap.size = w.heap.size + 1 := by simp
  generalize w.alloc (.cells #[.pointer (some ⟨g, 0, none⟩), .slice A n c] 53) = wa at *
  go_loopw [6, 10] (fun v iv wr => ∃ (j : Nat) (L : List VT) (s' : St), j ≤ m ∧ L.length = j ∧ iv = .int .i64 j ∧ wr.ownsRow (w.heap.size + 1) 37 3 v j (vcells L) ∧ Rdr wr B g gb A n c xs ps s' ∧ w.grownBy wr (some g) ∧ At wr w.heap.size 53 [.pointer (some ⟨g, 0, none⟩), .slice A n c] ∧ w.heap.size + 1 ≤ wr.heap.size ∧ R = behindS L (typesS xs ps (m - j) s')) (fun _ iv _ => m - (intOf iv).toNat)
  case atStart =>
    refine ⟨0, [], s, by omega, rfl, rfl, ⟨rfl, .inl ⟨rfl, rfl⟩⟩, HR0.out, HG0.out, HX.out, by omega, ?_⟩
    rw [← HR.out]
    cases hx : typesS xs ps m s with
    | mk a b => cases a <;> simp [behindS]
  case round =>
    obtain ⟨j, L, s', hj, hL, rfl, hown, hrd, hgr, hat, hsz, hRR⟩ := hrel
    have Hown := hide hown
    have Hrd := hide hrd
    have Hgr := hide hgr
    have Hat := hide hat
    have HRR := hide hRR
    obtain ⟨a0, a1⟩ := c2_of hat
    clear hown hrd hgr hat hRR HR HX HR0 HG0 HH
    by_cases hlt : j < m
    · have hlt' : (j : Int) < (m : Int) := by omega
      have HC := hide (HN.out wr s' Hrd.out)
      have hst : m - j = (m - (j + 1)) + 1 := by omega
      obtain ⟨N, hN⟩ : ∃ N, nextS xs ps s' = N := ⟨_, rfl⟩
      rw [hN] at HC
      have HN1 := hide hN
      clear HN hN
      go_wp2_with fail
      refine HC.out.mono ?_
      rintro e w2 ⟨hg2, hc2, ⟨v, hv, rfl⟩ | ⟨hv, v, rfl⟩⟩
      · have HS : Hid (R = behindS (L ++ [v]) (typesS xs ps (m - (j + 1)) N.2)) := hide (by
          rw [HRR.out, hst]
          exact typesS_step xs ps _ s' L (by rw [HN1.out, ← hv]))
        have hl2 := hg2.size
        have HO2 := hide (orow_kept Hown.out hg2 (by omega))
        have HRd2 := hide (Hrd.out.step (s' := N.2) hc2 hg2)
        have HG2 := hide (grown_trans Hgr.out hg2)
        have HA2 := hide (Hat.out.grown hg2 (by simp; omega))
        have HE : Hid (vcells (L ++ [v]) = vcells L ++ [.int .i64 v.kind, .string ⟨#[]⟩, .int .i64 v.num]) := hide (by simp [vcells, VT.cells])
        clear Hown Hrd Hgr Hat HRR a0 a1 HC hst HN1 hg2 hc2 hv
        obtain ⟨vk, va⟩ := v
        unfold vtV
        go_wp2_with (at_builtin; go_loud (refine wpList_append_many _ rfl (.tmp 19) (.tmp 21) 30 rfl (w.heap.size + 1) 37 i0 _ 32 3 (by omega) Try.underlying30 hi0 iz0 iz1 iz2 rfl _ _ _ rfl (orow_below HO2.out ((Below.refl _ w2).alloc (Nat.le_refl _) (.cells #[.int .i64 vk, .string ⟨#[]⟩, .int .i64 va] 37))) [.int .i64 vk, .string ⟨#[]⟩, .int .i64 va] rfl _ (by simp) rfl rfl (by unfold maxLen; omega) (by omega) (by simp; omega) ?_); intro v2 w3 hown3 hg3)
        have hba : Below w2.heap.size w2 (w2.alloc (.cells #[.int .i64 vk, .string ⟨#[]⟩, .int .i64 va] 37)) := (Below.refl _ w2).alloc (Nat.le_refl _) _
        have HOa := orow_below HO2.out hba
        go_roundw
        case rel =>
          refine ⟨j + 1, L ++ [⟨vk, va⟩], N.2, by omega, by simp [hL], by go_num, ?_, ?_, ?_, ?_, ?_, HS.out⟩
          · rw [HE.out]
            exact hown3
          · exact (HRd2.out.below hba).other HOa hg3 (by omega) (by omega) (by omega)
          · exact grown_orow (grown_more HG2.out hba) HOa hg3 (by omega)
          · exact (HA2.out.below hba HA2.out.lt).grown hg3 (orow_far HOa (by omega))
          · have := hg3.size
            simp at this
            omega
        case measure => simp [intOf]; omega
      · have HS : Hid (R = (none, N.2)) := hide (by
          rw [HRR.out, hst]
          exact typesS_none xs ps _ s' L (by rw [HN1.out, ← hv]))
        have HG2 := hide (grown_trans Hgr.out hg2)
        have HC2 := hide hc2
        clear Hown Hrd Hgr Hat HRR a0 a1 HC hst HN1 hg2 hc2 hv
        obtain ⟨vk, va⟩ := v
        unfold vtV
        go_wp2_with fail
        go_ret2
        have hR := HS.out
        subst hR
        exact ⟨grown_more HG2.out (by repeat (first | with_reducible exact Below.refl _ _ | with_reducible refine Below.drew ?_ | with_reducible refine below_drewN ?_ _ | ((with_reducible refine Below.setCell ?_ ?hp _); case hp => simp) | ((with_reducible refine Below.alloc ?_ ?hp _); case hp => first | omega | (simp; done) | (simp; omega)))), HC2.out.below (by repeat (first | with_reducible exact Below.refl _ _ | with_reducible refine Below.drew ?_ | with_reducible refine below_drewN ?_ _ | ((with_reducible refine Below.setCell ?_ ?hp _); case hp => simp) | ((with_reducible refine Below.alloc ?_ ?hp _); case hp => first | omega | (simp; done) | (simp; omega)))), .inr ⟨rfl, rfl⟩⟩
    · obtain rfl : j = m := by omega
      go_wp2_with fail
      go_ret2
      have hR := HRR.out
      rw [Nat.sub_self] at hR
      subst hR
      refine ⟨Hgr.out, Hrd.out.cur, .inl ⟨L, _, by simp [behindS, typesS], rfl, ?_⟩⟩
      rw [hL]
      exact orow_mono Hown.out (by omega)
end Go.Proofs.Ytlgknednfgpgfaa
