/- How package stackmap reads what the attribute holds. Nothing is claimed here. -/
import Derived.Test.YtlgknednfgpgfaaMapEntry
namespace Go.Proofs.Ytlgknednfgpgfaa
open Go.RowKit

theorem mpinfo : (Try.prog.info? 32).map (fun i => (i.zero, i.size, i.bytes)) = some (some (.agg #[.int .i64 0, .int .i64 0, .slice none 0 0, .slice none 0 0]), 4, 64) := by kernel_rfl
/-- An entry's cells, with its two lists. -/
def mapCV (x : Mp × Value × Value) : List Value := [.int .i64 x.1.tag, .int .i64 x.1.delta, x.2.1, x.2.2]
def mcells (L : List (Mp × Value × Value)) : List Value := L.flatMap mapCV
def MRows (w : World) (base : Nat) (L : List (Mp × Value × Value)) : Prop := ∀ x ∈ L, w.ownsRow base 37 3 x.2.1 x.1.locals.length (vcells x.1.locals) ∧ w.ownsRow base 37 3 x.2.2 x.1.stack.length (vcells x.1.stack)
/-- What is told of the whole. -/
def MapsR (r : Option (List Mp)) (w : World) (e : Ending) (w' : World) : Prop :=
  (match r with
    | some l => ∃ V L, e = .returned (.tuple #[V, .bool true]) ∧ L.map Prod.fst = l ∧ w'.ownsRow w.heap.size 32 4 V L.length (mcells L) ∧ MRows w' w.heap.size L
    | none => e = .returned (.tuple #[.slice none 0 0, .bool false])) ∧ Below w.heap.size w w'
/-- Two own rows of different types lie in different blocks. -/
theorem orow_apart {w : World} {b b' : Nat} {e e' : TypeId} {v v' : Value} {n n' k k' : Nat} {xs xs' : List Value} (h : w.ownsRow b e k v n xs) (h' : w.ownsRow b' e' k' v' n' xs') (hne : e ≠ e') : v.ownBlock = none ∨ v.ownBlock ≠ v'.ownBlock := by
  obtain ⟨_, ⟨rfl, _⟩ | ⟨g, cap, cur, rfl, _, hg, _⟩⟩ := h
  · exact .inl rfl
  · refine .inr ?_
    obtain ⟨_, ⟨rfl, _⟩ | ⟨g', cap', cur', rfl, _, hg', _⟩⟩ := h'
    · simp [Value.ownBlock]
    · simp only [Value.ownBlock, ne_eq, Option.some.injEq]
      rintro rfl
      rw [hg] at hg'
      simp only [Option.some.injEq, Obj.cells.injEq] at hg'
      exact hne hg'.2.1
section
variable {w w' : World} {base : Nat} {L : List (Mp × Value × Value)}
theorem MRows.kept (h : MRows w base L) {g : Nat} (hg : w.grownBy w' (some g)) (hlt : g < base) : MRows w' base L := fun x hx => ⟨orow_kept (h x hx).1 hg hlt, orow_kept (h x hx).2 hg hlt⟩
theorem MRows.below (h : MRows w base L) (hb : Below w.heap.size w w') : MRows w' base L := fun x hx => ⟨orow_below (h x hx).1 hb, orow_below (h x hx).2 hb⟩
theorem MRows.other (h : MRows w base L) {b k n : Nat} {v : Value} {xs : List Value} (ho : w.ownsRow b 32 k v n xs) (hg : w.grownBy w' v.ownBlock) : MRows w' base L := fun x hx =>
  ⟨(h x hx).1.kept hg (orow_apart (h x hx).1 ho (by decide)), (h x hx).2.kept hg (orow_apart (h x hx).2 ho (by decide))⟩
theorem MRows.mono (h : MRows w base L) {b : Nat} (hb : b ≤ base) : MRows w b L := fun x hx => ⟨orow_mono (h x hx).1 hb, orow_mono (h x hx).2 hb⟩
end
/-- What is read behind some entries. -/
def behindM (L : List Mp) (r : Option (List Mp) × St) : Option (List Mp) × St := (r.1.map (L ++ ·), r.2)
theorem entriesS_step (xs : List Int) (ps : List Cst) (n : Nat) (s : St) (L : List Mp) {v : Mp} {s' : St} (h : entryS xs ps s = (some v, s')) : behindM L (entriesS xs ps (n + 1) s) = behindM (L ++ [v]) (entriesS xs ps n s') := by
  rw [entriesS, h]
  simp only
  cases hx : entriesS xs ps n s' with
  | mk a b => cases a <;> simp [behindM]
theorem entriesS_none (xs : List Int) (ps : List Cst) (n : Nat) (s : St) (L : List Mp) {s' : St} (h : entryS xs ps s = (none, s')) : behindM L (entriesS xs ps (n + 1) s) = (none, s') := by
  rw [entriesS, h]; rfl

set_option maxHeartbeats 4000000 in
set_option maxRecDepth 100000 in
theorem smRead_any (A0 : Option Addr) (n0 c0 : Nat) (xs : List Int) (A : Option Addr) (n c : Nat) (ps : List Cst) (w : World) (B0 : Nat) (hr : Rd w B0 A0 n0 (bys xs)) (hB0 : B0 ≤ w.heap.size) (hn0 : n0 ≤ 140737488355328) (hx : IsBytes xs) (hp : RdC w w.heap.size A n ps) :
    Calls Try.prog 7 #[.slice A0 n0 c0, .slice A n c] w (MapsR (mapsI xs ps) w) := by
  have HN := hide (new_any A0 n0 c0 xs w B0 hr hB0 hn0 hx)
  have hxl : xs.length ≤ 140737488355328 := by have := hr.1; rw [bys_len] at this; omega
  obtain ⟨i0, hi0, iz0, iz1, iz2⟩ := info_parts mpinfo
  obtain ⟨R, hR⟩ : ∃ R, mapsI xs ps = R := ⟨_, rfl⟩
  rw [hR]
  unfold mapsI at hR
  simp only at hR
  have hm := rd2_bd hx (0, false)
  have HU : Hid (∀ W g gb, Cur W g gb xs 0 false → Calls Try.prog 15 #[.pointer (some ⟨g, 0, none⟩)] W fun e w' => e = .returned (.int .i64 (rdN xs (0, false) 2)) ∧ Cur w' g gb xs (rdS xs (0, false) 2).1 (rdS xs (0, false) 2).2 ∧ W.grownBy w' (some g)) := hide fun W g gb hW => u2_s (s := (0, false)) hW
  generalize rdS xs (0, false) 2 = s0 at *
  obtain ⟨m, hm'⟩ : ∃ m : Nat, rdN xs (0, false) 2 = m := ⟨(rdN xs (0, false) 2).toNat, by omega⟩
  rw [hm'] at hR hm HU
  rw [Int.toNat_natCast] at hR
  have HR := hide hR
  have HP := hide hp
  clear hR hr hp hB0 hm'
  go_enter Try.func7, Try.ntmps7
  go_wp2_with fail
  refine HN.out.mono ?_
  rintro e w1 ⟨g, gb, rfl, hc1, hg, hgb, hb1⟩
  have hgw := hc1.1.lt
  have hbw := hc1.2.1.lt
  have HC1 := hide (hc1.below ((Below.refl _ w1).alloc (Nat.le_refl _) (.cells #[.pointer (some ⟨g, 0, none⟩), .slice A n c] 53)))
  have HB1 := hide (hb1.alloc hb1.size (.cells #[.pointer (some ⟨g, 0, none⟩), .slice A n c] 53))
  have hsz1 := hb1.size
  have HA1 := hide (At.new w1 53 [.pointer (some ⟨g, 0, none⟩), .slice A n c])
  obtain ⟨a0, a1⟩ := c2_of HA1.out
  clear hc1 hb1
  go_wp2_with fail
  refine (HU.out _ _ _ HC1.out).mono ?_
  rintro e w2 ⟨rfl, hc2, hg2⟩
  have hz2 := hg2.size
  simp at hz2
  have HRd := hide (show Rdr w2 w.heap.size g gb A n c xs ps s0 from ⟨hc2, HP.out.below (below_of_grown (hg2 : World.grownBy _ w2 (some g)) hg (by simp; omega) |> HB1.out.trans), hg⟩)
  have HB2 := hide (HB1.out.trans (below_of_grown hg2 hg (by simp; omega)))
  have HA2 := hide (HA1.out.grown hg2 (by simp; omega))
  have hgr : g < w1.heap.size + 1 := by omega
  have hbr : gb < w1.heap.size + 1 := by omega
  have hgq : w.heap.size ≤ w1.heap.size := hsz1
  clear hc2 hg2 HC1 HB1 HA1 a0 a1 HN HU HP
  generalize w1.heap.size = q at *
  obtain ⟨a0, a1⟩ := c2_of HA2.out
  by_cases hbig : 4096 < m
  · have HRn : Hid (R = none) := hide (by rw [← HR.out, if_pos (by omega)])
    have hbig' : (4096 : Int) < (m : Int) := by omega
    go_wp2_with fail
    go_ret2
    have hR := HRn.out
    subst hR
    exact ⟨rfl, HB2.out⟩
  have HR := hide HR.out
  rw [if_neg (by omega)] at HR
  have hbig' : ¬ (4096 : Int) < (m : Int) := by omega
  have HE : Hid (∀ W s', Rdr W w.heap.size g gb A n c xs ps s' → Calls Try.prog 16 #[.agg #[.pointer (some ⟨g, 0, none⟩), .slice A n c]] W (EntryR (entryS xs ps s') g gb xs W)) := hide fun W s' hW => smentry_any g gb w.heap.size A n c xs hx ps s' W hW
  go_wp2_with fail
  go_loopw [8, 21] (fun v iv wr => ∃ (j : Nat) (L : List (Mp × Value × Value)) (s' : St), j ≤ m ∧ L.length = j ∧ iv = .int .i64 j ∧ wr.ownsRow (q + 1) 32 4 v j (mcells L) ∧ MRows wr (q + 1) L ∧ Rdr wr w.heap.size g gb A n c xs ps s' ∧ Below w.heap.size w wr ∧ At wr q 53 [.pointer (some ⟨g, 0, none⟩), .slice A n c] ∧ q + 1 ≤ wr.heap.size ∧ entriesS xs ps m s0 = behindM (L.map Prod.fst) (entriesS xs ps (m - j) s')) (fun _ iv _ => m - (intOf iv).toNat)
  case atStart =>
    refine ⟨0, [], s0, by omega, rfl, rfl, ⟨rfl, .inl ⟨rfl, rfl⟩⟩, fun x hx => (by cases hx), HRd.out, HB2.out, HA2.out, by omega, ?_⟩
    cases hx : entriesS xs ps m s0 with
    | mk a b => cases a <;> simp [behindM]
  case round =>
    obtain ⟨j, L, s', hj, hL, rfl, hown, hrows, hrd, hbel, hat, hsz, hRR⟩ := hrel
    have Hown := hide hown
    have Hrows := hide hrows
    have Hrd := hide hrd
    have Hbel := hide hbel
    have Hat := hide hat
    have HRR := hide hRR
    obtain ⟨a0, a1⟩ := c2_of hat
    have hwz := hbel.size
    clear hown hrows hrd hbel hat hRR HRd HB2 HA2
    by_cases hlt : j < m
    · have hlt' : (j : Int) < (m : Int) := by omega
      have HC := hide (HE.out wr s' Hrd.out)
      have hst : m - j = (m - (j + 1)) + 1 := by omega
      obtain ⟨N, hN⟩ : ∃ N, entryS xs ps s' = N := ⟨_, rfl⟩
      rw [hN] at HC
      have HN1 := hide hN
      clear HE hN
      go_wp2_with fail
      refine HC.out.mono ?_
      rintro e w2 ⟨hg2, hc2, ⟨M, la, ll, lk, sa, sl, sk, hv, rfl, hoa, hob⟩ | ⟨hv, rfl⟩⟩
      · have HS : Hid (entriesS xs ps m s0 = behindM ((L ++ [(M, Value.slice la ll lk, Value.slice sa sl sk)]).map Prod.fst) (entriesS xs ps (m - (j + 1)) N.2)) := hide (by
          rw [HRR.out, hst, List.map_append]
          exact entriesS_step xs ps _ s' _ (by rw [HN1.out, ← hv]))
        have hl2 := hg2.size
        have HO2 := hide (orow_kept Hown.out hg2 (by omega))
        have HM2 : Hid (MRows w2 (q + 1) (L ++ [(M, .slice la ll lk, .slice sa sl sk)])) := hide fun x hx => by
          rcases List.mem_append.1 hx with hx | hx
          · exact Hrows.out.kept hg2 (by omega) x hx
          · obtain rfl := List.mem_singleton.1 hx
            exact ⟨orow_mono hoa hsz, orow_mono hob hsz⟩
        have HRd2 := hide (Hrd.out.step (s' := N.2) hc2 hg2)
        have HB2 := hide (Hbel.out.trans (below_of_grown hg2 hg hwz))
        have HA2 := hide (Hat.out.grown hg2 (by simp; omega))
        have HEq : Hid (mcells (L ++ [(M, .slice la ll lk, .slice sa sl sk)]) = mcells L ++ [.int .i64 M.tag, .int .i64 M.delta, .slice la ll lk, .slice sa sl sk]) := hide (by simp [mcells, mapCV])
        clear Hown Hrows Hrd Hbel Hat HRR a0 a1 HC hst HN1 hg2 hc2 hv hoa hob
        go_wp2_with (at_builtin; go_loud (refine wpList_append_many _ rfl (.tmp 30) (.tmp 32) 25 rfl (q + 1) 32 i0 _ 64 4 (by omega) Try.underlying25 hi0 iz0 iz1 iz2 rfl _ _ _ rfl (orow_below HO2.out ((Below.refl _ w2).alloc (Nat.le_refl _) (.cells #[.int .i64 M.tag, .int .i64 M.delta, .slice la ll lk, .slice sa sl sk] 32))) [.int .i64 M.tag, .int .i64 M.delta, .slice la ll lk, .slice sa sl sk] rfl _ (by simp) rfl rfl (by unfold maxLen; omega) (by omega) (by simp; omega) ?_); intro v2 w3 hown3 hg3)
        have hba : Below w2.heap.size w2 (w2.alloc (.cells #[.int .i64 M.tag, .int .i64 M.delta, .slice la ll lk, .slice sa sl sk] 32)) := (Below.refl _ w2).alloc (Nat.le_refl _) _
        have HOa := orow_below HO2.out hba
        go_roundw
        case rel =>
          refine ⟨j + 1, L ++ [(M, .slice la ll lk, .slice sa sl sk)], N.2, by omega, by simp [hL], by go_num, ?_, ?_, ?_, ?_, ?_, ?_, HS.out⟩
          · rw [HEq.out]
            exact hown3
          · exact (HM2.out.below hba).other HOa hg3
          · exact (HRd2.out.below hba).other HOa hg3 (by omega) (by omega) (by omega)
          · exact below_orow (HB2.out.trans (hba.mono (by omega))) HOa hg3 (by simp; omega) (by omega)
          · exact (HA2.out.below hba HA2.out.lt).grown hg3 (orow_far HOa (by omega))
          · have := hg3.size
            simp at this
            omega
        case measure => simp [intOf]; omega
      · have HRn : Hid (R = none) := hide (by
          rw [← HR.out, HRR.out, hst, entriesS_none xs ps _ s' _ (show entryS xs ps s' = (none, N.2) by rw [HN1.out, ← hv])])
        have HB2 := hide (Hbel.out.trans (below_of_grown hg2 hg hwz))
        have hz2 := HB2.out.size
        clear Hown Hrows Hrd Hbel Hat HRR a0 a1 HC hst HN1 hg2 hc2 hv
        go_wp2_with fail
        go_ret2
        have hR := HRn.out
        subst hR
        refine ⟨rfl, ?_⟩
        repeat (first | with_reducible exact HB2.out | with_reducible refine Below.drew ?_ | with_reducible refine below_drewN ?_ _ | ((with_reducible refine Below.setCell ?_ ?hp _); case hp => simp) | ((with_reducible refine Below.alloc ?_ ?hp _); case hp => first | omega | (simp; done) | (simp; omega)))
    · obtain rfl : j = m := by omega
      have hE : entriesS xs ps j s0 = (some (L.map Prod.fst), s') := by
        rw [HRR.out, Nat.sub_self]
        simp [behindM, entriesS]
      rw [hE] at HR
      simp only at HR
      obtain ⟨k', b'⟩ := s'
      have HOK : Hid (∀ W, Cur W g gb xs k' b' → Calls Try.prog 17 #[.pointer (some ⟨g, 0, none⟩)] W fun e w' => e = .returned (.bool (!b')) ∧ W = w') := hide fun W hW => ok_any g gb xs _ _ _ hW
      have HLe : Hid (∀ W, Cur W g gb xs k' b' → Calls Try.prog 18 #[.pointer (some ⟨g, 0, none⟩)] W fun e w' => e = .returned (.int .i64 ((xs.length : Int) - k')) ∧ ∃ m, w' = W.drewN m) := hide fun W hW => left_any g gb xs _ _ _ hW
      have hkl : k' ≤ xs.length := Hrd.out.cur.2.2.1
      have HFin : Hid (∀ W, (∃ m, W = wr.drewN m) → R = some (L.map Prod.fst) → MapsR R w (.returned (.tuple #[u8, .bool true])) W) := hide (by
        rintro W ⟨m, rfl⟩ rfl
        refine ⟨⟨_, L, rfl, rfl, ?_, fun x hx => ?_⟩, below_drewN Hbel.out m⟩
        · have := orow_mono Hown.out (show w.heap.size ≤ q + 1 by omega)
          rw [hL]; exact this
        · exact (Hrows.out.mono (by omega)) x hx)
      cases b'
      · by_cases hk : k' < xs.length
        · have HRn : Hid (R = none) := hide (by rw [← HR.out, if_pos (by simp [hk])])
          have hk' : (0 : Int) < (xs.length : Int) - k' := by omega
          go_wp2_with (first
            | (go_at_call 17; refine (HOK.out _ Hrd.out.cur).mono ?_; rintro e w5 ⟨rfl, rfl⟩)
            | (go_at_call 18; refine (HLe.out _ Hrd.out.cur).mono ?_; rintro e w6 ⟨rfl, mm, rfl⟩))
          go_ret2
          have hR := HRn.out
          subst hR
          exact ⟨rfl, below_drewN Hbel.out _⟩
        · have HRy : R = some (L.map Prod.fst) := by rw [← HR.out, if_neg (by simp; omega)]
          have HRy := hide HRy
          have hk' : ¬ (0 : Int) < (xs.length : Int) - k' := by omega
          go_wp2_with (first
            | (go_at_call 17; refine (HOK.out _ Hrd.out.cur).mono ?_; rintro e w5 ⟨rfl, rfl⟩)
            | (go_at_call 18; refine (HLe.out _ Hrd.out.cur).mono ?_; rintro e w6 ⟨rfl, mm, rfl⟩))
          go_ret2
          exact HFin.out _ ⟨_, rfl⟩ HRy.out
      · have HRn : Hid (R = none) := hide (by rw [← HR.out, if_pos (by simp)])
        go_wp2_with (first
          | (go_at_call 17; refine (HOK.out _ Hrd.out.cur).mono ?_; rintro e w5 ⟨rfl, rfl⟩))
        go_ret2
        have hR := HRn.out
        subst hR
        exact ⟨rfl, Hbel.out⟩
end Go.Proofs.Ytlgknednfgpgfaa
