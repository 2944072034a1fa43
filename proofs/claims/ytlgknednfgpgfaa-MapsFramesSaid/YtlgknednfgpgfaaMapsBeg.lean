/- The pool and the beginning of the statements of stage 8; two lists of types that are the same. Nothing is claimed here. -/
import Derived.Test.YtlgknednfgpgfaaFrM
import Derived.Test.YtlgknednfgpgfaaMapRMaps
namespace Go.Proofs.Ytlgknednfgpgfaa
open Go.RowKit

def mPool : List Cst := [noC, ⟨1, [97], 0, 0, 0⟩, ⟨7, [], 0, 1, 0⟩, ⟨1, [91, 73], 0, 0, 0⟩, ⟨7, [], 0, 3, 0⟩]
theorem rdC_new (w : World) (ps : List Cst) : RdC (w.alloc (.cells (ccells ps).toArray 58)) (w.heap.size + 1) (some ⟨w.heap.size, 0, none⟩) ps.length ps :=
  ⟨rfl, fun _ => ⟨_, 0, rfl, Nat.lt_succ_self _, fun j u hu => by rw [(At.new w 58 (ccells ps)).cell, Nat.zero_add]; exact hu⟩⟩
set_option maxRecDepth 100000 in
theorem mpool_any (w : World) : Calls Try.prog 8 #[] w fun e w' => ∃ A, e = .returned (.slice A 5 5) ∧ RdC w' w'.heap.size A 5 mPool ∧ Below w.heap.size w w' := by
  have HR := hide (rdC_new w mPool)
  go_enter Try.func8, Try.ntmps8
  go_wp2_with fail
  go_ret
  exact ⟨_, rfl, by rw [World.size_alloc]; exact HR.out, (Below.refl _ w).alloc (Nat.le_refl _) _⟩

set_option maxHeartbeats 4000000 in
set_option maxRecDepth 100000 in
theorem mvtypes_any (A : Option Addr) (n c : Nat) (A' : Option Addr) (c' : Nat) (l : List FT) (w : World) (B B' : Nat) (h : RdF w B A n l) (h' : RdF w B' A' n l) (hn : n ≤ 100000) :
    Calls Try.prog 10 #[.slice A n c, .slice A' n c'] w fun e w' => e = .returned (.bool true) ∧ ∃ m, w' = w.drewN m := by
  have HH := hide h
  have HH' := hide h'
  clear h h'
  go_enter Try.func10, Try.ntmps10
  go_wp2_with fail
  go_loopw [5] (fun iv wr => ∃ j q : Nat, j ≤ n ∧ iv = .int .i64 j ∧ wr = w.drewN q) (fun iv _ => n - (intOf iv).toNat)
  case atStart => exact ⟨0, 0, Nat.zero_le _, rfl, rfl⟩
  case round =>
    obtain ⟨j, q, hj, rfl, rfl⟩ := hrel
    by_cases hlt : j < n
    · obtain ⟨g, o, rfl, hg, c0, c1, c2⟩ := HH.out.cells3 hlt
      obtain ⟨g', o', rfl, hg', d0, d1, d2⟩ := HH'.out.cells3 hlt
      generalize l.getD j noF = v at *
      obtain ⟨vk, vn, va⟩ := v
      simp only at c0 c1 c2 d0 d1 d2
      generalize strOfNums vn = sn at *
      go_wp2_with fail
      go_quiet (fail)
      go_wp2_with fail
      go_roundw
      case rel => exact ⟨j + 1, _, by omega, by go_num, rfl⟩
      case measure => simp [intOf]; omega
    · obtain rfl : j = n := by omega
      go_wp2_with fail
      go_ret
      exact ⟨rfl, _, rfl⟩

/-- Entries that were read lie ahead. -/
theorem maps_at {w : World} {base : Nat} {V : Value} {L : List (Mp × Value × Value)} (ho : w.ownsRow base 32 4 V L.length (mcells L)) (hr : MRows w base L) : ∃ A c, V = .slice A L.length c ∧ MapsAt w w.heap.size A L.length L := by
  have hl : ∀ x ∈ L, ∃ A c A' c', x.2.1 = .slice A x.1.locals.length c ∧ x.2.2 = .slice A' x.1.stack.length c' ∧ RdF w w.heap.size A x.1.locals.length (x.1.locals.map VT.ft) ∧ RdF w w.heap.size A' x.1.stack.length (x.1.stack.map VT.ft) := fun x hx => by
    obtain ⟨A, c, h1, h2⟩ := vrow_rd (hr x hx).1
    obtain ⟨A', c', h3, h4⟩ := vrow_rd (hr x hx).2
    exact ⟨A, c, A', c', h1, h3, h2, h4⟩
  obtain ⟨hln, ⟨rfl, h0⟩ | ⟨g, cap, cur, rfl, hb, hg, hnc, hm, hs, ht⟩⟩ := ho
  · rw [h0]
    exact ⟨none, 0, rfl, h0, fun h => absurd h (Nat.lt_irrefl 0), hl⟩
  · refine ⟨some ⟨g, 0, none⟩, cap, rfl, rfl, fun _ => ⟨g, rfl, (Array.getElem?_eq_some_iff.1 hg).1, fun j u hu => ?_⟩, hl⟩
    rw [cell_of_row w g _ cur 32 (0, 0) hg, ← hu, ← ht]
    have : j < L.length * 4 := by
      have := (List.getElem?_eq_some_iff.1 hu).1
      omega
    rw [List.getElem?_take, if_pos this]; simp

theorem MapsAt.mono' {w : World} {B B' : Nat} {A : Option Addr} {n : Nat} {M : List (Mp × Value × Value)} (h : MapsAt w B A n M) (hB : B ≤ B') : MapsAt w B' A n M :=
  ⟨h.len, fun hn => by
    obtain ⟨g, ha, hg, hc⟩ := h.cells hn
    exact ⟨g, ha, by omega, hc⟩, fun x hx => by
    obtain ⟨A, c, A', c', h1, h2, h3, h4⟩ := h.lists x hx
    exact ⟨A, c, A', c', h1, h2, h3.mono hB, h4.mono hB⟩⟩
theorem orow_cell {w : World} {base : Nat} {e : TypeId} {v : Value} {n size : Nat} {xs : List Value} (h : w.ownsRow base e size v n xs) (hn : 0 < n) : ∃ g c, v = .slice (some ⟨g, 0, none⟩) n c ∧ g < w.heap.size ∧ ∀ (j : Nat) u, xs[j]? = some u → w.cell? ⟨g, j, none⟩ = some u := by
  obtain ⟨hl, ⟨rfl, rfl⟩ | ⟨g, cap, cur, rfl, hb, hg, hnc, hm, hs, ht⟩⟩ := h
  · omega
  · refine ⟨g, cap, rfl, (Array.getElem?_eq_some_iff.1 hg).1, fun j u hu => ?_⟩
    rw [cell_of_row w g _ cur e (0, 0) hg, ← hu, ← ht]
    have : j < n * size := by
      have := (List.getElem?_eq_some_iff.1 hu).1
      omega
    rw [List.getElem?_take, if_pos this]; simp
/-! ### what is read is good -/
theorem nextS_good {xs : List Int} {ps : List Cst} {s s' : St} {v : VT} (h : nextS xs ps s = (some v, s')) : GoodV ps v := by
  unfold nextS at h
  simp only at h
  split at h
  · rename_i ht
    simp only [Prod.mk.injEq] at h
    obtain ⟨h1, _⟩ := h
    split at h1
    · cases h1
    · cases h1
      exact .inl ⟨by simpa using ht, rfl⟩
  · split at h
    · simp only [Prod.mk.injEq] at h
      obtain ⟨h1, _⟩ := h
      split at h1
      · cases h1
      · rename_i hh
        cases h1
        refine .inr (.inl ⟨rfl, ?_⟩)
        simp only [Bool.or_eq_true, not_or, Bool.not_eq_true, Option.isNone_eq_false_iff] at hh
        exact hh.2
    · split at h
      · simp only [Prod.mk.injEq] at h
        obtain ⟨h1, _⟩ := h
        split at h1
        · cases h1
        · cases h1
          exact .inr (.inr rfl)
      · cases h
theorem typesS_good {xs : List Int} {ps : List Cst} : ∀ (n : Nat) (s : St) (l : List VT) (s' : St), typesS xs ps n s = (some l, s') → ∀ v ∈ l, GoodV ps v := by
  intro n
  induction n with
  | zero => intro s l s' h v hv; cases h; cases hv
  | succ n ih =>
    intro s l s' h v hv
    unfold typesS at h
    split at h
    · cases h
    · rename_i h1
      split at h
      · cases h
      · rename_i h2
        cases h
        rcases List.mem_cons.1 hv with rfl | hv
        · exact nextS_good h1
        · exact ih _ _ _ h2 v hv
theorem entryS_good {xs : List Int} {ps : List Cst} (hb : IsBytes xs) {s s' : St} {m : Mp} (h : entryS xs ps s = (some m, s')) : GoodM ps m := by
  have ht := rd1_bd hb s
  unfold entryS at h
  simp only at h
  generalize rdN xs s 1 = t at *
  generalize rdS xs s 1 = s1 at *
  split at h
  · cases h
  rename_i hn
  generalize hD : deltaS xs t s1 = D at *
  generalize hLo : localsS xs t D.2 = Lo at *
  generalize hT1 : typesS xs ps Lo.1.toNat Lo.2 = T1 at *
  generalize hOp : operandsS xs t T1.2 = Op at *
  generalize hT2 : typesS xs ps Op.1.toNat Op.2 = T2 at *
  obtain ⟨a1, b1⟩ := T1
  obtain ⟨a2, b2⟩ := T2
  cases a1 with
  | none => cases h
  | some l1 =>
    cases a2 with
    | none => cases h
    | some l2 =>
      simp only [Prod.mk.injEq] at h
      obtain ⟨h, -⟩ := h
      split at h
      · cases h
      cases h
      have l1l := typesS_snoc _ _ _ _ _ _ hT1
      have l2l := typesS_snoc _ _ _ _ _ _ hT2
      have hd : 0 ≤ D.1 ∧ D.1 ≤ 65535 := by
        rw [← hD]; unfold deltaS
        split
        · exact ⟨by simp only; omega, by simp only; omega⟩
        · split
          · exact ⟨by simp only; omega, by simp only; omega⟩
          · have := rd2_bd hb s1
            exact ⟨by simp only; omega, by simp only; omega⟩
      have hlo : Lo.1 ≤ 65536 := by
        rw [← hLo]; unfold localsS
        split
        · simp only; omega
        · split
          · have := rd2_bd hb D.2
            simp only; omega
          · simp only; omega
      have hop : Op.1 ≤ 65536 := by
        rw [← hOp]; unfold operandsS
        split
        · simp only; omega
        · split
          · have := rd2_bd hb b1
            simp only; omega
          · simp only; omega
      refine ⟨by simp only; omega, hd, typesS_good _ _ _ _ hT1, typesS_good _ _ _ _ hT2, ?_, by simp only; omega, by simp only; omega⟩
      by_cases hc : (64 ≤ t ∧ t ≤ 127) ∨ t = 247 ∨ t = 255
      · exact .inr hc
      · left
        have : Op.1 = 0 := by
          rw [← hOp]; unfold operandsS
          rw [if_neg (by omega), if_neg (by omega)]
        rw [this] at l2l
        exact List.eq_nil_of_length_eq_zero l2l
theorem entriesS_good {xs : List Int} {ps : List Cst} (hb : IsBytes xs) : ∀ (n : Nat) (s : St) (l : List Mp) (s' : St), entriesS xs ps n s = (some l, s') → l.length = n ∧ ∀ v ∈ l, GoodM ps v := by
  intro n
  induction n with
  | zero => intro s l s' h; cases h; exact ⟨rfl, fun v hv => by cases hv⟩
  | succ n ih =>
    intro s l s' h
    unfold entriesS at h
    split at h
    · cases h
    · rename_i h1
      split at h
      · cases h
      · rename_i h2
        cases h
        obtain ⟨i1, i2⟩ := ih _ _ _ h2
        refine ⟨by simp [i1], fun v hv => ?_⟩
        rcases List.mem_cons.1 hv with rfl | hv
        · exact entryS_good hb h1
        · exact i2 v hv
theorem mapsI_good {xs : List Int} {ps : List Cst} (hb : IsBytes xs) {l : List Mp} (h : mapsI xs ps = some l) : l.length ≤ 4096 ∧ ∀ v ∈ l, GoodM ps v := by
  unfold mapsI at h
  simp only at h
  split at h
  · cases h
  · have := rd2_bd hb (0, false)
    split at h
    · rename_i hx
      split at h
      · cases h
      · cases h
        obtain ⟨h1, h2⟩ := entriesS_good hb _ _ _ _ hx
        exact ⟨by omega, h2⟩
    · cases h
end Go.Proofs.Ytlgknednfgpgfaa
