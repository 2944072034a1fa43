/- Texts of one stage, merged. Nothing is claimed here. -/
import Derived.Test.YtdhalpmgfmbcgaaDoorPackE
import Derived.Laws.MakeOwn
namespace Go.Proofs.YtdhalpmgfmbcgaaDoor
open Go.RowKit

theorem constinfo : (Tryd.prog.info? 44).map (fun i => (i.zero, i.size, i.bytes)) = some (some (.agg #[.int .i64 0, .string ⟨#[]⟩, .int .i64 0, .int .i64 0, .int .i64 0]), 5, 48) := by kernel_rfl
theorem made_c (n : Nat) : madeCells (Value.agg #[.int .i64 0, .string ⟨#[]⟩, .int .i64 0, .int .i64 0, .int .i64 0]).cells (n * 5) = (ccells (List.replicate n noC)).toArray := by
  apply Array.toList_inj.1
  unfold madeCells
  apply List.ext_getElem?
  intro p
  by_cases h : p < n * 5
  · have hp : p = p / 5 * 5 + p % 5 := by omega
    have h1 := ccells_at (List.replicate n noC) (p / 5) (p % 5) (by simp; omega) (by omega)
    have h2 : (List.replicate n noC).getD (p / 5) noC = noC := by
      have : p / 5 < n := by omega
      simp [List.getD, this]
    rw [← hp, h2] at h1
    show ((Array.range (n * 5)).map _).toList[p]? = (ccells (List.replicate n noC))[p]?
    rw [h1]
    have h3 : p % 5 = 0 ∨ p % 5 = 1 ∨ p % 5 = 2 ∨ p % 5 = 3 ∨ p % 5 = 4 := by omega
    rcases h3 with h3 | h3 | h3 | h3 | h3 <;> simp [h, Value.cells, h3, Cst.cells, noC] <;> rfl
  · have h1 : (ccells (List.replicate n noC)).length = n * 5 := by rw [ccells_len, List.length_replicate]
    show ((Array.range (n * 5)).map _).toList[p]? = (ccells (List.replicate n noC))[p]?
    rw [List.getElem?_eq_none (l := ccells _) (by omega)]
    simp [h]
/-- What a pool is told as. -/
def PoolTold (o : Option (List Cst × Nat)) (r base : Nat) (A : Option Addr) (c : Nat) (xs : List Int) (k : Nat) (w : World) (e : Ending) (w' : World) : Prop :=
  w.grownBy w' (some r) ∧ ((o = none ∧ e = .returned (.tuple #[.slice none 0 0, .bool false])) ∨
    ∃ ps m A', o = some (ps, m) ∧ e = .returned (.tuple #[.slice A' ps.length ps.length, .bool true]) ∧ RdC w' w'.heap.size A' ps.length ps ∧ Ref w' r base A c xs (k + m) false ∧ CWf ps)
theorem grown_set {a w : World} {r g : Nat} (h : a.grownBy w (some r)) (hg : a.heap.size ≤ g) (i : Nat) (v : Value) : a.grownBy (w.setCell ⟨g, i, none⟩ v) (some r) :=
  ⟨h.os, h.tape, h.output, by simpa [World.setCell] using h.size, fun k hk hne => (Below.heap_setCell w ⟨g, i, none⟩ v k (by show k ≠ g; omega)).trans (h.block k hk hne)⟩
theorem ref_set {w : World} {r base : Nat} {A : Option Addr} {c : Nat} {xs : List Int} {k : Nat} {bad : Bool} {g : Nat} {cs : List Value} (h : Ref w r base A c xs k bad) (hg : At w g 44 cs) (i : Nat) (v : Value) : Ref (w.setCell ⟨g, i, none⟩ v) r base A c xs k bad :=
  h.grown (only_set v) (by simpa using (h.1.ne hg (by decide))) (fun g' t cs' he ha => by
    cases he
    intro ht
    unfold At at hg ha
    rw [hg] at ha
    simp only [Option.some.injEq, Obj.cells.injEq] at ha
    exact absurd (ha.2.1.trans ht) (by decide)) (fun g' he => by cases he; exact ⟨_, _, hg⟩)

theorem rel_one {n i kk k0 sz : Nat} {L xs : List Int} {d : List Cst} {e : Cst} (hi : i < n) (hk : k0 ≤ kk) (hr : entries (n - 1) L = (entries (n - i) (xs.drop kk)).map fun x => (d ++ x.1, (kk - k0) + x.2))
    (he : entry1 (xs.drop kk) = some (e, sz)) (h5 : e.tag ≠ 5) : entries (n - 1) L = (entries (n - (i + 1)) (xs.drop (kk + sz))).map fun x => ((d ++ [e]) ++ x.1, (kk + sz - k0) + x.2) := by
  rw [hr, show n - i = (n - (i + 1)) + 1 by omega, entries_one he h5, List.drop_drop, Option.map_map]
  congr 1
  funext x
  simp; omega
theorem rel_long {n i kk k0 sz : Nat} {L xs : List Int} {d : List Cst} {e : Cst} (hi : i + 1 < n) (hk : k0 ≤ kk) (hr : entries (n - 1) L = (entries (n - i) (xs.drop kk)).map fun x => (d ++ x.1, (kk - k0) + x.2))
    (he : entry1 (xs.drop kk) = some (e, sz)) (h5 : e.tag = 5) : entries (n - 1) L = (entries (n - (i + 2)) (xs.drop (kk + sz))).map fun x => ((d ++ [e, noC]) ++ x.1, (kk + sz - k0) + x.2) := by
  rw [hr, show n - i = (n - (i + 2)) + 2 by omega, entries_long he h5, List.drop_drop, Option.map_map]
  congr 1
  funext x
  simp; omega
theorem rel_none {n i kk k0 : Nat} {L xs : List Int} {d : List Cst} (hi : i < n) (hr : entries (n - 1) L = (entries (n - i) (xs.drop kk)).map fun x => (d ++ x.1, (kk - k0) + x.2))
    (he : entry1 (xs.drop kk) = none) : entries (n - 1) L = none := by
  rw [hr, show n - i = (n - (i + 1)) + 1 by omega, entries_none he]; rfl
theorem rel_last {n i kk k0 sz : Nat} {L xs : List Int} {d : List Cst} {e : Cst} (hi : i < n) (hl : n ≤ i + 1) (hr : entries (n - 1) L = (entries (n - i) (xs.drop kk)).map fun x => (d ++ x.1, (kk - k0) + x.2))
    (he : entry1 (xs.drop kk) = some (e, sz)) (h5 : e.tag = 5) : entries (n - 1) L = none := by
  rw [hr, show n - i = 1 by omega, entries_last he h5]; rfl
theorem cut_c (done : List Cst) {n i : Nat} (hi : i < n) : ccells (done ++ List.replicate (n - i) noC) = ccells done ++ (.int .i64 0 :: .string ⟨#[]⟩ :: .int .i64 0 :: .int .i64 0 :: .int .i64 0 :: ccells (List.replicate (n - (i + 1)) noC)) := by
  rw [ccells_app, show n - i = (n - (i + 1)) + 1 by omega, List.replicate_succ, ccells_cons]; rfl
theorem join_c (done : List Cst) (e : Cst) (m : Nat) : ccells done ++ (.int .i64 e.tag :: .string (strOfNums e.text) :: .int .i64 e.num :: .int .i64 e.a :: .int .i64 e.b :: ccells (List.replicate m noC)) = ccells ((done ++ [e]) ++ List.replicate m noC) := by
  rw [ccells_app, ccells_app, ccells_cons, List.append_assoc, List.append_assoc]; rfl
theorem join_l (done : List Cst) (e : Cst) {n i : Nat} (hi : i + 1 < n) : ccells done ++ (.int .i64 e.tag :: .string (strOfNums e.text) :: .int .i64 e.num :: .int .i64 e.a :: .int .i64 e.b :: ccells (List.replicate (n - (i + 1)) noC)) = ccells ((done ++ [e, noC]) ++ List.replicate (n - (i + 2)) noC) := by
  rw [show n - (i + 1) = (n - (i + 2)) + 1 by omega, List.replicate_succ, ccells_cons, ccells_app, ccells_app, ccells_cons, ccells_cons]
  simp [Cst.cells, ccells]
theorem drop_one {xs : List Int} {k : Nat} (h : k < xs.length) : ∃ t, xs.drop k = t :: xs.drop (k + 1) ∧ be ((xs.drop k).take 1) = t := by
  refine ⟨xs[k], List.drop_eq_getElem_cons h, ?_⟩
  rw [List.drop_eq_getElem_cons h, List.take_succ_cons, List.take_zero]
  show 0 * 256 + xs[k] = xs[k]
  omega
theorem wrap32_sgn (v : Int) (h0 : 0 ≤ v) (h1 : v < 4294967296) : wrap32 v = sgn 32 v := by
  unfold wrap32 sgn
  split <;> omega
/-- Where the first loop stands. -/
def PoolRel (w : World) (r base : Nat) (A : Option Addr) (c : Nat) (xs : List Int) (k n gp : Nat) (iv : Value) (wr : World) : Prop :=
  ∃ (i kk : Nat) (d : List Cst), 1 ≤ i ∧ i ≤ n ∧ iv = .int .i64 i ∧ d.length = i ∧ k + 2 ≤ kk ∧ At wr gp 44 (ccells (d ++ List.replicate (n - i) noC)) ∧ Ref wr r base A c xs kk false ∧ w.grownBy wr (some r) ∧
    entries (n - 1) (xs.drop (k + 2)) = (entries (n - i) (xs.drop kk)).map (fun x => (d.drop 1 ++ x.1, (kk - (k + 2)) + x.2)) ∧ d.take 1 = [noC]
theorem next_one {w W : World} {r base : Nat} {A : Option Addr} {c : Nat} {xs : List Int} {k n gp i kk sz : Nat} {d : List Cst} {e : Cst} {iv : Value} (hiv : iv = .int .i64 ((i + 1 : Nat) : Int)) (hi1 : 1 ≤ i) (hlt : i < n) (hdl : d.length = i) (hkk : k + 2 ≤ kk)
    (hA : At W gp 44 (ccells d ++ (.int .i64 e.tag :: .string (strOfNums e.text) :: .int .i64 e.num :: .int .i64 e.a :: .int .i64 e.b :: ccells (List.replicate (n - (i + 1)) noC)))) (hR : Ref W r base A c xs (kk + sz) false) (hG : w.grownBy W (some r))
    (hr : entries (n - 1) (xs.drop (k + 2)) = (entries (n - i) (xs.drop kk)).map fun x => (d.drop 1 ++ x.1, (kk - (k + 2)) + x.2)) (he : entry1 (xs.drop kk) = some (e, sz)) (h5 : e.tag ≠ 5) (hd0 : d.take 1 = [noC]) : PoolRel w r base A c xs k n gp iv W :=
  ⟨i + 1, kk + sz, d ++ [e], by omega, by omega, hiv, by simp [hdl], by omega, by rw [← join_c]; exact hA, hR, hG, by
    rw [List.drop_append_of_le_length (by omega)]; exact rel_one hlt hkk hr he h5, by rw [List.take_append_of_le_length (by omega)]; exact hd0⟩
theorem next_long {w W : World} {r base : Nat} {A : Option Addr} {c : Nat} {xs : List Int} {k n gp i kk sz : Nat} {d : List Cst} {e : Cst} {iv : Value} (hiv : iv = .int .i64 ((i + 2 : Nat) : Int)) (hi1 : 1 ≤ i) (hlt : i + 1 < n) (hdl : d.length = i) (hkk : k + 2 ≤ kk)
    (hA : At W gp 44 (ccells d ++ (.int .i64 e.tag :: .string (strOfNums e.text) :: .int .i64 e.num :: .int .i64 e.a :: .int .i64 e.b :: ccells (List.replicate (n - (i + 1)) noC)))) (hR : Ref W r base A c xs (kk + sz) false) (hG : w.grownBy W (some r))
    (hr : entries (n - 1) (xs.drop (k + 2)) = (entries (n - i) (xs.drop kk)).map fun x => (d.drop 1 ++ x.1, (kk - (k + 2)) + x.2)) (he : entry1 (xs.drop kk) = some (e, sz)) (h5 : e.tag = 5) (hd0 : d.take 1 = [noC]) : PoolRel w r base A c xs k n gp iv W :=
  ⟨i + 2, kk + sz, d ++ [e, noC], by omega, by omega, hiv, by simp [hdl], by omega, by rw [← join_l d e hlt]; exact hA, hR, hG, by
    rw [List.drop_append_of_le_length (by omega)]; exact rel_long hlt hkk hr he h5, by rw [List.take_append_of_le_length (by omega)]; exact hd0⟩
theorem wrap64_sgn (v : Int) (h0 : 0 ≤ v) (h1 : v < 4294967296) : wrap64 (sgn 32 v) = sgn 32 v := by
  unfold wrap64 sgn
  split <;> omega
theorem okd_yes {xs : List Int} {k : Nat} {m : Nat} (h : k + m ≤ xs.length) : okd xs k false m = true := by simp [okd]; omega
theorem okd_no {xs : List Int} {k : Nat} {m : Nat} (h : ¬ k + m ≤ xs.length) : okd xs k false m = false := by simp [okd]; omega

set_option maxHeartbeats 16000000 in
set_option maxRecDepth 100000 in
theorem rpool_any (r base : Nat) (A : Option Addr) (c : Nat) (xs : List Int) (k : Nat) (w : World) (h : Ref w r base A c xs k false) :
    Calls Tryd.prog 10 #[.pointer (some ⟨r, 0, none⟩)] w (PoolTold (pool (xs.drop k)) r base A c xs k w) := by
  obtain ⟨i0, hi0, iz0, iz1, iz2⟩ := info_parts constinfo
  have hxl := h.2.2.2.2.1
  have hkl := h.2.2.1
  have hxb := h.2.2.2.1
  have hrw := h.1.lt
  obtain ⟨D, hD⟩ : ∃ D, pool (xs.drop k) = D := ⟨_, rfl⟩
  rw [hD]
  have hdl : (xs.drop k).length = xs.length - k := List.length_drop
  by_cases h2 : k + 2 ≤ xs.length
  · have hN := rn_some r base A c xs k 2 w h (by decide) (by omega) (by decide)
    obtain ⟨n', hn'⟩ : ∃ n' : Int, be ((xs.drop k).take 2) = n' := ⟨_, rfl⟩
    have hnr := be2_range (xs.drop k) (hxb.drop k)
    rw [hn'] at hnr
    have hN2 : Hid (Calls Tryd.prog 23 #[.pointer (some ⟨r, 0, none⟩), .int .i64 2] w fun e w' => e = .returned (.int .i64 n') ∧ Ref w' r base A c xs (k + 2) false ∧ w.grownBy w' (some r)) := by
      rw [← hn']; exact hN
    have hP : pool (xs.drop k) = if n' < 1 ∨ 1000 < n' then none else match entries (n'.toNat - 1) (xs.drop (k + 2)) with
      | none => none
      | some (es, m) => if (List.range n'.toNat).all (fun i => i == 0 || holdsAt (noC :: es) i) then some (noC :: es, 2 + m) else none := by
      unfold pool
      rw [if_neg (by omega), beL_be, hn', List.drop_drop]
      rfl
    rw [hP] at hD
    clear hP hN
    by_cases hn1 : n' < 1 ∨ 1000 < n'
    · have HV : Hid (D = none) := hide (by rw [← hD, if_pos hn1])
      clear hD
      rcases (by omega : n' < 1 ∨ (¬ n' < 1 ∧ 1000 < n')) with hn1 | ⟨hn1, hn2⟩
      all_goals
        go_enter Tryd.func10, Tryd.ntmps10
        go_wp2_with fail
        refine hN2.out.mono ?_
        rintro e w1 ⟨rfl, R1, g1⟩
        have rb : w1.cell? ⟨r, 2, none⟩ = some (.bool false) := R1.1.cell 2
        have G1 := hide g1
        clear R1 g1
        go_wp2_with fail
        go_ret2
        exact ⟨G1.out, .inl ⟨HV.out, rfl⟩⟩
    · rw [if_neg hn1] at hD
      obtain ⟨n, rfl⟩ : ∃ n : Nat, n' = n := ⟨n'.toNat, by omega⟩
      rw [Int.toNat_natCast] at hD
      have hn2 : ¬ (n : Int) < 1 := by omega
      have hn3 : ¬ (1000 : Int) < n := by omega
      have HD := hide hD
      clear hD hn1 hdl
      have hmk : ∀ W : World, (Instr.makeSlice 30 (.int .i64 (n : Int)) (.int .i64 (n : Int))).run Tryd.prog W = .ok (.slice (some ⟨W.heap.size, 0, none⟩) n n) (W.alloc (.cells (ccells (List.replicate n noC)).toArray 44)) := fun W => by
        have := run_make (P := Tryd.prog) W 30 44 i0 _ Tryd.underlying30 hi0 iz0 .i64 .i64 (n : Int) (n : Int) (by omega) (by omega) (by rw [iz2]; omega) (by omega)
        rw [this, iz1, Int.toNat_natCast, made_c]
      go_enter Tryd.func10, Tryd.ntmps10
      go_wp2_with fail
      refine hN2.out.mono ?_
      rintro e w1 ⟨rfl, R1, g1⟩
      have rb : w1.cell? ⟨r, 2, none⟩ = some (.bool false) := R1.1.cell 2
      have RR1 := hide R1
      have G1 := hide g1
      have hz1 := g1.size
      clear R1 g1 hN2
      go_wp2_with fail
      have hgn : w1.heap.size ≠ r := by omega
      have hgw : w.heap.size ≤ w1.heap.size := hz1
      have RA := hide (Ref.grown RR1.out (World.grownBy_alloc w1 (.cells (ccells (List.replicate n noC)).toArray 44) none) (by simp) (by simp) (by simp))
      have AA : Hid (At (w1.alloc (.cells (ccells (List.replicate n noC)).toArray 44)) w1.heap.size 44 (ccells ([noC] ++ List.replicate (n - 1) noC))) := hide (by
        have e : [noC] ++ List.replicate (n - 1) noC = List.replicate n noC := by
          show noC :: List.replicate (n - 1) noC = _
          rw [← List.replicate_succ]; congr 1; omega
        rw [e]; exact At.new _ _ _)
      have GA := hide (grown_trans G1.out (grown_below (below_grown (World.grownBy_alloc w1 (.cells (ccells (List.replicate n noC)).toArray 44) none)) (some r)))
      have hD0 : Hid (entries (n - 1) (xs.drop (k + 2)) = none → D = none) := hide (fun e => by have := HD.out; rw [e] at this; exact this.symm)
      clear RR1 G1 hmk rb
      generalize w1.alloc (.cells (ccells (List.replicate n noC)).toArray 44) = wa at *
      generalize w1.heap.size = gp at *
      clear hn' hz1
      have Hx := hide h
      clear h
      go_loopw [6] (fun iv wr => PoolRel w r base A c xs k n gp iv wr) (fun iv _ => n - (intOf iv).toNat)
      case atStart => exact ⟨1, k + 2, [noC], Nat.le_refl _, by omega, rfl, rfl, Nat.le_refl _, AA.out, RA.out, GA.out, by simp, rfl⟩
      case round =>
        obtain ⟨i, kk, d, hi1, hin, rfl, hdl, hkk, hat, hR, hg, hrel, hd0⟩ := hrel
        by_cases hlt : i < n
        · rw [cut_c d hlt] at hat
          have hkx := hR.2.2.1
          have HA := hide hat
          have HR := hide hR
          have HG := hide hg
          have HL := hide hrel
          clear hat hR hg hrel AA RA GA
          by_cases h1 : kk + 1 ≤ xs.length
          · obtain ⟨t, ht1, ht2⟩ := drop_one (xs := xs) (k := kk) (by omega)
            have hN := rn_some r base A c xs kk 1 wr HR.out (by decide) (by omega) (by decide)
            rw [show (1 : Int).toNat = 1 from rfl, ht2] at hN
            have HN := hide hN
            have HT := hide ht1
            have ht3 : 0 ≤ t ∧ t < 256 := hxb t (List.mem_of_mem_drop (i := kk) (by rw [ht1]; simp))
            have hrl : (xs.drop (kk + 1)).length = xs.length - (kk + 1) := List.length_drop
            clear hN ht1 ht2
            by_cases t1 : t = 1
            · subst t1
              by_cases h4 : kk + 3 ≤ xs.length
              · by_cases h6 : kk + 3 + (be ((xs.drop (kk + 1)).take 2)).toNat ≤ xs.length
                · have HE0 := (congrArg entry1 HT.out).trans (e1_yes (xs.drop (kk + 1)) (by omega) (by omega))
                  rw [List.drop_drop] at HE0
                  have HE := hide HE0
                  clear HE0
                  have hm := be2_range (xs.drop (kk + 1)) (hxb.drop _)

                  go_wp2_with fail
                  refine HN.out.mono ?_
                  rintro e w2 ⟨rfl, R2, g2⟩
                  have A2 := HA.out.grown g2 (by simpa using hgn)
                  have f0 := (at_cell A2 hdl).2.2.2.2.2.1
                  have c0 := (at_cell A2 hdl).1
                  have A3 := hide (at_put0 A2 hdl (.int .i64 1))
                  have R3 := hide (ref_set R2 A2 (i * 5) (.int .i64 1))
                  have G3 := hide (grown_set (grown_trans HG.out g2) hgw (i * 5) (.int .i64 1))
                  clear R2 g2 A2 HA HR HG HN
                  -- obtain ⟨W3, hW3⟩ : ∃ W, Hid (W = w2.setCell ⟨gp, i * 5, none⟩ (.int .i64 1)) := ⟨_, rfl⟩
                  have hM := rn_some r base A c xs (kk + 1) 2 _ R3.out (by decide) (by omega) (by decide)
                  rw [show (2 : Int).toNat = 2 from rfl] at hM
                  have HM := hide hM
                  clear hM
                  generalize be ((xs.drop (kk + 1)).take 2) = m at *
                  go_wp2_with fail
                  refine HM.out.mono ?_
                  rintro e w4 ⟨rfl, R5q, w4g⟩
                  have A5q := (A3.out).grown w4g (by simpa using hgn)
                  have G5q := grown_trans (G3.out) w4g
                  have HS := hide (rs_some r base A c xs (kk + 1 + 2) m _ R5q (by omega) (by omega))
                  go_wp2_with fail
                  refine HS.out.mono ?_
                  rintro e w6 ⟨B, dd, rfl, hrd, R7q, w6g⟩
                  have A7q := A5q.grown w6g (by simpa using hgn)
                  have G7q := grown_trans G5q w6g
                  have hst := str_of (c := dd) hrd
                  have rbw6 : w6.cell? ⟨r, 2, none⟩ = some (.bool false) := R7q.1.cell 2
                  have cw61 := (at_cell A7q hdl).2.1
                  have fw61 := (at_cell A7q hdl).2.2.2.2.2.2.1
                  have A7 := hide (at_put A7q hdl 1 (.string (strOfNums ((xs.drop (kk + 1 + 2)).take m.toNat))))
                  have R7 := hide (ref_set R7q A7q (i * 5 + 1) (.string (strOfNums ((xs.drop (kk + 1 + 2)).take m.toNat))))
                  have G7 := hide (grown_set G7q hgw (i * 5 + 1) (.string (strOfNums ((xs.drop (kk + 1 + 2)).take m.toNat))))
                  clear R7q w6g A7q G7q R5q A5q G5q HM HS hrd
                  go_wp2_with fail
                  go_roundw
                  case rel => exact next_one (e := ⟨1, (xs.drop (kk + 1 + 2)).take m.toNat, 0, 0, 0⟩) (by go_num) hi1 hlt hdl hkk A7.out (by have := R7.out; rwa [show kk + 1 + 2 + m.toNat = kk + (3 + m.toNat) by omega] at this) G7.out HL.out HE.out (by show (1 : Int) ≠ 5; decide) hd0
                  case measure => simp [intOf]; omega
                · have HV := hide (hD0.out (rel_none hlt HL.out ((congrArg entry1 HT.out).trans (e1_lack (xs.drop (kk + 1)) (by omega) (by omega)))))
                  have hm := be2_range (xs.drop (kk + 1)) (hxb.drop _)

                  go_wp2_with fail
                  refine HN.out.mono ?_
                  rintro e w2 ⟨rfl, R2, g2⟩
                  have A2 := HA.out.grown g2 (by simpa using hgn)
                  have f0 := (at_cell A2 hdl).2.2.2.2.2.1
                  have c0 := (at_cell A2 hdl).1
                  have A3 := hide (at_put0 A2 hdl (.int .i64 1))
                  have R3 := hide (ref_set R2 A2 (i * 5) (.int .i64 1))
                  have G3 := hide (grown_set (grown_trans HG.out g2) hgw (i * 5) (.int .i64 1))
                  clear R2 g2 A2 HA HR HG HN
                  -- obtain ⟨W3, hW3⟩ : ∃ W, Hid (W = w2.setCell ⟨gp, i * 5, none⟩ (.int .i64 1)) := ⟨_, rfl⟩
                  have hM := rn_some r base A c xs (kk + 1) 2 _ R3.out (by decide) (by omega) (by decide)
                  rw [show (2 : Int).toNat = 2 from rfl] at hM
                  have HM := hide hM
                  clear hM
                  generalize be ((xs.drop (kk + 1)).take 2) = m at *
                  go_wp2_with fail
                  refine HM.out.mono ?_
                  rintro e w4 ⟨rfl, R5q, w4g⟩
                  have A5q := (A3.out).grown w4g (by simpa using hgn)
                  have G5q := grown_trans (G3.out) w4g
                  have HS := hide (rs_none r base A c xs (kk + 1 + 2) m false _ R5q (.inr (.inr (by omega))))
                  go_wp2_with fail
                  refine HS.out.mono ?_
                  rintro e w6 ⟨rfl, R7q, w6g⟩
                  have A7q := A5q.grown w6g (by simpa using hgn)
                  have G7q := grown_trans G5q w6g
                  have hst := fun cc => str_of (w := w6) (B := w6.heap.size) (A := none) (n := 0) (c := cc) (xs := []) (Rd.nil _ _ _)
                  have rbw6 : w6.cell? ⟨r, 2, none⟩ = some (.bool true) := R7q.1.cell 2
                  have cw61 := (at_cell A7q hdl).2.1
                  have fw61 := (at_cell A7q hdl).2.2.2.2.2.2.1
                  have A7 := hide (at_put A7q hdl 1 (.string (strOfNums [])))
                  have R7 := hide (ref_set R7q A7q (i * 5 + 1) (.string (strOfNums [])))
                  have G7 := hide (grown_set G7q hgw (i * 5 + 1) (.string (strOfNums [])))
                  clear R7q w6g A7q G7q R5q A5q G5q HM HS

                  go_wp2_with fail
                  go_ret2
                  exact ⟨G7.out, .inl ⟨HV.out, rfl⟩⟩
              · have HV := hide (hD0.out (rel_none hlt HL.out ((congrArg entry1 HT.out).trans (e1_short (xs.drop (kk + 1)) (by omega)))))

                go_wp2_with fail
                refine HN.out.mono ?_
                rintro e w2 ⟨rfl, R2, g2⟩
                have A2 := HA.out.grown g2 (by simpa using hgn)
                have f0 := (at_cell A2 hdl).2.2.2.2.2.1
                have c0 := (at_cell A2 hdl).1
                have A3 := hide (at_put0 A2 hdl (.int .i64 1))
                have R3 := hide (ref_set R2 A2 (i * 5) (.int .i64 1))
                have G3 := hide (grown_set (grown_trans HG.out g2) hgw (i * 5) (.int .i64 1))
                clear R2 g2 A2 HA HR HG HN
                -- obtain ⟨W3, hW3⟩ : ∃ W, Hid (W = w2.setCell ⟨gp, i * 5, none⟩ (.int .i64 1)) := ⟨_, rfl⟩
                have HM := hide (rn_none r base A c xs (kk + 1) 2 false _ R3.out (.inr (by omega)))
                go_wp2_with fail
                refine HM.out.mono ?_
                rintro e w4 ⟨rfl, R5q, w4g⟩
                have A5q := (A3.out).grown w4g (by simpa using hgn)
                have G5q := grown_trans (G3.out) w4g
                have HS := hide (rs_none r base A c xs (kk + 1) 0 true _ R5q (.inl rfl))
                go_wp2_with fail
                refine HS.out.mono ?_
                rintro e w6 ⟨rfl, R7q, w6g⟩
                have A7q := A5q.grown w6g (by simpa using hgn)
                have G7q := grown_trans G5q w6g
                have hst := fun cc => str_of (w := w6) (B := w6.heap.size) (A := none) (n := 0) (c := cc) (xs := []) (Rd.nil _ _ _)
                have rbw6 : w6.cell? ⟨r, 2, none⟩ = some (.bool true) := R7q.1.cell 2
                have cw61 := (at_cell A7q hdl).2.1
                have fw61 := (at_cell A7q hdl).2.2.2.2.2.2.1
                have A7 := hide (at_put A7q hdl 1 (.string (strOfNums [])))
                have R7 := hide (ref_set R7q A7q (i * 5 + 1) (.string (strOfNums [])))
                have G7 := hide (grown_set G7q hgw (i * 5 + 1) (.string (strOfNums [])))
                clear R7q w6g A7q G7q R5q A5q G5q HM HS

                go_wp2_with fail
                go_ret2
                exact ⟨G7.out, .inl ⟨HV.out, rfl⟩⟩
            · by_cases t3 : t = 3
              · subst t3
                by_cases h4 : kk + 5 ≤ xs.length
                · have HE := hide ((congrArg entry1 HT.out).trans (e3_yes (xs.drop (kk + 1)) (by omega)))

                  go_wp2_with fail
                  refine HN.out.mono ?_
                  rintro e w2 ⟨rfl, R2, g2⟩
                  have A2 := HA.out.grown g2 (by simpa using hgn)
                  have f0 := (at_cell A2 hdl).2.2.2.2.2.1
                  have c0 := (at_cell A2 hdl).1
                  have A3 := hide (at_put0 A2 hdl (.int .i64 3))
                  have R3 := hide (ref_set R2 A2 (i * 5) (.int .i64 3))
                  have G3 := hide (grown_set (grown_trans HG.out g2) hgw (i * 5) (.int .i64 3))
                  clear R2 g2 A2 HA HR HG HN
                  -- obtain ⟨W3, hW3⟩ : ∃ W, Hid (W = w2.setCell ⟨gp, i * 5, none⟩ (.int .i64 3)) := ⟨_, rfl⟩
                  have hv := be_range ((xs.drop (kk + 1)).take 4) ((hxb.drop _).take _)
                  have hvl : ((xs.drop (kk + 1)).take 4).length = 4 := by rw [List.length_take]; omega
                  rw [hvl] at hv
                  have hv1 := hv.1
                  have hv2 : be ((xs.drop (kk + 1)).take 4) < 4294967296 := hv.2
                  clear hv hvl
                  have hM := rn_some r base A c xs (kk + 1) 4 _ R3.out (by decide) (by omega) (by decide)
                  rw [show (4 : Int).toNat = 4 from rfl] at hM
                  have HM := hide hM
                  clear hM
                  generalize be ((xs.drop (kk + 1)).take 4) = v at *
                  go_wp2_with fail
                  refine HM.out.mono ?_
                  rintro e w4 ⟨rfl, R5q, w4g⟩
                  have A5q := (A3.out).grown w4g (by simpa using hgn)
                  have G5q := grown_trans (G3.out) w4g
                  have hs := wrap32_sgn v hv1 hv2
                  have hs2 := wrap64_sgn v hv1 hv2
                  have rbw4 : w4.cell? ⟨r, 2, none⟩ = some (.bool false) := R5q.1.cell 2
                  have cw42 := (at_cell A5q hdl).2.2.1
                  have fw42 := (at_cell A5q hdl).2.2.2.2.2.2.2.1
                  have A5 := hide (at_put A5q hdl 2 (.int .i64 (sgn 32 v)))
                  have R5 := hide (ref_set R5q A5q (i * 5 + 2) (.int .i64 (sgn 32 v)))
                  have G5 := hide (grown_set G5q hgw (i * 5 + 2) (.int .i64 (sgn 32 v)))
                  clear R5q w4g A5q G5q A3 R3 G3 HM
                  go_wp2_with fail
                  go_roundw
                  case rel => exact next_one (e := ⟨3, [], sgn 32 v, 0, 0⟩) (by go_num) hi1 hlt hdl hkk A5.out R5.out G5.out HL.out HE.out (by show (3 : Int) ≠ 5; decide) hd0
                  case measure => simp [intOf]; omega
                · have HV := hide (hD0.out (rel_none hlt HL.out ((congrArg entry1 HT.out).trans (e3_lack (xs.drop (kk + 1)) (by omega)))))

                  go_wp2_with fail
                  refine HN.out.mono ?_
                  rintro e w2 ⟨rfl, R2, g2⟩
                  have A2 := HA.out.grown g2 (by simpa using hgn)
                  have f0 := (at_cell A2 hdl).2.2.2.2.2.1
                  have c0 := (at_cell A2 hdl).1
                  have A3 := hide (at_put0 A2 hdl (.int .i64 3))
                  have R3 := hide (ref_set R2 A2 (i * 5) (.int .i64 3))
                  have G3 := hide (grown_set (grown_trans HG.out g2) hgw (i * 5) (.int .i64 3))
                  clear R2 g2 A2 HA HR HG HN
                  -- obtain ⟨W3, hW3⟩ : ∃ W, Hid (W = w2.setCell ⟨gp, i * 5, none⟩ (.int .i64 3)) := ⟨_, rfl⟩
                  have HM := hide (rn_none r base A c xs (kk + 1) 4 false _ R3.out (.inr (by omega)))
                  go_wp2_with fail
                  refine HM.out.mono ?_
                  rintro e w4 ⟨rfl, R5q, w4g⟩
                  have A5q := (A3.out).grown w4g (by simpa using hgn)
                  have G5q := grown_trans (G3.out) w4g
                  have rbw4 : w4.cell? ⟨r, 2, none⟩ = some (.bool true) := R5q.1.cell 2
                  have cw42 := (at_cell A5q hdl).2.2.1
                  have fw42 := (at_cell A5q hdl).2.2.2.2.2.2.2.1
                  have A5 := hide (at_put A5q hdl 2 (.int .i64 0))
                  have R5 := hide (ref_set R5q A5q (i * 5 + 2) (.int .i64 0))
                  have G5 := hide (grown_set G5q hgw (i * 5 + 2) (.int .i64 0))
                  clear R5q w4g A5q G5q A3 R3 G3 HM

                  go_wp2_with fail
                  go_ret2
                  exact ⟨G5.out, .inl ⟨HV.out, rfl⟩⟩
              · by_cases t5 : t = 5
                · subst t5
                  by_cases h4 : kk + 9 ≤ xs.length
                  · by_cases hl : i + 1 < n
                    · have HE := hide ((congrArg entry1 HT.out).trans (e5_yes (xs.drop (kk + 1)) (by omega)))

                      go_wp2_with fail
                      refine HN.out.mono ?_
                      rintro e w2 ⟨rfl, R2, g2⟩
                      have A2 := HA.out.grown g2 (by simpa using hgn)
                      have f0 := (at_cell A2 hdl).2.2.2.2.2.1
                      have c0 := (at_cell A2 hdl).1
                      have A3 := hide (at_put0 A2 hdl (.int .i64 5))
                      have R3 := hide (ref_set R2 A2 (i * 5) (.int .i64 5))
                      have G3 := hide (grown_set (grown_trans HG.out g2) hgw (i * 5) (.int .i64 5))
                      clear R2 g2 A2 HA HR HG HN
                      -- obtain ⟨W3, hW3⟩ : ∃ W, Hid (W = w2.setCell ⟨gp, i * 5, none⟩ (.int .i64 5)) := ⟨_, rfl⟩
                      have hM := rn_eight r base A c xs (kk + 1) _ R3.out (by omega)
                      have HM := hide hM
                      clear hM
                      generalize be ((xs.drop (kk + 1)).take 8) = v at *
                      go_wp2_with fail
                      refine HM.out.mono ?_
                      rintro e w4 ⟨rfl, R5q, w4g⟩
                      have A5q := (A3.out).grown w4g (by simpa using hgn)
                      have G5q := grown_trans (G3.out) w4g
                      have rbw4 : w4.cell? ⟨r, 2, none⟩ = some (.bool false) := R5q.1.cell 2
                      have cw42 := (at_cell A5q hdl).2.2.1
                      have fw42 := (at_cell A5q hdl).2.2.2.2.2.2.2.1
                      have A5 := hide (at_put A5q hdl 2 (.int .i64 (sgn 64 v)))
                      have R5 := hide (ref_set R5q A5q (i * 5 + 2) (.int .i64 (sgn 64 v)))
                      have G5 := hide (grown_set G5q hgw (i * 5 + 2) (.int .i64 (sgn 64 v)))
                      clear R5q w4g A5q G5q A3 R3 G3 HM
                      go_wp2_with fail
                      go_roundw
                      case rel => exact next_long (e := ⟨5, [], sgn 64 v, 0, 0⟩) (by go_num) hi1 hl hdl hkk A5.out R5.out G5.out HL.out HE.out rfl hd0
                      case measure => simp [intOf]; omega
                    · have HV := hide (hD0.out (rel_last hlt (by omega) HL.out ((congrArg entry1 HT.out).trans (e5_yes (xs.drop (kk + 1)) (by omega))) rfl))

                      go_wp2_with fail
                      refine HN.out.mono ?_
                      rintro e w2 ⟨rfl, R2, g2⟩
                      have A2 := HA.out.grown g2 (by simpa using hgn)
                      have f0 := (at_cell A2 hdl).2.2.2.2.2.1
                      have c0 := (at_cell A2 hdl).1
                      have A3 := hide (at_put0 A2 hdl (.int .i64 5))
                      have R3 := hide (ref_set R2 A2 (i * 5) (.int .i64 5))
                      have G3 := hide (grown_set (grown_trans HG.out g2) hgw (i * 5) (.int .i64 5))
                      clear R2 g2 A2 HA HR HG HN
                      -- obtain ⟨W3, hW3⟩ : ∃ W, Hid (W = w2.setCell ⟨gp, i * 5, none⟩ (.int .i64 5)) := ⟨_, rfl⟩
                      have hM := rn_eight r base A c xs (kk + 1) _ R3.out (by omega)
                      have HM := hide hM
                      clear hM
                      generalize be ((xs.drop (kk + 1)).take 8) = v at *
                      go_wp2_with fail
                      refine HM.out.mono ?_
                      rintro e w4 ⟨rfl, R5q, w4g⟩
                      have A5q := (A3.out).grown w4g (by simpa using hgn)
                      have G5q := grown_trans (G3.out) w4g
                      have rbw4 : w4.cell? ⟨r, 2, none⟩ = some (.bool false) := R5q.1.cell 2
                      have cw42 := (at_cell A5q hdl).2.2.1
                      have fw42 := (at_cell A5q hdl).2.2.2.2.2.2.2.1
                      have A5 := hide (at_put A5q hdl 2 (.int .i64 (sgn 64 v)))
                      have R5 := hide (ref_set R5q A5q (i * 5 + 2) (.int .i64 (sgn 64 v)))
                      have G5 := hide (grown_set G5q hgw (i * 5 + 2) (.int .i64 (sgn 64 v)))
                      clear R5q w4g A5q G5q A3 R3 G3 HM

                      go_wp2_with fail
                      go_ret2
                      exact ⟨G5.out, .inl ⟨HV.out, rfl⟩⟩
                  · have HV := hide (hD0.out (rel_none hlt HL.out ((congrArg entry1 HT.out).trans (e5_lack (xs.drop (kk + 1)) (by omega)))))
                    by_cases hl : i + 1 < n
                    all_goals
                      go_wp2_with fail
                      refine HN.out.mono ?_
                      rintro e w2 ⟨rfl, R2, g2⟩
                      have A2 := HA.out.grown g2 (by simpa using hgn)
                      have f0 := (at_cell A2 hdl).2.2.2.2.2.1
                      have c0 := (at_cell A2 hdl).1
                      have A3 := hide (at_put0 A2 hdl (.int .i64 5))
                      have R3 := hide (ref_set R2 A2 (i * 5) (.int .i64 5))
                      have G3 := hide (grown_set (grown_trans HG.out g2) hgw (i * 5) (.int .i64 5))
                      clear R2 g2 A2 HA HR HG HN
                      -- obtain ⟨W3, hW3⟩ : ∃ W, Hid (W = w2.setCell ⟨gp, i * 5, none⟩ (.int .i64 5)) := ⟨_, rfl⟩
                      have HM := hide (rn_none r base A c xs (kk + 1) 8 false _ R3.out (.inr (by omega)))
                      go_wp2_with fail
                      refine HM.out.mono ?_
                      rintro e w4 ⟨rfl, R5q, w4g⟩
                      have A5q := (A3.out).grown w4g (by simpa using hgn)
                      have G5q := grown_trans (G3.out) w4g
                      have rbw4 : w4.cell? ⟨r, 2, none⟩ = some (.bool true) := R5q.1.cell 2
                      have cw42 := (at_cell A5q hdl).2.2.1
                      have fw42 := (at_cell A5q hdl).2.2.2.2.2.2.2.1
                      have A5 := hide (at_put A5q hdl 2 (.int .i64 0))
                      have R5 := hide (ref_set R5q A5q (i * 5 + 2) (.int .i64 0))
                      have G5 := hide (grown_set G5q hgw (i * 5 + 2) (.int .i64 0))
                      clear R5q w4g A5q G5q A3 R3 G3 HM

                      go_wp2_with fail
                      go_ret2
                      exact ⟨G5.out, .inl ⟨HV.out, rfl⟩⟩
                · by_cases t7 : t = 7 ∨ t = 8
                  · rcases t7 with rfl | rfl
                    · by_cases h4 : kk + 3 ≤ xs.length
                      · have HE := hide ((congrArg entry1 HT.out).trans (e7_yes 7 (by decide) (xs.drop (kk + 1)) (by omega)))

                        go_wp2_with fail
                        refine HN.out.mono ?_
                        rintro e w2 ⟨rfl, R2, g2⟩
                        have A2 := HA.out.grown g2 (by simpa using hgn)
                        have f0 := (at_cell A2 hdl).2.2.2.2.2.1
                        have c0 := (at_cell A2 hdl).1
                        have A3 := hide (at_put0 A2 hdl (.int .i64 7))
                        have R3 := hide (ref_set R2 A2 (i * 5) (.int .i64 7))
                        have G3 := hide (grown_set (grown_trans HG.out g2) hgw (i * 5) (.int .i64 7))
                        clear R2 g2 A2 HA HR HG HN
                        -- obtain ⟨W3, hW3⟩ : ∃ W, Hid (W = w2.setCell ⟨gp, i * 5, none⟩ (.int .i64 7)) := ⟨_, rfl⟩
                        have hM := rn_some r base A c xs (kk + 1) 2 _ R3.out (by decide) (by omega) (by decide)
                        rw [show (2 : Int).toNat = 2 from rfl] at hM
                        have HM := hide hM
                        clear hM
                        generalize be ((xs.drop (kk + 1)).take 2) = v at *
                        go_wp2_with fail
                        refine HM.out.mono ?_
                        rintro e w4 ⟨rfl, R5q, w4g⟩
                        have A5q := (A3.out).grown w4g (by simpa using hgn)
                        have G5q := grown_trans (G3.out) w4g
                        have rbw4 : w4.cell? ⟨r, 2, none⟩ = some (.bool false) := R5q.1.cell 2
                        have cw43 := (at_cell A5q hdl).2.2.2.1
                        have fw43 := (at_cell A5q hdl).2.2.2.2.2.2.2.2.1
                        have A5 := hide (at_put A5q hdl 3 (.int .i64 v))
                        have R5 := hide (ref_set R5q A5q (i * 5 + 3) (.int .i64 v))
                        have G5 := hide (grown_set G5q hgw (i * 5 + 3) (.int .i64 v))
                        clear R5q w4g A5q G5q A3 R3 G3 HM
                        go_wp2_with fail
                        go_roundw
                        case rel => exact next_one (e := ⟨7, [], 0, v, 0⟩) (by go_num) hi1 hlt hdl hkk A5.out R5.out G5.out HL.out HE.out (by show (7 : Int) ≠ 5; decide) hd0
                        case measure => simp [intOf]; omega
                      · have HV := hide (hD0.out (rel_none hlt HL.out ((congrArg entry1 HT.out).trans (e7_lack 7 (by decide) (xs.drop (kk + 1)) (by omega)))))

                        go_wp2_with fail
                        refine HN.out.mono ?_
                        rintro e w2 ⟨rfl, R2, g2⟩
                        have A2 := HA.out.grown g2 (by simpa using hgn)
                        have f0 := (at_cell A2 hdl).2.2.2.2.2.1
                        have c0 := (at_cell A2 hdl).1
                        have A3 := hide (at_put0 A2 hdl (.int .i64 7))
                        have R3 := hide (ref_set R2 A2 (i * 5) (.int .i64 7))
                        have G3 := hide (grown_set (grown_trans HG.out g2) hgw (i * 5) (.int .i64 7))
                        clear R2 g2 A2 HA HR HG HN
                        -- obtain ⟨W3, hW3⟩ : ∃ W, Hid (W = w2.setCell ⟨gp, i * 5, none⟩ (.int .i64 7)) := ⟨_, rfl⟩
                        have HM := hide (rn_none r base A c xs (kk + 1) 2 false _ R3.out (.inr (by omega)))
                        go_wp2_with fail
                        refine HM.out.mono ?_
                        rintro e w4 ⟨rfl, R5q, w4g⟩
                        have A5q := (A3.out).grown w4g (by simpa using hgn)
                        have G5q := grown_trans (G3.out) w4g
                        have rbw4 : w4.cell? ⟨r, 2, none⟩ = some (.bool true) := R5q.1.cell 2
                        have cw43 := (at_cell A5q hdl).2.2.2.1
                        have fw43 := (at_cell A5q hdl).2.2.2.2.2.2.2.2.1
                        have A5 := hide (at_put A5q hdl 3 (.int .i64 0))
                        have R5 := hide (ref_set R5q A5q (i * 5 + 3) (.int .i64 0))
                        have G5 := hide (grown_set G5q hgw (i * 5 + 3) (.int .i64 0))
                        clear R5q w4g A5q G5q A3 R3 G3 HM

                        go_wp2_with fail
                        go_ret2
                        exact ⟨G5.out, .inl ⟨HV.out, rfl⟩⟩
                    · by_cases h4 : kk + 3 ≤ xs.length
                      · have HE := hide ((congrArg entry1 HT.out).trans (e7_yes 8 (by decide) (xs.drop (kk + 1)) (by omega)))

                        go_wp2_with fail
                        refine HN.out.mono ?_
                        rintro e w2 ⟨rfl, R2, g2⟩
                        have A2 := HA.out.grown g2 (by simpa using hgn)
                        have f0 := (at_cell A2 hdl).2.2.2.2.2.1
                        have c0 := (at_cell A2 hdl).1
                        have A3 := hide (at_put0 A2 hdl (.int .i64 8))
                        have R3 := hide (ref_set R2 A2 (i * 5) (.int .i64 8))
                        have G3 := hide (grown_set (grown_trans HG.out g2) hgw (i * 5) (.int .i64 8))
                        clear R2 g2 A2 HA HR HG HN
                        -- obtain ⟨W3, hW3⟩ : ∃ W, Hid (W = w2.setCell ⟨gp, i * 5, none⟩ (.int .i64 8)) := ⟨_, rfl⟩
                        have hM := rn_some r base A c xs (kk + 1) 2 _ R3.out (by decide) (by omega) (by decide)
                        rw [show (2 : Int).toNat = 2 from rfl] at hM
                        have HM := hide hM
                        clear hM
                        generalize be ((xs.drop (kk + 1)).take 2) = v at *
                        go_wp2_with fail
                        refine HM.out.mono ?_
                        rintro e w4 ⟨rfl, R5q, w4g⟩
                        have A5q := (A3.out).grown w4g (by simpa using hgn)
                        have G5q := grown_trans (G3.out) w4g
                        have rbw4 : w4.cell? ⟨r, 2, none⟩ = some (.bool false) := R5q.1.cell 2
                        have cw43 := (at_cell A5q hdl).2.2.2.1
                        have fw43 := (at_cell A5q hdl).2.2.2.2.2.2.2.2.1
                        have A5 := hide (at_put A5q hdl 3 (.int .i64 v))
                        have R5 := hide (ref_set R5q A5q (i * 5 + 3) (.int .i64 v))
                        have G5 := hide (grown_set G5q hgw (i * 5 + 3) (.int .i64 v))
                        clear R5q w4g A5q G5q A3 R3 G3 HM
                        go_wp2_with fail
                        go_roundw
                        case rel => exact next_one (e := ⟨8, [], 0, v, 0⟩) (by go_num) hi1 hlt hdl hkk A5.out R5.out G5.out HL.out HE.out (by show (8 : Int) ≠ 5; decide) hd0
                        case measure => simp [intOf]; omega
                      · have HV := hide (hD0.out (rel_none hlt HL.out ((congrArg entry1 HT.out).trans (e7_lack 8 (by decide) (xs.drop (kk + 1)) (by omega)))))

                        go_wp2_with fail
                        refine HN.out.mono ?_
                        rintro e w2 ⟨rfl, R2, g2⟩
                        have A2 := HA.out.grown g2 (by simpa using hgn)
                        have f0 := (at_cell A2 hdl).2.2.2.2.2.1
                        have c0 := (at_cell A2 hdl).1
                        have A3 := hide (at_put0 A2 hdl (.int .i64 8))
                        have R3 := hide (ref_set R2 A2 (i * 5) (.int .i64 8))
                        have G3 := hide (grown_set (grown_trans HG.out g2) hgw (i * 5) (.int .i64 8))
                        clear R2 g2 A2 HA HR HG HN
                        -- obtain ⟨W3, hW3⟩ : ∃ W, Hid (W = w2.setCell ⟨gp, i * 5, none⟩ (.int .i64 8)) := ⟨_, rfl⟩
                        have HM := hide (rn_none r base A c xs (kk + 1) 2 false _ R3.out (.inr (by omega)))
                        go_wp2_with fail
                        refine HM.out.mono ?_
                        rintro e w4 ⟨rfl, R5q, w4g⟩
                        have A5q := (A3.out).grown w4g (by simpa using hgn)
                        have G5q := grown_trans (G3.out) w4g
                        have rbw4 : w4.cell? ⟨r, 2, none⟩ = some (.bool true) := R5q.1.cell 2
                        have cw43 := (at_cell A5q hdl).2.2.2.1
                        have fw43 := (at_cell A5q hdl).2.2.2.2.2.2.2.2.1
                        have A5 := hide (at_put A5q hdl 3 (.int .i64 0))
                        have R5 := hide (ref_set R5q A5q (i * 5 + 3) (.int .i64 0))
                        have G5 := hide (grown_set G5q hgw (i * 5 + 3) (.int .i64 0))
                        clear R5q w4g A5q G5q A3 R3 G3 HM

                        go_wp2_with fail
                        go_ret2
                        exact ⟨G5.out, .inl ⟨HV.out, rfl⟩⟩
                  · by_cases t9 : t = 9 ∨ t = 10 ∨ t = 11 ∨ t = 12
                    · rcases t9 with rfl | rfl | rfl | rfl
                      · by_cases h4 : kk + 3 ≤ xs.length
                        · by_cases h6 : kk + 5 ≤ xs.length
                          · have HE0 := (congrArg entry1 HT.out).trans (e9_yes 9 (by decide) (xs.drop (kk + 1)) (by omega))
                            rw [List.drop_drop] at HE0
                            have HE := hide HE0
                            clear HE0

                            go_wp2_with fail
                            refine HN.out.mono ?_
                            rintro e w2 ⟨rfl, R2, g2⟩
                            have A2 := HA.out.grown g2 (by simpa using hgn)
                            have f0 := (at_cell A2 hdl).2.2.2.2.2.1
                            have c0 := (at_cell A2 hdl).1
                            have A3 := hide (at_put0 A2 hdl (.int .i64 9))
                            have R3 := hide (ref_set R2 A2 (i * 5) (.int .i64 9))
                            have G3 := hide (grown_set (grown_trans HG.out g2) hgw (i * 5) (.int .i64 9))
                            clear R2 g2 A2 HA HR HG HN
                            -- obtain ⟨W3, hW3⟩ : ∃ W, Hid (W = w2.setCell ⟨gp, i * 5, none⟩ (.int .i64 9)) := ⟨_, rfl⟩
                            have hM := rn_some r base A c xs (kk + 1) 2 _ R3.out (by decide) (by omega) (by decide)
                            rw [show (2 : Int).toNat = 2 from rfl] at hM
                            have HM := hide hM
                            clear hM
                            generalize be ((xs.drop (kk + 1)).take 2) = v at *
                            go_wp2_with fail
                            refine HM.out.mono ?_
                            rintro e w4 ⟨rfl, R5q, w4g⟩
                            have A5q := (A3.out).grown w4g (by simpa using hgn)
                            have G5q := grown_trans (G3.out) w4g
                            have rbw4 : w4.cell? ⟨r, 2, none⟩ = some (.bool false) := R5q.1.cell 2
                            have cw43 := (at_cell A5q hdl).2.2.2.1
                            have fw43 := (at_cell A5q hdl).2.2.2.2.2.2.2.2.1
                            have A5 := hide (at_put A5q hdl 3 (.int .i64 v))
                            have R5 := hide (ref_set R5q A5q (i * 5 + 3) (.int .i64 v))
                            have G5 := hide (grown_set G5q hgw (i * 5 + 3) (.int .i64 v))
                            clear R5q w4g A5q G5q A3 R3 G3 HM
                            have hM := rn_some r base A c xs (kk + 1 + 2) 2 _ R5.out (by decide) (by omega) (by decide)
                            rw [show (2 : Int).toNat = 2 from rfl] at hM
                            have HM := hide hM
                            clear hM
                            generalize be ((xs.drop (kk + 1 + 2)).take 2) = u at *
                            go_wp2_with fail
                            refine HM.out.mono ?_
                            rintro e w6 ⟨rfl, R7q, w6g⟩
                            have A7q := (A5.out).grown w6g (by simpa using hgn)
                            have G7q := grown_trans (G5.out) w6g
                            have rbw6 : w6.cell? ⟨r, 2, none⟩ = some (.bool false) := R7q.1.cell 2
                            have cw64 := (at_cell A7q hdl).2.2.2.2.1
                            have fw64 := (at_cell A7q hdl).2.2.2.2.2.2.2.2.2
                            have A7 := hide (at_put A7q hdl 4 (.int .i64 u))
                            have R7 := hide (ref_set R7q A7q (i * 5 + 4) (.int .i64 u))
                            have G7 := hide (grown_set G7q hgw (i * 5 + 4) (.int .i64 u))
                            clear R7q w6g A7q G7q A5 R5 G5 HM
                            go_wp2_with fail
                            go_roundw
                            case rel => exact next_one (e := ⟨9, [], 0, v, u⟩) (by go_num) hi1 hlt hdl hkk A7.out R7.out G7.out HL.out HE.out (by show (9 : Int) ≠ 5; decide) hd0
                            case measure => simp [intOf]; omega
                          · have HV := hide (hD0.out (rel_none hlt HL.out ((congrArg entry1 HT.out).trans (e9_lack 9 (by decide) (xs.drop (kk + 1)) (by omega)))))

                            go_wp2_with fail
                            refine HN.out.mono ?_
                            rintro e w2 ⟨rfl, R2, g2⟩
                            have A2 := HA.out.grown g2 (by simpa using hgn)
                            have f0 := (at_cell A2 hdl).2.2.2.2.2.1
                            have c0 := (at_cell A2 hdl).1
                            have A3 := hide (at_put0 A2 hdl (.int .i64 9))
                            have R3 := hide (ref_set R2 A2 (i * 5) (.int .i64 9))
                            have G3 := hide (grown_set (grown_trans HG.out g2) hgw (i * 5) (.int .i64 9))
                            clear R2 g2 A2 HA HR HG HN
                            -- obtain ⟨W3, hW3⟩ : ∃ W, Hid (W = w2.setCell ⟨gp, i * 5, none⟩ (.int .i64 9)) := ⟨_, rfl⟩
                            have hM := rn_some r base A c xs (kk + 1) 2 _ R3.out (by decide) (by omega) (by decide)
                            rw [show (2 : Int).toNat = 2 from rfl] at hM
                            have HM := hide hM
                            clear hM
                            generalize be ((xs.drop (kk + 1)).take 2) = v at *
                            go_wp2_with fail
                            refine HM.out.mono ?_
                            rintro e w4 ⟨rfl, R5q, w4g⟩
                            have A5q := (A3.out).grown w4g (by simpa using hgn)
                            have G5q := grown_trans (G3.out) w4g
                            have rbw4 : w4.cell? ⟨r, 2, none⟩ = some (.bool false) := R5q.1.cell 2
                            have cw43 := (at_cell A5q hdl).2.2.2.1
                            have fw43 := (at_cell A5q hdl).2.2.2.2.2.2.2.2.1
                            have A5 := hide (at_put A5q hdl 3 (.int .i64 v))
                            have R5 := hide (ref_set R5q A5q (i * 5 + 3) (.int .i64 v))
                            have G5 := hide (grown_set G5q hgw (i * 5 + 3) (.int .i64 v))
                            clear R5q w4g A5q G5q A3 R3 G3 HM
                            have HM := hide (rn_none r base A c xs (kk + 1 + 2) 2 false _ R5.out (.inr (by omega)))
                            go_wp2_with fail
                            refine HM.out.mono ?_
                            rintro e w6 ⟨rfl, R7q, w6g⟩
                            have A7q := (A5.out).grown w6g (by simpa using hgn)
                            have G7q := grown_trans (G5.out) w6g
                            have rbw6 : w6.cell? ⟨r, 2, none⟩ = some (.bool true) := R7q.1.cell 2
                            have cw64 := (at_cell A7q hdl).2.2.2.2.1
                            have fw64 := (at_cell A7q hdl).2.2.2.2.2.2.2.2.2
                            have A7 := hide (at_put A7q hdl 4 (.int .i64 0))
                            have R7 := hide (ref_set R7q A7q (i * 5 + 4) (.int .i64 0))
                            have G7 := hide (grown_set G7q hgw (i * 5 + 4) (.int .i64 0))
                            clear R7q w6g A7q G7q A5 R5 G5 HM

                            go_wp2_with fail
                            go_ret2
                            exact ⟨G7.out, .inl ⟨HV.out, rfl⟩⟩
                        · have HV := hide (hD0.out (rel_none hlt HL.out ((congrArg entry1 HT.out).trans (e9_lack 9 (by decide) (xs.drop (kk + 1)) (by omega)))))

                          go_wp2_with fail
                          refine HN.out.mono ?_
                          rintro e w2 ⟨rfl, R2, g2⟩
                          have A2 := HA.out.grown g2 (by simpa using hgn)
                          have f0 := (at_cell A2 hdl).2.2.2.2.2.1
                          have c0 := (at_cell A2 hdl).1
                          have A3 := hide (at_put0 A2 hdl (.int .i64 9))
                          have R3 := hide (ref_set R2 A2 (i * 5) (.int .i64 9))
                          have G3 := hide (grown_set (grown_trans HG.out g2) hgw (i * 5) (.int .i64 9))
                          clear R2 g2 A2 HA HR HG HN
                          -- obtain ⟨W3, hW3⟩ : ∃ W, Hid (W = w2.setCell ⟨gp, i * 5, none⟩ (.int .i64 9)) := ⟨_, rfl⟩
                          have HM := hide (rn_none r base A c xs (kk + 1) 2 false _ R3.out (.inr (by omega)))
                          go_wp2_with fail
                          refine HM.out.mono ?_
                          rintro e w4 ⟨rfl, R5q, w4g⟩
                          have A5q := (A3.out).grown w4g (by simpa using hgn)
                          have G5q := grown_trans (G3.out) w4g
                          have rbw4 : w4.cell? ⟨r, 2, none⟩ = some (.bool true) := R5q.1.cell 2
                          have cw43 := (at_cell A5q hdl).2.2.2.1
                          have fw43 := (at_cell A5q hdl).2.2.2.2.2.2.2.2.1
                          have A5 := hide (at_put A5q hdl 3 (.int .i64 0))
                          have R5 := hide (ref_set R5q A5q (i * 5 + 3) (.int .i64 0))
                          have G5 := hide (grown_set G5q hgw (i * 5 + 3) (.int .i64 0))
                          clear R5q w4g A5q G5q A3 R3 G3 HM
                          have HM := hide (rn_none r base A c xs (kk + 1) 2 true _ R5.out (.inl rfl))
                          go_wp2_with fail
                          refine HM.out.mono ?_
                          rintro e w6 ⟨rfl, R7q, w6g⟩
                          have A7q := (A5.out).grown w6g (by simpa using hgn)
                          have G7q := grown_trans (G5.out) w6g
                          have rbw6 : w6.cell? ⟨r, 2, none⟩ = some (.bool true) := R7q.1.cell 2
                          have cw64 := (at_cell A7q hdl).2.2.2.2.1
                          have fw64 := (at_cell A7q hdl).2.2.2.2.2.2.2.2.2
                          have A7 := hide (at_put A7q hdl 4 (.int .i64 0))
                          have R7 := hide (ref_set R7q A7q (i * 5 + 4) (.int .i64 0))
                          have G7 := hide (grown_set G7q hgw (i * 5 + 4) (.int .i64 0))
                          clear R7q w6g A7q G7q A5 R5 G5 HM

                          go_wp2_with fail
                          go_ret2
                          exact ⟨G7.out, .inl ⟨HV.out, rfl⟩⟩
                      · by_cases h4 : kk + 3 ≤ xs.length
                        · by_cases h6 : kk + 5 ≤ xs.length
                          · have HE0 := (congrArg entry1 HT.out).trans (e9_yes 10 (by decide) (xs.drop (kk + 1)) (by omega))
                            rw [List.drop_drop] at HE0
                            have HE := hide HE0
                            clear HE0

                            go_wp2_with fail
                            refine HN.out.mono ?_
                            rintro e w2 ⟨rfl, R2, g2⟩
                            have A2 := HA.out.grown g2 (by simpa using hgn)
                            have f0 := (at_cell A2 hdl).2.2.2.2.2.1
                            have c0 := (at_cell A2 hdl).1
                            have A3 := hide (at_put0 A2 hdl (.int .i64 10))
                            have R3 := hide (ref_set R2 A2 (i * 5) (.int .i64 10))
                            have G3 := hide (grown_set (grown_trans HG.out g2) hgw (i * 5) (.int .i64 10))
                            clear R2 g2 A2 HA HR HG HN
                            -- obtain ⟨W3, hW3⟩ : ∃ W, Hid (W = w2.setCell ⟨gp, i * 5, none⟩ (.int .i64 10)) := ⟨_, rfl⟩
                            have hM := rn_some r base A c xs (kk + 1) 2 _ R3.out (by decide) (by omega) (by decide)
                            rw [show (2 : Int).toNat = 2 from rfl] at hM
                            have HM := hide hM
                            clear hM
                            generalize be ((xs.drop (kk + 1)).take 2) = v at *
                            go_wp2_with fail
                            refine HM.out.mono ?_
                            rintro e w4 ⟨rfl, R5q, w4g⟩
                            have A5q := (A3.out).grown w4g (by simpa using hgn)
                            have G5q := grown_trans (G3.out) w4g
                            have rbw4 : w4.cell? ⟨r, 2, none⟩ = some (.bool false) := R5q.1.cell 2
                            have cw43 := (at_cell A5q hdl).2.2.2.1
                            have fw43 := (at_cell A5q hdl).2.2.2.2.2.2.2.2.1
                            have A5 := hide (at_put A5q hdl 3 (.int .i64 v))
                            have R5 := hide (ref_set R5q A5q (i * 5 + 3) (.int .i64 v))
                            have G5 := hide (grown_set G5q hgw (i * 5 + 3) (.int .i64 v))
                            clear R5q w4g A5q G5q A3 R3 G3 HM
                            have hM := rn_some r base A c xs (kk + 1 + 2) 2 _ R5.out (by decide) (by omega) (by decide)
                            rw [show (2 : Int).toNat = 2 from rfl] at hM
                            have HM := hide hM
                            clear hM
                            generalize be ((xs.drop (kk + 1 + 2)).take 2) = u at *
                            go_wp2_with fail
                            refine HM.out.mono ?_
                            rintro e w6 ⟨rfl, R7q, w6g⟩
                            have A7q := (A5.out).grown w6g (by simpa using hgn)
                            have G7q := grown_trans (G5.out) w6g
                            have rbw6 : w6.cell? ⟨r, 2, none⟩ = some (.bool false) := R7q.1.cell 2
                            have cw64 := (at_cell A7q hdl).2.2.2.2.1
                            have fw64 := (at_cell A7q hdl).2.2.2.2.2.2.2.2.2
                            have A7 := hide (at_put A7q hdl 4 (.int .i64 u))
                            have R7 := hide (ref_set R7q A7q (i * 5 + 4) (.int .i64 u))
                            have G7 := hide (grown_set G7q hgw (i * 5 + 4) (.int .i64 u))
                            clear R7q w6g A7q G7q A5 R5 G5 HM
                            go_wp2_with fail
                            go_roundw
                            case rel => exact next_one (e := ⟨10, [], 0, v, u⟩) (by go_num) hi1 hlt hdl hkk A7.out R7.out G7.out HL.out HE.out (by show (10 : Int) ≠ 5; decide) hd0
                            case measure => simp [intOf]; omega
                          · have HV := hide (hD0.out (rel_none hlt HL.out ((congrArg entry1 HT.out).trans (e9_lack 10 (by decide) (xs.drop (kk + 1)) (by omega)))))

                            go_wp2_with fail
                            refine HN.out.mono ?_
                            rintro e w2 ⟨rfl, R2, g2⟩
                            have A2 := HA.out.grown g2 (by simpa using hgn)
                            have f0 := (at_cell A2 hdl).2.2.2.2.2.1
                            have c0 := (at_cell A2 hdl).1
                            have A3 := hide (at_put0 A2 hdl (.int .i64 10))
                            have R3 := hide (ref_set R2 A2 (i * 5) (.int .i64 10))
                            have G3 := hide (grown_set (grown_trans HG.out g2) hgw (i * 5) (.int .i64 10))
                            clear R2 g2 A2 HA HR HG HN
                            -- obtain ⟨W3, hW3⟩ : ∃ W, Hid (W = w2.setCell ⟨gp, i * 5, none⟩ (.int .i64 10)) := ⟨_, rfl⟩
                            have hM := rn_some r base A c xs (kk + 1) 2 _ R3.out (by decide) (by omega) (by decide)
                            rw [show (2 : Int).toNat = 2 from rfl] at hM
                            have HM := hide hM
                            clear hM
                            generalize be ((xs.drop (kk + 1)).take 2) = v at *
                            go_wp2_with fail
                            refine HM.out.mono ?_
                            rintro e w4 ⟨rfl, R5q, w4g⟩
                            have A5q := (A3.out).grown w4g (by simpa using hgn)
                            have G5q := grown_trans (G3.out) w4g
                            have rbw4 : w4.cell? ⟨r, 2, none⟩ = some (.bool false) := R5q.1.cell 2
                            have cw43 := (at_cell A5q hdl).2.2.2.1
                            have fw43 := (at_cell A5q hdl).2.2.2.2.2.2.2.2.1
                            have A5 := hide (at_put A5q hdl 3 (.int .i64 v))
                            have R5 := hide (ref_set R5q A5q (i * 5 + 3) (.int .i64 v))
                            have G5 := hide (grown_set G5q hgw (i * 5 + 3) (.int .i64 v))
                            clear R5q w4g A5q G5q A3 R3 G3 HM
                            have HM := hide (rn_none r base A c xs (kk + 1 + 2) 2 false _ R5.out (.inr (by omega)))
                            go_wp2_with fail
                            refine HM.out.mono ?_
                            rintro e w6 ⟨rfl, R7q, w6g⟩
                            have A7q := (A5.out).grown w6g (by simpa using hgn)
                            have G7q := grown_trans (G5.out) w6g
                            have rbw6 : w6.cell? ⟨r, 2, none⟩ = some (.bool true) := R7q.1.cell 2
                            have cw64 := (at_cell A7q hdl).2.2.2.2.1
                            have fw64 := (at_cell A7q hdl).2.2.2.2.2.2.2.2.2
                            have A7 := hide (at_put A7q hdl 4 (.int .i64 0))
                            have R7 := hide (ref_set R7q A7q (i * 5 + 4) (.int .i64 0))
                            have G7 := hide (grown_set G7q hgw (i * 5 + 4) (.int .i64 0))
                            clear R7q w6g A7q G7q A5 R5 G5 HM

                            go_wp2_with fail
                            go_ret2
                            exact ⟨G7.out, .inl ⟨HV.out, rfl⟩⟩
                        · have HV := hide (hD0.out (rel_none hlt HL.out ((congrArg entry1 HT.out).trans (e9_lack 10 (by decide) (xs.drop (kk + 1)) (by omega)))))

                          go_wp2_with fail
                          refine HN.out.mono ?_
                          rintro e w2 ⟨rfl, R2, g2⟩
                          have A2 := HA.out.grown g2 (by simpa using hgn)
                          have f0 := (at_cell A2 hdl).2.2.2.2.2.1
                          have c0 := (at_cell A2 hdl).1
                          have A3 := hide (at_put0 A2 hdl (.int .i64 10))
                          have R3 := hide (ref_set R2 A2 (i * 5) (.int .i64 10))
                          have G3 := hide (grown_set (grown_trans HG.out g2) hgw (i * 5) (.int .i64 10))
                          clear R2 g2 A2 HA HR HG HN
                          -- obtain ⟨W3, hW3⟩ : ∃ W, Hid (W = w2.setCell ⟨gp, i * 5, none⟩ (.int .i64 10)) := ⟨_, rfl⟩
                          have HM := hide (rn_none r base A c xs (kk + 1) 2 false _ R3.out (.inr (by omega)))
                          go_wp2_with fail
                          refine HM.out.mono ?_
                          rintro e w4 ⟨rfl, R5q, w4g⟩
                          have A5q := (A3.out).grown w4g (by simpa using hgn)
                          have G5q := grown_trans (G3.out) w4g
                          have rbw4 : w4.cell? ⟨r, 2, none⟩ = some (.bool true) := R5q.1.cell 2
                          have cw43 := (at_cell A5q hdl).2.2.2.1
                          have fw43 := (at_cell A5q hdl).2.2.2.2.2.2.2.2.1
                          have A5 := hide (at_put A5q hdl 3 (.int .i64 0))
                          have R5 := hide (ref_set R5q A5q (i * 5 + 3) (.int .i64 0))
                          have G5 := hide (grown_set G5q hgw (i * 5 + 3) (.int .i64 0))
                          clear R5q w4g A5q G5q A3 R3 G3 HM
                          have HM := hide (rn_none r base A c xs (kk + 1) 2 true _ R5.out (.inl rfl))
                          go_wp2_with fail
                          refine HM.out.mono ?_
                          rintro e w6 ⟨rfl, R7q, w6g⟩
                          have A7q := (A5.out).grown w6g (by simpa using hgn)
                          have G7q := grown_trans (G5.out) w6g
                          have rbw6 : w6.cell? ⟨r, 2, none⟩ = some (.bool true) := R7q.1.cell 2
                          have cw64 := (at_cell A7q hdl).2.2.2.2.1
                          have fw64 := (at_cell A7q hdl).2.2.2.2.2.2.2.2.2
                          have A7 := hide (at_put A7q hdl 4 (.int .i64 0))
                          have R7 := hide (ref_set R7q A7q (i * 5 + 4) (.int .i64 0))
                          have G7 := hide (grown_set G7q hgw (i * 5 + 4) (.int .i64 0))
                          clear R7q w6g A7q G7q A5 R5 G5 HM

                          go_wp2_with fail
                          go_ret2
                          exact ⟨G7.out, .inl ⟨HV.out, rfl⟩⟩
                      · by_cases h4 : kk + 3 ≤ xs.length
                        · by_cases h6 : kk + 5 ≤ xs.length
                          · have HE0 := (congrArg entry1 HT.out).trans (e9_yes 11 (by decide) (xs.drop (kk + 1)) (by omega))
                            rw [List.drop_drop] at HE0
                            have HE := hide HE0
                            clear HE0

                            go_wp2_with fail
                            refine HN.out.mono ?_
                            rintro e w2 ⟨rfl, R2, g2⟩
                            have A2 := HA.out.grown g2 (by simpa using hgn)
                            have f0 := (at_cell A2 hdl).2.2.2.2.2.1
                            have c0 := (at_cell A2 hdl).1
                            have A3 := hide (at_put0 A2 hdl (.int .i64 11))
                            have R3 := hide (ref_set R2 A2 (i * 5) (.int .i64 11))
                            have G3 := hide (grown_set (grown_trans HG.out g2) hgw (i * 5) (.int .i64 11))
                            clear R2 g2 A2 HA HR HG HN
                            -- obtain ⟨W3, hW3⟩ : ∃ W, Hid (W = w2.setCell ⟨gp, i * 5, none⟩ (.int .i64 11)) := ⟨_, rfl⟩
                            have hM := rn_some r base A c xs (kk + 1) 2 _ R3.out (by decide) (by omega) (by decide)
                            rw [show (2 : Int).toNat = 2 from rfl] at hM
                            have HM := hide hM
                            clear hM
                            generalize be ((xs.drop (kk + 1)).take 2) = v at *
                            go_wp2_with fail
                            refine HM.out.mono ?_
                            rintro e w4 ⟨rfl, R5q, w4g⟩
                            have A5q := (A3.out).grown w4g (by simpa using hgn)
                            have G5q := grown_trans (G3.out) w4g
                            have rbw4 : w4.cell? ⟨r, 2, none⟩ = some (.bool false) := R5q.1.cell 2
                            have cw43 := (at_cell A5q hdl).2.2.2.1
                            have fw43 := (at_cell A5q hdl).2.2.2.2.2.2.2.2.1
                            have A5 := hide (at_put A5q hdl 3 (.int .i64 v))
                            have R5 := hide (ref_set R5q A5q (i * 5 + 3) (.int .i64 v))
                            have G5 := hide (grown_set G5q hgw (i * 5 + 3) (.int .i64 v))
                            clear R5q w4g A5q G5q A3 R3 G3 HM
                            have hM := rn_some r base A c xs (kk + 1 + 2) 2 _ R5.out (by decide) (by omega) (by decide)
                            rw [show (2 : Int).toNat = 2 from rfl] at hM
                            have HM := hide hM
                            clear hM
                            generalize be ((xs.drop (kk + 1 + 2)).take 2) = u at *
                            go_wp2_with fail
                            refine HM.out.mono ?_
                            rintro e w6 ⟨rfl, R7q, w6g⟩
                            have A7q := (A5.out).grown w6g (by simpa using hgn)
                            have G7q := grown_trans (G5.out) w6g
                            have rbw6 : w6.cell? ⟨r, 2, none⟩ = some (.bool false) := R7q.1.cell 2
                            have cw64 := (at_cell A7q hdl).2.2.2.2.1
                            have fw64 := (at_cell A7q hdl).2.2.2.2.2.2.2.2.2
                            have A7 := hide (at_put A7q hdl 4 (.int .i64 u))
                            have R7 := hide (ref_set R7q A7q (i * 5 + 4) (.int .i64 u))
                            have G7 := hide (grown_set G7q hgw (i * 5 + 4) (.int .i64 u))
                            clear R7q w6g A7q G7q A5 R5 G5 HM
                            go_wp2_with fail
                            go_roundw
                            case rel => exact next_one (e := ⟨11, [], 0, v, u⟩) (by go_num) hi1 hlt hdl hkk A7.out R7.out G7.out HL.out HE.out (by show (11 : Int) ≠ 5; decide) hd0
                            case measure => simp [intOf]; omega
                          · have HV := hide (hD0.out (rel_none hlt HL.out ((congrArg entry1 HT.out).trans (e9_lack 11 (by decide) (xs.drop (kk + 1)) (by omega)))))

                            go_wp2_with fail
                            refine HN.out.mono ?_
                            rintro e w2 ⟨rfl, R2, g2⟩
                            have A2 := HA.out.grown g2 (by simpa using hgn)
                            have f0 := (at_cell A2 hdl).2.2.2.2.2.1
                            have c0 := (at_cell A2 hdl).1
                            have A3 := hide (at_put0 A2 hdl (.int .i64 11))
                            have R3 := hide (ref_set R2 A2 (i * 5) (.int .i64 11))
                            have G3 := hide (grown_set (grown_trans HG.out g2) hgw (i * 5) (.int .i64 11))
                            clear R2 g2 A2 HA HR HG HN
                            -- obtain ⟨W3, hW3⟩ : ∃ W, Hid (W = w2.setCell ⟨gp, i * 5, none⟩ (.int .i64 11)) := ⟨_, rfl⟩
                            have hM := rn_some r base A c xs (kk + 1) 2 _ R3.out (by decide) (by omega) (by decide)
                            rw [show (2 : Int).toNat = 2 from rfl] at hM
                            have HM := hide hM
                            clear hM
                            generalize be ((xs.drop (kk + 1)).take 2) = v at *
                            go_wp2_with fail
                            refine HM.out.mono ?_
                            rintro e w4 ⟨rfl, R5q, w4g⟩
                            have A5q := (A3.out).grown w4g (by simpa using hgn)
                            have G5q := grown_trans (G3.out) w4g
                            have rbw4 : w4.cell? ⟨r, 2, none⟩ = some (.bool false) := R5q.1.cell 2
                            have cw43 := (at_cell A5q hdl).2.2.2.1
                            have fw43 := (at_cell A5q hdl).2.2.2.2.2.2.2.2.1
                            have A5 := hide (at_put A5q hdl 3 (.int .i64 v))
                            have R5 := hide (ref_set R5q A5q (i * 5 + 3) (.int .i64 v))
                            have G5 := hide (grown_set G5q hgw (i * 5 + 3) (.int .i64 v))
                            clear R5q w4g A5q G5q A3 R3 G3 HM
                            have HM := hide (rn_none r base A c xs (kk + 1 + 2) 2 false _ R5.out (.inr (by omega)))
                            go_wp2_with fail
                            refine HM.out.mono ?_
                            rintro e w6 ⟨rfl, R7q, w6g⟩
                            have A7q := (A5.out).grown w6g (by simpa using hgn)
                            have G7q := grown_trans (G5.out) w6g
                            have rbw6 : w6.cell? ⟨r, 2, none⟩ = some (.bool true) := R7q.1.cell 2
                            have cw64 := (at_cell A7q hdl).2.2.2.2.1
                            have fw64 := (at_cell A7q hdl).2.2.2.2.2.2.2.2.2
                            have A7 := hide (at_put A7q hdl 4 (.int .i64 0))
                            have R7 := hide (ref_set R7q A7q (i * 5 + 4) (.int .i64 0))
                            have G7 := hide (grown_set G7q hgw (i * 5 + 4) (.int .i64 0))
                            clear R7q w6g A7q G7q A5 R5 G5 HM

                            go_wp2_with fail
                            go_ret2
                            exact ⟨G7.out, .inl ⟨HV.out, rfl⟩⟩
                        · have HV := hide (hD0.out (rel_none hlt HL.out ((congrArg entry1 HT.out).trans (e9_lack 11 (by decide) (xs.drop (kk + 1)) (by omega)))))

                          go_wp2_with fail
                          refine HN.out.mono ?_
                          rintro e w2 ⟨rfl, R2, g2⟩
                          have A2 := HA.out.grown g2 (by simpa using hgn)
                          have f0 := (at_cell A2 hdl).2.2.2.2.2.1
                          have c0 := (at_cell A2 hdl).1
                          have A3 := hide (at_put0 A2 hdl (.int .i64 11))
                          have R3 := hide (ref_set R2 A2 (i * 5) (.int .i64 11))
                          have G3 := hide (grown_set (grown_trans HG.out g2) hgw (i * 5) (.int .i64 11))
                          clear R2 g2 A2 HA HR HG HN
                          -- obtain ⟨W3, hW3⟩ : ∃ W, Hid (W = w2.setCell ⟨gp, i * 5, none⟩ (.int .i64 11)) := ⟨_, rfl⟩
                          have HM := hide (rn_none r base A c xs (kk + 1) 2 false _ R3.out (.inr (by omega)))
                          go_wp2_with fail
                          refine HM.out.mono ?_
                          rintro e w4 ⟨rfl, R5q, w4g⟩
                          have A5q := (A3.out).grown w4g (by simpa using hgn)
                          have G5q := grown_trans (G3.out) w4g
                          have rbw4 : w4.cell? ⟨r, 2, none⟩ = some (.bool true) := R5q.1.cell 2
                          have cw43 := (at_cell A5q hdl).2.2.2.1
                          have fw43 := (at_cell A5q hdl).2.2.2.2.2.2.2.2.1
                          have A5 := hide (at_put A5q hdl 3 (.int .i64 0))
                          have R5 := hide (ref_set R5q A5q (i * 5 + 3) (.int .i64 0))
                          have G5 := hide (grown_set G5q hgw (i * 5 + 3) (.int .i64 0))
                          clear R5q w4g A5q G5q A3 R3 G3 HM
                          have HM := hide (rn_none r base A c xs (kk + 1) 2 true _ R5.out (.inl rfl))
                          go_wp2_with fail
                          refine HM.out.mono ?_
                          rintro e w6 ⟨rfl, R7q, w6g⟩
                          have A7q := (A5.out).grown w6g (by simpa using hgn)
                          have G7q := grown_trans (G5.out) w6g
                          have rbw6 : w6.cell? ⟨r, 2, none⟩ = some (.bool true) := R7q.1.cell 2
                          have cw64 := (at_cell A7q hdl).2.2.2.2.1
                          have fw64 := (at_cell A7q hdl).2.2.2.2.2.2.2.2.2
                          have A7 := hide (at_put A7q hdl 4 (.int .i64 0))
                          have R7 := hide (ref_set R7q A7q (i * 5 + 4) (.int .i64 0))
                          have G7 := hide (grown_set G7q hgw (i * 5 + 4) (.int .i64 0))
                          clear R7q w6g A7q G7q A5 R5 G5 HM

                          go_wp2_with fail
                          go_ret2
                          exact ⟨G7.out, .inl ⟨HV.out, rfl⟩⟩
                      · by_cases h4 : kk + 3 ≤ xs.length
                        · by_cases h6 : kk + 5 ≤ xs.length
                          · have HE0 := (congrArg entry1 HT.out).trans (e9_yes 12 (by decide) (xs.drop (kk + 1)) (by omega))
                            rw [List.drop_drop] at HE0
                            have HE := hide HE0
                            clear HE0

                            go_wp2_with fail
                            refine HN.out.mono ?_
                            rintro e w2 ⟨rfl, R2, g2⟩
                            have A2 := HA.out.grown g2 (by simpa using hgn)
                            have f0 := (at_cell A2 hdl).2.2.2.2.2.1
                            have c0 := (at_cell A2 hdl).1
                            have A3 := hide (at_put0 A2 hdl (.int .i64 12))
                            have R3 := hide (ref_set R2 A2 (i * 5) (.int .i64 12))
                            have G3 := hide (grown_set (grown_trans HG.out g2) hgw (i * 5) (.int .i64 12))
                            clear R2 g2 A2 HA HR HG HN
                            -- obtain ⟨W3, hW3⟩ : ∃ W, Hid (W = w2.setCell ⟨gp, i * 5, none⟩ (.int .i64 12)) := ⟨_, rfl⟩
                            have hM := rn_some r base A c xs (kk + 1) 2 _ R3.out (by decide) (by omega) (by decide)
                            rw [show (2 : Int).toNat = 2 from rfl] at hM
                            have HM := hide hM
                            clear hM
                            generalize be ((xs.drop (kk + 1)).take 2) = v at *
                            go_wp2_with fail
                            refine HM.out.mono ?_
                            rintro e w4 ⟨rfl, R5q, w4g⟩
                            have A5q := (A3.out).grown w4g (by simpa using hgn)
                            have G5q := grown_trans (G3.out) w4g
                            have rbw4 : w4.cell? ⟨r, 2, none⟩ = some (.bool false) := R5q.1.cell 2
                            have cw43 := (at_cell A5q hdl).2.2.2.1
                            have fw43 := (at_cell A5q hdl).2.2.2.2.2.2.2.2.1
                            have A5 := hide (at_put A5q hdl 3 (.int .i64 v))
                            have R5 := hide (ref_set R5q A5q (i * 5 + 3) (.int .i64 v))
                            have G5 := hide (grown_set G5q hgw (i * 5 + 3) (.int .i64 v))
                            clear R5q w4g A5q G5q A3 R3 G3 HM
                            have hM := rn_some r base A c xs (kk + 1 + 2) 2 _ R5.out (by decide) (by omega) (by decide)
                            rw [show (2 : Int).toNat = 2 from rfl] at hM
                            have HM := hide hM
                            clear hM
                            generalize be ((xs.drop (kk + 1 + 2)).take 2) = u at *
                            go_wp2_with fail
                            refine HM.out.mono ?_
                            rintro e w6 ⟨rfl, R7q, w6g⟩
                            have A7q := (A5.out).grown w6g (by simpa using hgn)
                            have G7q := grown_trans (G5.out) w6g
                            have rbw6 : w6.cell? ⟨r, 2, none⟩ = some (.bool false) := R7q.1.cell 2
                            have cw64 := (at_cell A7q hdl).2.2.2.2.1
                            have fw64 := (at_cell A7q hdl).2.2.2.2.2.2.2.2.2
                            have A7 := hide (at_put A7q hdl 4 (.int .i64 u))
                            have R7 := hide (ref_set R7q A7q (i * 5 + 4) (.int .i64 u))
                            have G7 := hide (grown_set G7q hgw (i * 5 + 4) (.int .i64 u))
                            clear R7q w6g A7q G7q A5 R5 G5 HM
                            go_wp2_with fail
                            go_roundw
                            case rel => exact next_one (e := ⟨12, [], 0, v, u⟩) (by go_num) hi1 hlt hdl hkk A7.out R7.out G7.out HL.out HE.out (by show (12 : Int) ≠ 5; decide) hd0
                            case measure => simp [intOf]; omega
                          · have HV := hide (hD0.out (rel_none hlt HL.out ((congrArg entry1 HT.out).trans (e9_lack 12 (by decide) (xs.drop (kk + 1)) (by omega)))))

                            go_wp2_with fail
                            refine HN.out.mono ?_
                            rintro e w2 ⟨rfl, R2, g2⟩
                            have A2 := HA.out.grown g2 (by simpa using hgn)
                            have f0 := (at_cell A2 hdl).2.2.2.2.2.1
                            have c0 := (at_cell A2 hdl).1
                            have A3 := hide (at_put0 A2 hdl (.int .i64 12))
                            have R3 := hide (ref_set R2 A2 (i * 5) (.int .i64 12))
                            have G3 := hide (grown_set (grown_trans HG.out g2) hgw (i * 5) (.int .i64 12))
                            clear R2 g2 A2 HA HR HG HN
                            -- obtain ⟨W3, hW3⟩ : ∃ W, Hid (W = w2.setCell ⟨gp, i * 5, none⟩ (.int .i64 12)) := ⟨_, rfl⟩
                            have hM := rn_some r base A c xs (kk + 1) 2 _ R3.out (by decide) (by omega) (by decide)
                            rw [show (2 : Int).toNat = 2 from rfl] at hM
                            have HM := hide hM
                            clear hM
                            generalize be ((xs.drop (kk + 1)).take 2) = v at *
                            go_wp2_with fail
                            refine HM.out.mono ?_
                            rintro e w4 ⟨rfl, R5q, w4g⟩
                            have A5q := (A3.out).grown w4g (by simpa using hgn)
                            have G5q := grown_trans (G3.out) w4g
                            have rbw4 : w4.cell? ⟨r, 2, none⟩ = some (.bool false) := R5q.1.cell 2
                            have cw43 := (at_cell A5q hdl).2.2.2.1
                            have fw43 := (at_cell A5q hdl).2.2.2.2.2.2.2.2.1
                            have A5 := hide (at_put A5q hdl 3 (.int .i64 v))
                            have R5 := hide (ref_set R5q A5q (i * 5 + 3) (.int .i64 v))
                            have G5 := hide (grown_set G5q hgw (i * 5 + 3) (.int .i64 v))
                            clear R5q w4g A5q G5q A3 R3 G3 HM
                            have HM := hide (rn_none r base A c xs (kk + 1 + 2) 2 false _ R5.out (.inr (by omega)))
                            go_wp2_with fail
                            refine HM.out.mono ?_
                            rintro e w6 ⟨rfl, R7q, w6g⟩
                            have A7q := (A5.out).grown w6g (by simpa using hgn)
                            have G7q := grown_trans (G5.out) w6g
                            have rbw6 : w6.cell? ⟨r, 2, none⟩ = some (.bool true) := R7q.1.cell 2
                            have cw64 := (at_cell A7q hdl).2.2.2.2.1
                            have fw64 := (at_cell A7q hdl).2.2.2.2.2.2.2.2.2
                            have A7 := hide (at_put A7q hdl 4 (.int .i64 0))
                            have R7 := hide (ref_set R7q A7q (i * 5 + 4) (.int .i64 0))
                            have G7 := hide (grown_set G7q hgw (i * 5 + 4) (.int .i64 0))
                            clear R7q w6g A7q G7q A5 R5 G5 HM

                            go_wp2_with fail
                            go_ret2
                            exact ⟨G7.out, .inl ⟨HV.out, rfl⟩⟩
                        · have HV := hide (hD0.out (rel_none hlt HL.out ((congrArg entry1 HT.out).trans (e9_lack 12 (by decide) (xs.drop (kk + 1)) (by omega)))))

                          go_wp2_with fail
                          refine HN.out.mono ?_
                          rintro e w2 ⟨rfl, R2, g2⟩
                          have A2 := HA.out.grown g2 (by simpa using hgn)
                          have f0 := (at_cell A2 hdl).2.2.2.2.2.1
                          have c0 := (at_cell A2 hdl).1
                          have A3 := hide (at_put0 A2 hdl (.int .i64 12))
                          have R3 := hide (ref_set R2 A2 (i * 5) (.int .i64 12))
                          have G3 := hide (grown_set (grown_trans HG.out g2) hgw (i * 5) (.int .i64 12))
                          clear R2 g2 A2 HA HR HG HN
                          -- obtain ⟨W3, hW3⟩ : ∃ W, Hid (W = w2.setCell ⟨gp, i * 5, none⟩ (.int .i64 12)) := ⟨_, rfl⟩
                          have HM := hide (rn_none r base A c xs (kk + 1) 2 false _ R3.out (.inr (by omega)))
                          go_wp2_with fail
                          refine HM.out.mono ?_
                          rintro e w4 ⟨rfl, R5q, w4g⟩
                          have A5q := (A3.out).grown w4g (by simpa using hgn)
                          have G5q := grown_trans (G3.out) w4g
                          have rbw4 : w4.cell? ⟨r, 2, none⟩ = some (.bool true) := R5q.1.cell 2
                          have cw43 := (at_cell A5q hdl).2.2.2.1
                          have fw43 := (at_cell A5q hdl).2.2.2.2.2.2.2.2.1
                          have A5 := hide (at_put A5q hdl 3 (.int .i64 0))
                          have R5 := hide (ref_set R5q A5q (i * 5 + 3) (.int .i64 0))
                          have G5 := hide (grown_set G5q hgw (i * 5 + 3) (.int .i64 0))
                          clear R5q w4g A5q G5q A3 R3 G3 HM
                          have HM := hide (rn_none r base A c xs (kk + 1) 2 true _ R5.out (.inl rfl))
                          go_wp2_with fail
                          refine HM.out.mono ?_
                          rintro e w6 ⟨rfl, R7q, w6g⟩
                          have A7q := (A5.out).grown w6g (by simpa using hgn)
                          have G7q := grown_trans (G5.out) w6g
                          have rbw6 : w6.cell? ⟨r, 2, none⟩ = some (.bool true) := R7q.1.cell 2
                          have cw64 := (at_cell A7q hdl).2.2.2.2.1
                          have fw64 := (at_cell A7q hdl).2.2.2.2.2.2.2.2.2
                          have A7 := hide (at_put A7q hdl 4 (.int .i64 0))
                          have R7 := hide (ref_set R7q A7q (i * 5 + 4) (.int .i64 0))
                          have G7 := hide (grown_set G7q hgw (i * 5 + 4) (.int .i64 0))
                          clear R7q w6g A7q G7q A5 R5 G5 HM

                          go_wp2_with fail
                          go_ret2
                          exact ⟨G7.out, .inl ⟨HV.out, rfl⟩⟩
                    · have q1 : (t == 1) = false := by simp; omega
                      have q3 : (t == 3) = false := by simp; omega
                      have q5 : (t == 5) = false := by simp; omega
                      have q7 : (t == 7) = false := by simp; omega
                      have q8 : (t == 8) = false := by simp; omega
                      have q9 : (t == 9) = false := by simp; omega
                      have q10 : (t == 10) = false := by simp; omega
                      have q11 : (t == 11) = false := by simp; omega
                      have q12 : (t == 12) = false := by simp; omega
                      have HV := hide (hD0.out (rel_none hlt HL.out (by rw [HT.out]; exact e0_none t (by omega) _)))

                      go_wp2_with fail
                      refine HN.out.mono ?_
                      rintro e w2 ⟨rfl, R2, g2⟩
                      have A2 := HA.out.grown g2 (by simpa using hgn)
                      have f0 := (at_cell A2 hdl).2.2.2.2.2.1
                      have c0 := (at_cell A2 hdl).1
                      have A3 := hide (at_put0 A2 hdl (.int .i64 t))
                      have R3 := hide (ref_set R2 A2 (i * 5) (.int .i64 t))
                      have G3 := hide (grown_set (grown_trans HG.out g2) hgw (i * 5) (.int .i64 t))
                      clear R2 g2 A2 HA HR HG HN
                      -- obtain ⟨W3, hW3⟩ : ∃ W, Hid (W = w2.setCell ⟨gp, i * 5, none⟩ (.int .i64 t)) := ⟨_, rfl⟩

                      go_wp2_with fail
                      go_ret2
                      exact ⟨G3.out, .inl ⟨HV.out, rfl⟩⟩
          · have HN := hide (rn_none r base A c xs kk 1 false wr HR.out (.inr (by omega)))
            have HV := hide (hD0.out (rel_none hlt HL.out (by rw [List.drop_eq_nil_of_le (by omega)]; rfl)))
            go_wp2_with fail
            refine HN.out.mono ?_
            rintro e w2 ⟨rfl, R2, g2⟩
            have A2 := HA.out.grown g2 (by simpa using hgn)
            have f0 := (at_cell A2 hdl).2.2.2.2.2.1
            have c0 := (at_cell A2 hdl).1
            have G3 := hide (grown_set (grown_trans HG.out g2) hgw (i * 5) (.int .i64 0))
            clear R2 g2 A2 HA HR HG HN
            go_wp2_with fail
            go_ret2
            exact ⟨G3.out, .inl ⟨HV.out, rfl⟩⟩
        · obtain ⟨wo, rfl⟩ : ∃ wo : World, wo = wr := ⟨_, rfl⟩
          have hin2 : n = i := by omega
          subst hin2
          rw [Nat.sub_self, List.replicate_zero, List.append_nil] at hat
          rw [Nat.sub_self, entries_zero] at hrel
          simp only [Option.map_some, List.append_nil, Nat.add_zero] at hrel
          have hd : noC :: d.drop 1 = d := by have := List.take_append_drop 1 d; rw [hd0] at this; exact this
          have hwf : CWf d := by
            obtain ⟨w1, _⟩ := entries_wf (n - 1) (n - 1) _ _ _ (Nat.le_refl _) (hxb.drop _) hrel
            intro x hx
            rw [← hd] at hx
            rcases List.mem_cons.1 hx with rfl | hx
            · exact ⟨fun x hx => (by cases hx), Nat.zero_le _⟩
            · exact w1 x hx
          have hDD : D = if (List.range n).all (fun (i : Nat) => i == 0 || holdsAt d i) then some (d, 2 + (kk - (k + 2))) else none := by
            have := HD.out
            rw [hrel] at this
            simp only [hd] at this
            exact this.symm
          have hrd : RdC wo (gp + 1) (some ⟨gp, 0, none⟩) n d := ⟨hdl, fun _ => ⟨gp, 0, rfl, by omega, fun j u hu => by rw [Nat.zero_add, hat.cell]; exact hu⟩⟩
          have hsz : gp + 1 ≤ wo.heap.size := hat.lt
          have HRD := hide (hrd.mono hsz)
          have HDD := hide hDD
          have HR := hide hR
          have HG := hide hg
          have HW := hide hwf

          clear hDD hrd hR hg hwf hat hrel hd AA RA GA hd0 hD0 HD
          go_wp2_with fail
          go_loopw [7] (fun iv wx => ∃ j : Nat, 1 ≤ j ∧ j ≤ n ∧ iv = .int .i64 j ∧ Below wo.heap.size wo wx ∧ (List.range j).all (fun (i : Nat) => i == 0 || holdsAt d i) = true) (fun iv _ => n - (intOf iv).toNat)
          case atStart => exact ⟨1, Nat.le_refl _, by omega, rfl, Below.refl _ _, by simp⟩
          case round =>
            obtain ⟨j, hj1, hjn, rfl, hb, hall⟩ := hrel
            by_cases hlt2 : j < n
            · have HE := hide (rentry_any gp 0 n n d wo.heap.size j wr (HRD.out.below hb) hb.size HW.out hlt2)
              cases q : holdsAt d j
              · have HV : Hid (D = none) := hide (by
                  have : (List.range n).all (fun (i : Nat) => i == 0 || holdsAt d i) = false := by
                    rw [List.all_eq_false]
                    exact ⟨j, List.mem_range.2 hlt2, by simp [q]; omega⟩
                  rw [HDD.out, this]; rfl)
                rw [q] at HE
                have Hb := hide hb
                have Ha := hide hall
                clear hb hall
                go_wp2_with fail
                refine HE.out.mono ?_
                rintro e w5 ⟨rfl, hb5⟩
                have G5 := hide (grown_trans HG.out (grown_trans (grown_below Hb.out (some r)) (grown_below hb5 (some r))))
                clear hb5
                go_wp2_with fail
                go_ret2
                exact ⟨G5.out, .inl ⟨HV.out, rfl⟩⟩
              · rw [q] at HE
                have Hb := hide hb
                have Ha := hide hall
                clear hb hall
                go_wp2_with fail
                refine HE.out.mono ?_
                rintro e w5 ⟨rfl, hb5⟩
                have B5 := hide (Hb.out.trans (hb5.mono Hb.out.size))
                clear hb5
                go_wp2_with fail
                go_roundw
                case rel => exact ⟨j + 1, by omega, by omega, by go_num, B5.out, by rw [List.range_succ, List.all_append, Ha.out]; simp [q]⟩
                case measure => simp [intOf]; omega
            · have hjn2 : n = j := by omega
              subst hjn2
              have GG := hide (grown_trans HG.out (grown_below hb (some r)))
              have RR := hide (Ref.grown HR.out (grown_below hb none) (by simp) (by simp) (by simp))
              have QQ := hide ((HRD.out.below hb).mono hb.size)
              have HV : Hid (D = some (d, 2 + (kk - (k + 2)))) := hide (by rw [HDD.out, hall]; rfl)
              clear hb hall
              go_wp2_with fail
              go_ret2
              refine ⟨GG.out, .inr ⟨d, 2 + (kk - (k + 2)), some ⟨gp, 0, none⟩, HV.out, by rw [hdl]; rfl, by rw [hdl]; exact QQ.out, ?_, HW.out⟩⟩
              rw [show k + (2 + (kk - (k + 2))) = kk by omega]
              exact RR.out
  · have HV : Hid (D = none) := hide (by rw [← hD]; unfold pool; rw [if_pos (by omega)])
    have hN := hide (rn_none r base A c xs k 2 false w h (.inr (by omega)))
    clear hD h hdl
    go_enter Tryd.func10, Tryd.ntmps10
    go_wp2_with fail
    refine hN.out.mono ?_
    rintro e w1 ⟨rfl, R1, g1⟩
    have rb : w1.cell? ⟨r, 2, none⟩ = some (.bool true) := R1.1.cell 2
    have G1 := hide g1
    clear R1 g1
    go_wp2_with fail
    go_ret2
    exact ⟨G1.out, .inl ⟨HV.out, rfl⟩⟩
end Go.Proofs.YtdhalpmgfmbcgaaDoor
