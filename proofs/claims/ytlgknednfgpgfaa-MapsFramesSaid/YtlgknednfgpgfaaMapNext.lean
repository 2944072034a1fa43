/- How package stackmap reads a type. Nothing is claimed here. -/
import Derived.Test.YtlgknednfgpgfaaMapSpec
import Derived.Test.YtlgknednfgpgfaaPoolAsk2
import Derived.Test.YtlgknednfgpgfaaRegions3
import Derived.Deep.Cut
namespace Go.Proofs.Ytlgknednfgpgfaa
open Go.RowKit

theorem Cur.below {w w' : World} {g gb : Nat} {xs : List Int} {k : Nat} {bad : Bool} (h : Cur w g gb xs k bad) (hb : Below w.heap.size w w') : Cur w' g gb xs k bad :=
  h.grown (grown_below hb none) (by simp) (by simp)
theorem below_of_grown {B : Nat} {w w' : World} {g : Nat} (h : w.grownBy w' (some g)) (hB : B ≤ g) (hs : B ≤ w.heap.size) : Below B w w' :=
  ⟨h.os, h.tape, h.output, h.size, fun i hi => h.block i (by omega) (by simp; omega)⟩
theorem grown_more {a w w' : World} {r : Option Nat} (h : a.grownBy w r) (hb : Below w.heap.size w w') : a.grownBy w' r := grown_trans h (grown_below hb r)
theorem c2_of {w : World} {g : Nat} {t : TypeId} {a b : Value} (hh : At w g t [a, b]) : w.cell? ⟨g, 0, none⟩ = some a ∧ w.cell? ⟨g, 1, none⟩ = some b := ⟨hh.cell 0, hh.cell 1⟩
theorem c3_of {w : World} {g : Nat} {t : TypeId} {a b c : Value} (hh : At w g t [a, b, c]) : w.cell? ⟨g, 0, none⟩ = some a ∧ w.cell? ⟨g, 1, none⟩ = some b ∧ w.cell? ⟨g, 2, none⟩ = some c ∧
    w.frozen? ⟨g, 0, none⟩ = false ∧ w.frozen? ⟨g, 1, none⟩ = false ∧ w.frozen? ⟨g, 2, none⟩ = false := ⟨hh.cell 0, hh.cell 1, hh.cell 2, hh.free 0, hh.free 1, hh.free 2⟩
abbrev put3 (g : Nat) (a b c : Value) (W : World) : World := ((W.setCell ⟨g, 0, none⟩ a).setCell ⟨g, 1, none⟩ b).setCell ⟨g, 2, none⟩ c
theorem grow_set {a w : World} {r g : Nat} (h : a.grownBy w (some r)) (hg : a.heap.size ≤ g) (i : Nat) (v : Value) : a.grownBy (w.setCell ⟨g, i, none⟩ v) (some r) :=
  ⟨h.os, h.tape, h.output, by have := h.size; simpa using this, fun k hk hne => (Below.heap_setCell w ⟨g, i, none⟩ v k (by simp; omega)).trans (h.block k hk hne)⟩
theorem Cur.far {w : World} {g gb : Nat} {xs : List Int} {k : Nat} {bad : Bool} (h : Cur w g gb xs k bad) {q : Nat} (h1 : g ≠ q) (h2 : gb ≠ q) (i : Nat) (v : Value) : Cur (w.setCell ⟨q, i, none⟩ v) g gb xs k bad :=
  ⟨h.1.far (p := ⟨q, i, none⟩) h1 v, h.2.1.far (p := ⟨q, i, none⟩) h2 v, h.2.2⟩
theorem put3_end {a w : World} {g gb r : Nat} {xs : List Int} {k : Nat} {bad : Bool} {x y z : Value} (h : Cur w g gb xs k bad) (hg : a.grownBy w (some g)) (hr : At w r 37 [x, y, z]) (ha : a.heap.size ≤ r) (x' y' z' : Value) :
    Cur (put3 r x' y' z' w).drew g gb xs k bad ∧ a.grownBy (put3 r x' y' z' w).drew (some g) ∧ At (put3 r x' y' z' w).drew r 37 [x', y', z'] := by
  have n1 : g ≠ r := h.1.ne hr (by decide)
  have n2 : gb ≠ r := h.2.1.ne hr (by decide)
  exact ⟨((h.far n1 n2 0 x').far n1 n2 1 y').far n1 n2 2 z', grown_more (grow_set (grow_set (grow_set hg ha 0 x') ha 1 y') ha 2 z') (Below.refl _ _).drew, ((hr.set 0 x').set 1 y').set 2 z'⟩
theorem put3_endN (m : Nat) {a w : World} {g gb r : Nat} {xs : List Int} {k : Nat} {bad : Bool} {x y z : Value} (h : Cur w g gb xs k bad) (hg : a.grownBy w (some g)) (hr : At w r 37 [x, y, z]) (ha : a.heap.size ≤ r) (x' y' z' : Value) :
    Cur (put3 r x' y' z' (w.drewN m)) g gb xs k bad ∧ a.grownBy (put3 r x' y' z' (w.drewN m)) (some g) ∧ At (put3 r x' y' z' (w.drewN m)) r 37 [x', y', z'] := by
  have n1 : g ≠ r := h.1.ne hr (by decide)
  have n2 : gb ≠ r := h.2.1.ne hr (by decide)
  have h' : Cur (w.drewN m) g gb xs k bad := h
  exact ⟨((h'.far n1 n2 0 x').far n1 n2 1 y').far n1 n2 2 z', grow_set (grow_set (grow_set (grown_drewN hg m) ha 0 x') ha 1 y') ha 2 z', (((hr.drewN m).set 0 x').set 1 y').set 2 z'⟩
/-- A type as it is told. -/
def vtV (v : VT) : Value := .agg #[.int .i64 v.kind, .string ⟨#[]⟩, .int .i64 v.num]
/-- What is told of a type that was read. -/
def NextR (r : Option VT × St) (g gb : Nat) (xs : List Int) (w : World) (e : Ending) (w' : World) : Prop :=
  w.grownBy w' (some g) ∧ Cur w' g gb xs r.2.1 r.2.2 ∧
    ((∃ v, r.1 = some v ∧ e = .returned (.tuple #[vtV v, .bool true])) ∨ (r.1 = none ∧ ∃ v : VT, e = .returned (.tuple #[vtV v, .bool false])))

/-- A reader of entries: over a cursor and a pool. -/
structure Rdr (w : World) (B g gb : Nat) (A : Option Addr) (n c : Nat) (xs : List Int) (ps : List Cst) (s : St) : Prop where
  cur : Cur w g gb xs s.1 s.2
  pool : RdC w B A n ps
  hB : B ≤ g
theorem Rdr.lt {w : World} {B g gb : Nat} {A : Option Addr} {n c : Nat} {xs : List Int} {ps : List Cst} {s : St} (h : Rdr w B g gb A n c xs ps s) : B ≤ w.heap.size := by have := h.cur.1.lt; have := h.hB; omega
theorem Rdr.step {w w' : World} {B g gb : Nat} {A : Option Addr} {n c : Nat} {xs : List Int} {ps : List Cst} {s s' : St} (h : Rdr w B g gb A n c xs ps s) (hc : Cur w' g gb xs s'.1 s'.2) (hg : w.grownBy w' (some g)) : Rdr w' B g gb A n c xs ps s' :=
  ⟨hc, h.pool.below (below_of_grown hg h.hB h.lt), h.hB⟩
theorem Rdr.below {w w' : World} {B g gb : Nat} {A : Option Addr} {n c : Nat} {xs : List Int} {ps : List Cst} {s : St} (h : Rdr w B g gb A n c xs ps s) (hb : Below w.heap.size w w') : Rdr w' B g gb A n c xs ps s :=
  ⟨h.cur.below hb, h.pool.below (hb.mono h.lt), h.hB⟩
theorem u1_s {g gb : Nat} {xs : List Int} {s : St} {w : World} (h : Cur w g gb xs s.1 s.2) :
    Calls Try.prog 33 #[.pointer (some ⟨g, 0, none⟩)] w fun e w' => e = .returned (.int .i64 (rdN xs s 1)) ∧ Cur w' g gb xs (rdS xs s 1).1 (rdS xs s 1).2 ∧ w.grownBy w' (some g) :=
  u1_any g gb xs s.1 s.2 w h _ _ _ rfl rfl rfl
theorem u2_s {g gb : Nat} {xs : List Int} {s : St} {w : World} (h : Cur w g gb xs s.1 s.2) :
    Calls Try.prog 15 #[.pointer (some ⟨g, 0, none⟩)] w fun e w' => e = .returned (.int .i64 (rdN xs s 2)) ∧ Cur w' g gb xs (rdS xs s 2).1 (rdS xs s 2).2 ∧ w.grownBy w' (some g) :=
  u2_any g gb xs s.1 s.2 w h _ _ _ rfl rfl rfl

set_option maxHeartbeats 4000000 in
set_option maxRecDepth 100000 in
theorem next_else (g gb B : Nat) (A : Option Addr) (n c : Nat) (xs : List Int) (ps : List Cst) (s : St) (w : World) (h : Rdr w B g gb A n c xs ps s)
    (ht : ¬ (rdN xs s 1 = 0 ∨ rdN xs s 1 = 1 ∨ rdN xs s 1 = 4 ∨ rdN xs s 1 = 5 ∨ rdN xs s 1 = 6)) (h7 : rdN xs s 1 ≠ 7) (h8 : rdN xs s 1 ≠ 8) :
    Calls Try.prog 45 #[.agg #[.pointer (some ⟨g, 0, none⟩), .slice A n c]] w (NextR (nextS xs ps s) g gb xs w) := by
  obtain ⟨R, hR⟩ : ∃ R, nextS xs ps s = R := ⟨_, rfl⟩
  rw [hR]
  have HRR : Hid (R = (none, rdS xs s 1)) := hide (by
    rw [← hR]
    unfold nextS; simp only; rw [if_neg ht, if_neg h7, if_neg h8])
  clear hR
  have HU : Hid (∀ W, Below w.heap.size w W → Calls Try.prog 33 #[.pointer (some ⟨g, 0, none⟩)] W fun e w' => e = .returned (.int .i64 (rdN xs s 1)) ∧ Cur w' g gb xs (rdS xs s 1).1 (rdS xs s 1).2 ∧ W.grownBy w' (some g)) := hide fun W hW => u1_s (h.cur.below hW)
  have hgw := h.cur.1.lt
  clear h
  generalize rdN xs s 1 = t at *
  generalize rdS xs s 1 = s1 at *
  simp only [not_or] at ht
  obtain ⟨t0, t1, t4, t5, t6⟩ := ht
  have e0 : (t == 0) = false := by simpa using t0
  have e1 : (t == 1) = false := by simpa using t1
  have e4 : (t == 4) = false := by simpa using t4
  have e5 : (t == 5) = false := by simpa using t5
  have e6 : (t == 6) = false := by simpa using t6
  have e7 : (t == 7) = false := by simpa using h7
  have e8 : (t == 8) = false := by simpa using h8
  go_enter Try.func45, Try.ntmps45
  go_wp2_with fail
  refine (HU.out _ ?_).mono ?_
  · repeat (first | with_reducible exact Below.refl _ _ | with_reducible refine Below.drew ?_ | with_reducible refine below_drewN ?_ _ | ((with_reducible refine Below.setCell ?_ ?hp _); case hp => simp) | ((with_reducible refine Below.alloc ?_ ?hp _); case hp => first | omega | (simp; done) | (simp; omega)))
  rintro e w1 ⟨rfl, hc1, hg1⟩
  have hz1 := hg1.size
  simp at hz1
  have A0 := ((At.new w 53 [.pointer (some ⟨g, 0, none⟩), .slice A n c]).alloc (.cells #[.int .i64 0, .string ⟨#[]⟩, .int .i64 0] 37)).grown hg1 (by simp; omega)
  have A1 := (At.new (w.alloc (.cells #[.pointer (some ⟨g, 0, none⟩), .slice A n c] 53)) 37 [.int .i64 0, .string ⟨#[]⟩, .int .i64 0]).grown hg1 (by simp; omega)
  simp only [World.size_alloc] at A1
  have a00 := A0.cell 0
  have a01 := A0.cell 1
  simp only [List.getElem?_cons_zero, List.getElem?_cons_succ] at a00 a01
  have HC := hide hc1
  have HG : Hid (w.grownBy w1 (some g)) := hide (grown_trans (grown_below (by repeat (first | with_reducible exact Below.refl _ _ | with_reducible refine Below.drew ?_ | with_reducible refine below_drewN ?_ _ | ((with_reducible refine Below.setCell ?_ ?hp _); case hp => simp) | ((with_reducible refine Below.alloc ?_ ?hp _); case hp => first | omega | (simp; done) | (simp; omega)))) (some g)) hg1)
  have HA0 := hide A0
  have HA1 := hide A1
  have hgw1 := (Nat.lt_of_lt_of_le hgw (by omega : w.heap.size ≤ w1.heap.size))
  clear hc1 hg1 A0 A1
  go_wp2_with fail
  have HC2 := hide (HC.out.below ((Below.refl _ w1).alloc (Nat.le_refl _) (.cells #[.int .i64 t, .string ⟨#[]⟩, .int .i64 0] 37)))
  have HG2 : Hid (w.grownBy (w1.alloc (.cells #[.int .i64 t, .string ⟨#[]⟩, .int .i64 0] 37)) (some g)) := hide (grown_more HG.out ((Below.refl _ w1).alloc (Nat.le_refl _) (.cells #[.int .i64 t, .string ⟨#[]⟩, .int .i64 0] 37)))
  have HB2 := HA0.out.alloc (.cells #[.int .i64 t, .string ⟨#[]⟩, .int .i64 0] 37)
  have HR2 := HA1.out.alloc (.cells #[.int .i64 t, .string ⟨#[]⟩, .int .i64 0] 37)
  have HT2 := At.new w1 37 [.int .i64 t, .string ⟨#[]⟩, .int .i64 0]
  have hbt : w.heap.size + 1 ≠ w1.heap.size := by omega
  generalize w1.heap.size = bt at *
  clear HC HG HA0 HA1 a00 a01 HU
  generalize w1.alloc (.cells #[.int .i64 t, .string ⟨#[]⟩, .int .i64 0] 37) = w2 at *
  obtain ⟨a00, a01⟩ := c2_of HB2
  obtain ⟨r0, r1, r2, fr0, fr1, fr2⟩ := c3_of HR2
  obtain ⟨t0, t1, t2, -⟩ := c3_of HT2
  have HR := hide HR2
  clear HB2 HR2 HT2
  go_region
  all_goals
    try go_wp2_with fail
    have HF := put3_end HC2.out HG2.out HR.out (by omega) (.int .i64 t) (.string ⟨#[]⟩) (.int .i64 0)
    dsimp only [put3] at HF
    generalize World.drew (World.setCell _ _ _) = w3 at *
    obtain ⟨q0, q1, q2, -⟩ := c3_of HF.2.2
    refine bodyPost_ret (v := .tuple #[vtV ⟨t, 0⟩, .bool false]) ?_ rfl ?_
    · simp [results, Try.results45, go_sem, q0, q1, q2]
      rfl
    · have hR := HRR.out
      subst hR; exact ⟨HF.2.1, HF.1, .inr ⟨rfl, ⟨t, 0⟩, rfl⟩⟩
set_option maxHeartbeats 4000000 in
set_option maxRecDepth 100000 in
theorem next_plain (g gb B : Nat) (A : Option Addr) (n c : Nat) (xs : List Int) (ps : List Cst) (s : St) (w : World) (h : Rdr w B g gb A n c xs ps s) (t : Int) (hv : rdN xs s 1 = t)
    (ht : t = 0 ∨ t = 1 ∨ t = 4 ∨ t = 5 ∨ t = 6) :
    Calls Try.prog 45 #[.agg #[.pointer (some ⟨g, 0, none⟩), .slice A n c]] w (NextR (nextS xs ps s) g gb xs w) := by
  obtain ⟨R, hR⟩ : ∃ R, nextS xs ps s = R := ⟨_, rfl⟩
  rw [hR]
  have HRR : Hid (R = (if (rdS xs s 1).2 then none else some ⟨t, 0⟩, rdS xs s 1)) := hide (by
    rw [← hR]
    unfold nextS; simp only; rw [hv, if_pos ht])
  clear hR
  have HU : Hid (∀ W, Below w.heap.size w W → Calls Try.prog 33 #[.pointer (some ⟨g, 0, none⟩)] W fun e w' => e = .returned (.int .i64 (rdN xs s 1)) ∧ Cur w' g gb xs (rdS xs s 1).1 (rdS xs s 1).2 ∧ W.grownBy w' (some g)) := hide fun W hW => u1_s (h.cur.below hW)
  have hgw := h.cur.1.lt
  rw [hv] at HU
  clear h
  generalize rdS xs s 1 = s1 at *
  obtain ⟨k1, b1⟩ := s1
  have HOK : Hid (∀ W k, Cur W g gb xs k1 b1 → Calls Try.prog 17 #[.pointer (some ⟨g, 0, none⟩)] (W.drewN k) fun e w' => e = .returned (.bool (!b1)) ∧ W.drewN k = w') := hide fun W k hW => ok_any g gb xs k1 b1 _ hW
  rcases ht with e | e | e | e | e
  all_goals subst e
  · go_enter Try.func45, Try.ntmps45
    go_wp2_with fail
    refine (HU.out _ ?_).mono ?_
    · repeat (first | with_reducible exact Below.refl _ _ | with_reducible refine Below.drew ?_ | with_reducible refine below_drewN ?_ _ | ((with_reducible refine Below.setCell ?_ ?hp _); case hp => simp) | ((with_reducible refine Below.alloc ?_ ?hp _); case hp => first | omega | (simp; done) | (simp; omega)))
    rintro e w1 ⟨rfl, hc1, hg1⟩
    have hz1 := hg1.size
    simp at hz1
    have A0 := ((At.new w 53 [.pointer (some ⟨g, 0, none⟩), .slice A n c]).alloc (.cells #[.int .i64 0, .string ⟨#[]⟩, .int .i64 0] 37)).grown hg1 (by simp; omega)
    have A1 := (At.new (w.alloc (.cells #[.pointer (some ⟨g, 0, none⟩), .slice A n c] 53)) 37 [.int .i64 0, .string ⟨#[]⟩, .int .i64 0]).grown hg1 (by simp; omega)
    simp only [World.size_alloc] at A1
    have a00 := A0.cell 0
    have a01 := A0.cell 1
    simp only [List.getElem?_cons_zero, List.getElem?_cons_succ] at a00 a01
    have HC := hide hc1
    have HG : Hid (w.grownBy w1 (some g)) := hide (grown_trans (grown_below (by repeat (first | with_reducible exact Below.refl _ _ | with_reducible refine Below.drew ?_ | with_reducible refine below_drewN ?_ _ | ((with_reducible refine Below.setCell ?_ ?hp _); case hp => simp) | ((with_reducible refine Below.alloc ?_ ?hp _); case hp => first | omega | (simp; done) | (simp; omega)))) (some g)) hg1)
    have HA0 := hide A0
    have HA1 := hide A1
    have hgw1 := (Nat.lt_of_lt_of_le hgw (by omega : w.heap.size ≤ w1.heap.size))
    clear hc1 hg1 A0 A1
    go_wp2_with fail
    have HC2 := hide (HC.out.below ((Below.refl _ w1).alloc (Nat.le_refl _) (.cells #[.int .i64 0, .string ⟨#[]⟩, .int .i64 0] 37)))
    have HG2 : Hid (w.grownBy (w1.alloc (.cells #[.int .i64 0, .string ⟨#[]⟩, .int .i64 0] 37)) (some g)) := hide (grown_more HG.out ((Below.refl _ w1).alloc (Nat.le_refl _) (.cells #[.int .i64 0, .string ⟨#[]⟩, .int .i64 0] 37)))
    have HB2 := HA0.out.alloc (.cells #[.int .i64 0, .string ⟨#[]⟩, .int .i64 0] 37)
    have HR2 := HA1.out.alloc (.cells #[.int .i64 0, .string ⟨#[]⟩, .int .i64 0] 37)
    have HT2 := At.new w1 37 [.int .i64 0, .string ⟨#[]⟩, .int .i64 0]
    have hbt : w.heap.size + 1 ≠ w1.heap.size := by omega
    generalize w1.heap.size = bt at *
    clear HC HG HA0 HA1 a00 a01 HU
    generalize w1.alloc (.cells #[.int .i64 0, .string ⟨#[]⟩, .int .i64 0] 37) = w2 at *
    obtain ⟨a00, a01⟩ := c2_of HB2
    obtain ⟨r0, r1, r2, fr0, fr1, fr2⟩ := c3_of HR2
    obtain ⟨t0, t1, t2, -⟩ := c3_of HT2
    have HR := hide HR2
    clear HB2 HR2 HT2
    go_region_with (go_at_call 17; refine (HOK.out w2 _ HC2.out).mono ?_; rintro e w9 ⟨rfl, rfl⟩)
    all_goals
      try go_wp2_with fail
      have HF := put3_endN 1 HC2.out HG2.out HR.out (by omega) (.int .i64 0) (.string ⟨#[]⟩) (.int .i64 0)
      dsimp only [put3] at HF
      generalize World.setCell (World.setCell (World.setCell _ _ _) _ _) _ _ = w3 at *
      obtain ⟨q0, q1, q2, -⟩ := c3_of HF.2.2
      refine bodyPost_ret (v := .tuple #[vtV ⟨0, 0⟩, .bool (!b1)]) ?_ rfl ?_
      · simp [results, Try.results45, go_sem, q0, q1, q2]
        rfl
      · have hR := HRR.out
        subst hR; cases b1 with
        | true => exact ⟨HF.2.1, HF.1, .inr ⟨rfl, _, rfl⟩⟩
        | false => exact ⟨HF.2.1, HF.1, .inl ⟨_, rfl, rfl⟩⟩
  · go_enter Try.func45, Try.ntmps45
    go_wp2_with fail
    refine (HU.out _ ?_).mono ?_
    · repeat (first | with_reducible exact Below.refl _ _ | with_reducible refine Below.drew ?_ | with_reducible refine below_drewN ?_ _ | ((with_reducible refine Below.setCell ?_ ?hp _); case hp => simp) | ((with_reducible refine Below.alloc ?_ ?hp _); case hp => first | omega | (simp; done) | (simp; omega)))
    rintro e w1 ⟨rfl, hc1, hg1⟩
    have hz1 := hg1.size
    simp at hz1
    have A0 := ((At.new w 53 [.pointer (some ⟨g, 0, none⟩), .slice A n c]).alloc (.cells #[.int .i64 0, .string ⟨#[]⟩, .int .i64 0] 37)).grown hg1 (by simp; omega)
    have A1 := (At.new (w.alloc (.cells #[.pointer (some ⟨g, 0, none⟩), .slice A n c] 53)) 37 [.int .i64 0, .string ⟨#[]⟩, .int .i64 0]).grown hg1 (by simp; omega)
    simp only [World.size_alloc] at A1
    have a00 := A0.cell 0
    have a01 := A0.cell 1
    simp only [List.getElem?_cons_zero, List.getElem?_cons_succ] at a00 a01
    have HC := hide hc1
    have HG : Hid (w.grownBy w1 (some g)) := hide (grown_trans (grown_below (by repeat (first | with_reducible exact Below.refl _ _ | with_reducible refine Below.drew ?_ | with_reducible refine below_drewN ?_ _ | ((with_reducible refine Below.setCell ?_ ?hp _); case hp => simp) | ((with_reducible refine Below.alloc ?_ ?hp _); case hp => first | omega | (simp; done) | (simp; omega)))) (some g)) hg1)
    have HA0 := hide A0
    have HA1 := hide A1
    have hgw1 := (Nat.lt_of_lt_of_le hgw (by omega : w.heap.size ≤ w1.heap.size))
    clear hc1 hg1 A0 A1
    go_wp2_with fail
    have HC2 := hide (HC.out.below ((Below.refl _ w1).alloc (Nat.le_refl _) (.cells #[.int .i64 1, .string ⟨#[]⟩, .int .i64 0] 37)))
    have HG2 : Hid (w.grownBy (w1.alloc (.cells #[.int .i64 1, .string ⟨#[]⟩, .int .i64 0] 37)) (some g)) := hide (grown_more HG.out ((Below.refl _ w1).alloc (Nat.le_refl _) (.cells #[.int .i64 1, .string ⟨#[]⟩, .int .i64 0] 37)))
    have HB2 := HA0.out.alloc (.cells #[.int .i64 1, .string ⟨#[]⟩, .int .i64 0] 37)
    have HR2 := HA1.out.alloc (.cells #[.int .i64 1, .string ⟨#[]⟩, .int .i64 0] 37)
    have HT2 := At.new w1 37 [.int .i64 1, .string ⟨#[]⟩, .int .i64 0]
    have hbt : w.heap.size + 1 ≠ w1.heap.size := by omega
    generalize w1.heap.size = bt at *
    clear HC HG HA0 HA1 a00 a01 HU
    generalize w1.alloc (.cells #[.int .i64 1, .string ⟨#[]⟩, .int .i64 0] 37) = w2 at *
    obtain ⟨a00, a01⟩ := c2_of HB2
    obtain ⟨r0, r1, r2, fr0, fr1, fr2⟩ := c3_of HR2
    obtain ⟨t0, t1, t2, -⟩ := c3_of HT2
    have HR := hide HR2
    clear HB2 HR2 HT2
    go_region_with (go_at_call 17; refine (HOK.out w2 _ HC2.out).mono ?_; rintro e w9 ⟨rfl, rfl⟩)
    all_goals
      try go_wp2_with fail
      have HF := put3_endN 1 HC2.out HG2.out HR.out (by omega) (.int .i64 1) (.string ⟨#[]⟩) (.int .i64 0)
      dsimp only [put3] at HF
      generalize World.setCell (World.setCell (World.setCell _ _ _) _ _) _ _ = w3 at *
      obtain ⟨q0, q1, q2, -⟩ := c3_of HF.2.2
      refine bodyPost_ret (v := .tuple #[vtV ⟨1, 0⟩, .bool (!b1)]) ?_ rfl ?_
      · simp [results, Try.results45, go_sem, q0, q1, q2]
        rfl
      · have hR := HRR.out
        subst hR; cases b1 with
        | true => exact ⟨HF.2.1, HF.1, .inr ⟨rfl, _, rfl⟩⟩
        | false => exact ⟨HF.2.1, HF.1, .inl ⟨_, rfl, rfl⟩⟩
  · go_enter Try.func45, Try.ntmps45
    go_wp2_with fail
    refine (HU.out _ ?_).mono ?_
    · repeat (first | with_reducible exact Below.refl _ _ | with_reducible refine Below.drew ?_ | with_reducible refine below_drewN ?_ _ | ((with_reducible refine Below.setCell ?_ ?hp _); case hp => simp) | ((with_reducible refine Below.alloc ?_ ?hp _); case hp => first | omega | (simp; done) | (simp; omega)))
    rintro e w1 ⟨rfl, hc1, hg1⟩
    have hz1 := hg1.size
    simp at hz1
    have A0 := ((At.new w 53 [.pointer (some ⟨g, 0, none⟩), .slice A n c]).alloc (.cells #[.int .i64 0, .string ⟨#[]⟩, .int .i64 0] 37)).grown hg1 (by simp; omega)
    have A1 := (At.new (w.alloc (.cells #[.pointer (some ⟨g, 0, none⟩), .slice A n c] 53)) 37 [.int .i64 0, .string ⟨#[]⟩, .int .i64 0]).grown hg1 (by simp; omega)
    simp only [World.size_alloc] at A1
    have a00 := A0.cell 0
    have a01 := A0.cell 1
    simp only [List.getElem?_cons_zero, List.getElem?_cons_succ] at a00 a01
    have HC := hide hc1
    have HG : Hid (w.grownBy w1 (some g)) := hide (grown_trans (grown_below (by repeat (first | with_reducible exact Below.refl _ _ | with_reducible refine Below.drew ?_ | with_reducible refine below_drewN ?_ _ | ((with_reducible refine Below.setCell ?_ ?hp _); case hp => simp) | ((with_reducible refine Below.alloc ?_ ?hp _); case hp => first | omega | (simp; done) | (simp; omega)))) (some g)) hg1)
    have HA0 := hide A0
    have HA1 := hide A1
    have hgw1 := (Nat.lt_of_lt_of_le hgw (by omega : w.heap.size ≤ w1.heap.size))
    clear hc1 hg1 A0 A1
    go_wp2_with fail
    have HC2 := hide (HC.out.below ((Below.refl _ w1).alloc (Nat.le_refl _) (.cells #[.int .i64 4, .string ⟨#[]⟩, .int .i64 0] 37)))
    have HG2 : Hid (w.grownBy (w1.alloc (.cells #[.int .i64 4, .string ⟨#[]⟩, .int .i64 0] 37)) (some g)) := hide (grown_more HG.out ((Below.refl _ w1).alloc (Nat.le_refl _) (.cells #[.int .i64 4, .string ⟨#[]⟩, .int .i64 0] 37)))
    have HB2 := HA0.out.alloc (.cells #[.int .i64 4, .string ⟨#[]⟩, .int .i64 0] 37)
    have HR2 := HA1.out.alloc (.cells #[.int .i64 4, .string ⟨#[]⟩, .int .i64 0] 37)
    have HT2 := At.new w1 37 [.int .i64 4, .string ⟨#[]⟩, .int .i64 0]
    have hbt : w.heap.size + 1 ≠ w1.heap.size := by omega
    generalize w1.heap.size = bt at *
    clear HC HG HA0 HA1 a00 a01 HU
    generalize w1.alloc (.cells #[.int .i64 4, .string ⟨#[]⟩, .int .i64 0] 37) = w2 at *
    obtain ⟨a00, a01⟩ := c2_of HB2
    obtain ⟨r0, r1, r2, fr0, fr1, fr2⟩ := c3_of HR2
    obtain ⟨t0, t1, t2, -⟩ := c3_of HT2
    have HR := hide HR2
    clear HB2 HR2 HT2
    go_region_with (go_at_call 17; refine (HOK.out w2 _ HC2.out).mono ?_; rintro e w9 ⟨rfl, rfl⟩)
    all_goals
      try go_wp2_with fail
      have HF := put3_endN 1 HC2.out HG2.out HR.out (by omega) (.int .i64 4) (.string ⟨#[]⟩) (.int .i64 0)
      dsimp only [put3] at HF
      generalize World.setCell (World.setCell (World.setCell _ _ _) _ _) _ _ = w3 at *
      obtain ⟨q0, q1, q2, -⟩ := c3_of HF.2.2
      refine bodyPost_ret (v := .tuple #[vtV ⟨4, 0⟩, .bool (!b1)]) ?_ rfl ?_
      · simp [results, Try.results45, go_sem, q0, q1, q2]
        rfl
      · have hR := HRR.out
        subst hR; cases b1 with
        | true => exact ⟨HF.2.1, HF.1, .inr ⟨rfl, _, rfl⟩⟩
        | false => exact ⟨HF.2.1, HF.1, .inl ⟨_, rfl, rfl⟩⟩
  · go_enter Try.func45, Try.ntmps45
    go_wp2_with fail
    refine (HU.out _ ?_).mono ?_
    · repeat (first | with_reducible exact Below.refl _ _ | with_reducible refine Below.drew ?_ | with_reducible refine below_drewN ?_ _ | ((with_reducible refine Below.setCell ?_ ?hp _); case hp => simp) | ((with_reducible refine Below.alloc ?_ ?hp _); case hp => first | omega | (simp; done) | (simp; omega)))
    rintro e w1 ⟨rfl, hc1, hg1⟩
    have hz1 := hg1.size
    simp at hz1
    have A0 := ((At.new w 53 [.pointer (some ⟨g, 0, none⟩), .slice A n c]).alloc (.cells #[.int .i64 0, .string ⟨#[]⟩, .int .i64 0] 37)).grown hg1 (by simp; omega)
    have A1 := (At.new (w.alloc (.cells #[.pointer (some ⟨g, 0, none⟩), .slice A n c] 53)) 37 [.int .i64 0, .string ⟨#[]⟩, .int .i64 0]).grown hg1 (by simp; omega)
    simp only [World.size_alloc] at A1
    have a00 := A0.cell 0
    have a01 := A0.cell 1
    simp only [List.getElem?_cons_zero, List.getElem?_cons_succ] at a00 a01
    have HC := hide hc1
    have HG : Hid (w.grownBy w1 (some g)) := hide (grown_trans (grown_below (by repeat (first | with_reducible exact Below.refl _ _ | with_reducible refine Below.drew ?_ | with_reducible refine below_drewN ?_ _ | ((with_reducible refine Below.setCell ?_ ?hp _); case hp => simp) | ((with_reducible refine Below.alloc ?_ ?hp _); case hp => first | omega | (simp; done) | (simp; omega)))) (some g)) hg1)
    have HA0 := hide A0
    have HA1 := hide A1
    have hgw1 := (Nat.lt_of_lt_of_le hgw (by omega : w.heap.size ≤ w1.heap.size))
    clear hc1 hg1 A0 A1
    go_wp2_with fail
    have HC2 := hide (HC.out.below ((Below.refl _ w1).alloc (Nat.le_refl _) (.cells #[.int .i64 5, .string ⟨#[]⟩, .int .i64 0] 37)))
    have HG2 : Hid (w.grownBy (w1.alloc (.cells #[.int .i64 5, .string ⟨#[]⟩, .int .i64 0] 37)) (some g)) := hide (grown_more HG.out ((Below.refl _ w1).alloc (Nat.le_refl _) (.cells #[.int .i64 5, .string ⟨#[]⟩, .int .i64 0] 37)))
    have HB2 := HA0.out.alloc (.cells #[.int .i64 5, .string ⟨#[]⟩, .int .i64 0] 37)
    have HR2 := HA1.out.alloc (.cells #[.int .i64 5, .string ⟨#[]⟩, .int .i64 0] 37)
    have HT2 := At.new w1 37 [.int .i64 5, .string ⟨#[]⟩, .int .i64 0]
    have hbt : w.heap.size + 1 ≠ w1.heap.size := by omega
    generalize w1.heap.size = bt at *
    clear HC HG HA0 HA1 a00 a01 HU
    generalize w1.alloc (.cells #[.int .i64 5, .string ⟨#[]⟩, .int .i64 0] 37) = w2 at *
    obtain ⟨a00, a01⟩ := c2_of HB2
    obtain ⟨r0, r1, r2, fr0, fr1, fr2⟩ := c3_of HR2
    obtain ⟨t0, t1, t2, -⟩ := c3_of HT2
    have HR := hide HR2
    clear HB2 HR2 HT2
    go_region_with (go_at_call 17; refine (HOK.out w2 _ HC2.out).mono ?_; rintro e w9 ⟨rfl, rfl⟩)
    all_goals
      try go_wp2_with fail
      have HF := put3_endN 1 HC2.out HG2.out HR.out (by omega) (.int .i64 5) (.string ⟨#[]⟩) (.int .i64 0)
      dsimp only [put3] at HF
      generalize World.setCell (World.setCell (World.setCell _ _ _) _ _) _ _ = w3 at *
      obtain ⟨q0, q1, q2, -⟩ := c3_of HF.2.2
      refine bodyPost_ret (v := .tuple #[vtV ⟨5, 0⟩, .bool (!b1)]) ?_ rfl ?_
      · simp [results, Try.results45, go_sem, q0, q1, q2]
        rfl
      · have hR := HRR.out
        subst hR; cases b1 with
        | true => exact ⟨HF.2.1, HF.1, .inr ⟨rfl, _, rfl⟩⟩
        | false => exact ⟨HF.2.1, HF.1, .inl ⟨_, rfl, rfl⟩⟩
  · go_enter Try.func45, Try.ntmps45
    go_wp2_with fail
    refine (HU.out _ ?_).mono ?_
    · repeat (first | with_reducible exact Below.refl _ _ | with_reducible refine Below.drew ?_ | with_reducible refine below_drewN ?_ _ | ((with_reducible refine Below.setCell ?_ ?hp _); case hp => simp) | ((with_reducible refine Below.alloc ?_ ?hp _); case hp => first | omega | (simp; done) | (simp; omega)))
    rintro e w1 ⟨rfl, hc1, hg1⟩
    have hz1 := hg1.size
    simp at hz1
    have A0 := ((At.new w 53 [.pointer (some ⟨g, 0, none⟩), .slice A n c]).alloc (.cells #[.int .i64 0, .string ⟨#[]⟩, .int .i64 0] 37)).grown hg1 (by simp; omega)
    have A1 := (At.new (w.alloc (.cells #[.pointer (some ⟨g, 0, none⟩), .slice A n c] 53)) 37 [.int .i64 0, .string ⟨#[]⟩, .int .i64 0]).grown hg1 (by simp; omega)
    simp only [World.size_alloc] at A1
    have a00 := A0.cell 0
    have a01 := A0.cell 1
    simp only [List.getElem?_cons_zero, List.getElem?_cons_succ] at a00 a01
    have HC := hide hc1
    have HG : Hid (w.grownBy w1 (some g)) := hide (grown_trans (grown_below (by repeat (first | with_reducible exact Below.refl _ _ | with_reducible refine Below.drew ?_ | with_reducible refine below_drewN ?_ _ | ((with_reducible refine Below.setCell ?_ ?hp _); case hp => simp) | ((with_reducible refine Below.alloc ?_ ?hp _); case hp => first | omega | (simp; done) | (simp; omega)))) (some g)) hg1)
    have HA0 := hide A0
    have HA1 := hide A1
    have hgw1 := (Nat.lt_of_lt_of_le hgw (by omega : w.heap.size ≤ w1.heap.size))
    clear hc1 hg1 A0 A1
    go_wp2_with fail
    have HC2 := hide (HC.out.below ((Below.refl _ w1).alloc (Nat.le_refl _) (.cells #[.int .i64 6, .string ⟨#[]⟩, .int .i64 0] 37)))
    have HG2 : Hid (w.grownBy (w1.alloc (.cells #[.int .i64 6, .string ⟨#[]⟩, .int .i64 0] 37)) (some g)) := hide (grown_more HG.out ((Below.refl _ w1).alloc (Nat.le_refl _) (.cells #[.int .i64 6, .string ⟨#[]⟩, .int .i64 0] 37)))
    have HB2 := HA0.out.alloc (.cells #[.int .i64 6, .string ⟨#[]⟩, .int .i64 0] 37)
    have HR2 := HA1.out.alloc (.cells #[.int .i64 6, .string ⟨#[]⟩, .int .i64 0] 37)
    have HT2 := At.new w1 37 [.int .i64 6, .string ⟨#[]⟩, .int .i64 0]
    have hbt : w.heap.size + 1 ≠ w1.heap.size := by omega
    generalize w1.heap.size = bt at *
    clear HC HG HA0 HA1 a00 a01 HU
    generalize w1.alloc (.cells #[.int .i64 6, .string ⟨#[]⟩, .int .i64 0] 37) = w2 at *
    obtain ⟨a00, a01⟩ := c2_of HB2
    obtain ⟨r0, r1, r2, fr0, fr1, fr2⟩ := c3_of HR2
    obtain ⟨t0, t1, t2, -⟩ := c3_of HT2
    have HR := hide HR2
    clear HB2 HR2 HT2
    go_region_with (go_at_call 17; refine (HOK.out w2 _ HC2.out).mono ?_; rintro e w9 ⟨rfl, rfl⟩)
    all_goals
      try go_wp2_with fail
      have HF := put3_endN 1 HC2.out HG2.out HR.out (by omega) (.int .i64 6) (.string ⟨#[]⟩) (.int .i64 0)
      dsimp only [put3] at HF
      generalize World.setCell (World.setCell (World.setCell _ _ _) _ _) _ _ = w3 at *
      obtain ⟨q0, q1, q2, -⟩ := c3_of HF.2.2
      refine bodyPost_ret (v := .tuple #[vtV ⟨6, 0⟩, .bool (!b1)]) ?_ rfl ?_
      · simp [results, Try.results45, go_sem, q0, q1, q2]
        rfl
      · have hR := HRR.out
        subst hR; cases b1 with
        | true => exact ⟨HF.2.1, HF.1, .inr ⟨rfl, _, rfl⟩⟩
        | false => exact ⟨HF.2.1, HF.1, .inl ⟨_, rfl, rfl⟩⟩
set_option maxHeartbeats 4000000 in
set_option maxRecDepth 100000 in
theorem next_8 (g gb B : Nat) (A : Option Addr) (n c : Nat) (xs : List Int) (ps : List Cst) (s : St) (w : World) (h : Rdr w B g gb A n c xs ps s) (hv : rdN xs s 1 = 8) :
    Calls Try.prog 45 #[.agg #[.pointer (some ⟨g, 0, none⟩), .slice A n c]] w (NextR (nextS xs ps s) g gb xs w) := by
  obtain ⟨R, hR⟩ : ∃ R, nextS xs ps s = R := ⟨_, rfl⟩
  rw [hR]
  have HRR : Hid (R = (if (rdS xs (rdS xs s 1) 2).2 then none else some ⟨8, rdN xs (rdS xs s 1) 2⟩, rdS xs (rdS xs s 1) 2)) := hide (by
    rw [← hR]
    unfold nextS; simp only; rw [hv, if_neg (by decide), if_neg (by decide), if_pos rfl])
  clear hR
  have HU : Hid (∀ W, Below w.heap.size w W → Calls Try.prog 33 #[.pointer (some ⟨g, 0, none⟩)] W fun e w' => e = .returned (.int .i64 (rdN xs s 1)) ∧ Cur w' g gb xs (rdS xs s 1).1 (rdS xs s 1).2 ∧ W.grownBy w' (some g)) := hide fun W hW => u1_s (h.cur.below hW)
  have hgw := h.cur.1.lt
  rw [hv] at HU
  obtain ⟨a, ha⟩ : ∃ a, rdN xs (rdS xs s 1) 2 = a := ⟨_, rfl⟩
  obtain ⟨s2, hs2⟩ : ∃ s2, rdS xs (rdS xs s 1) 2 = s2 := ⟨_, rfl⟩
  rw [ha, hs2] at HRR
  generalize rdS xs s 1 = s1 at *
  obtain ⟨k1, b1⟩ := s1
  obtain ⟨k2, b2⟩ := s2
  have HU2 : Hid (∀ W, Cur W g gb xs k1 b1 → Calls Try.prog 15 #[.pointer (some ⟨g, 0, none⟩)] W fun e w' => e = .returned (.int .i64 a) ∧ Cur w' g gb xs k2 b2 ∧ W.grownBy w' (some g)) := hide fun W hW => by
    have := u2_s (s := (k1, b1)) hW
    rwa [ha, hs2] at this
  have HOK : Hid (∀ W k, Cur W g gb xs k2 b2 → Calls Try.prog 17 #[.pointer (some ⟨g, 0, none⟩)] (W.drewN k) fun e w' => e = .returned (.bool (!b2)) ∧ W.drewN k = w') := hide fun W k hW => ok_any g gb xs k2 b2 _ hW
  clear h ha hs2
  go_enter Try.func45, Try.ntmps45
  go_wp2_with fail
  refine (HU.out _ ?_).mono ?_
  · repeat (first | with_reducible exact Below.refl _ _ | with_reducible refine Below.drew ?_ | with_reducible refine below_drewN ?_ _ | ((with_reducible refine Below.setCell ?_ ?hp _); case hp => simp) | ((with_reducible refine Below.alloc ?_ ?hp _); case hp => first | omega | (simp; done) | (simp; omega)))
  rintro e w1 ⟨rfl, hc1, hg1⟩
  have hz1 := hg1.size
  simp at hz1
  have A0 := ((At.new w 53 [.pointer (some ⟨g, 0, none⟩), .slice A n c]).alloc (.cells #[.int .i64 0, .string ⟨#[]⟩, .int .i64 0] 37)).grown hg1 (by simp; omega)
  have A1 := (At.new (w.alloc (.cells #[.pointer (some ⟨g, 0, none⟩), .slice A n c] 53)) 37 [.int .i64 0, .string ⟨#[]⟩, .int .i64 0]).grown hg1 (by simp; omega)
  simp only [World.size_alloc] at A1
  have a00 := A0.cell 0
  have a01 := A0.cell 1
  simp only [List.getElem?_cons_zero, List.getElem?_cons_succ] at a00 a01
  have HC := hide hc1
  have HG : Hid (w.grownBy w1 (some g)) := hide (grown_trans (grown_below (by repeat (first | with_reducible exact Below.refl _ _ | with_reducible refine Below.drew ?_ | with_reducible refine below_drewN ?_ _ | ((with_reducible refine Below.setCell ?_ ?hp _); case hp => simp) | ((with_reducible refine Below.alloc ?_ ?hp _); case hp => first | omega | (simp; done) | (simp; omega)))) (some g)) hg1)
  have HA0 := hide A0
  have HA1 := hide A1
  have hgw1 := (Nat.lt_of_lt_of_le hgw (by omega : w.heap.size ≤ w1.heap.size))
  have a00' := (A0.alloc (.cells #[.int .i64 8, .string ⟨#[]⟩, .int .i64 0] 37)).cell 0
  have a01' := (A0.alloc (.cells #[.int .i64 8, .string ⟨#[]⟩, .int .i64 0] 37)).cell 1
  simp only [List.getElem?_cons_zero, List.getElem?_cons_succ] at a00' a01'
  clear hc1 hg1 A0 A1
  go_wp2_with fail
  have hBa : Below w1.heap.size w1 (w1.alloc (.cells #[.int .i64 8, .string ⟨#[]⟩, .int .i64 0] 37)) := (Below.refl _ w1).alloc (Nat.le_refl _) _
  refine (HU2.out _ (HC.out.below hBa)).mono ?_
  rintro e w2 ⟨rfl, hc2, hg2⟩
  have B2 := (HA0.out.alloc (.cells #[.int .i64 8, .string ⟨#[]⟩, .int .i64 0] 37)).grown hg2 (by simp; omega)
  have R2 := (HA1.out.alloc (.cells #[.int .i64 8, .string ⟨#[]⟩, .int .i64 0] 37)).grown hg2 (by simp; omega)
  have T2 := (At.new w1 37 [.int .i64 8, .string ⟨#[]⟩, .int .i64 0]).grown hg2 (by simp; omega)
  have G2 := grown_trans (grown_more HG.out hBa) hg2
  have hz2 := hg2.size
  simp at hz2
  have hbt : w.heap.size + 1 ≠ w1.heap.size := by omega
  have hbt2 : w.heap.size ≠ w1.heap.size := by omega
  have hbt3 : g ≠ w1.heap.size := by omega
  have hbt4 : gb ≠ w1.heap.size := by have := HC.out.2.1.lt; omega
  have hbt5 : w.heap.size ≤ w1.heap.size := by omega
  generalize w1.heap.size = bt at *
  clear HC HG HA0 HA1 a00 a01 a00' a01' hBa hg2
  obtain ⟨a00, a01⟩ := c2_of B2
  obtain ⟨t0, t1, t2, f0, f1, f2⟩ := c3_of T2
  have HC2 := hide (hc2.far hbt3 hbt4 2 (.int .i64 a))
  have HG2 := hide (grow_set G2 hbt5 2 (.int .i64 a))
  have HB2 := hide (B2.far (p := ⟨bt, 2, none⟩) hbt2 (.int .i64 a))
  have HR2 := hide (R2.far (p := ⟨bt, 2, none⟩) hbt (.int .i64 a))
  have HT2 := hide (T2.set 2 (.int .i64 a))
  have hs2 : (w2.setCell ⟨bt, 2, none⟩ (.int .i64 a)).heap.size = w2.heap.size := by simp
  clear hc2 B2 R2 T2 G2
  go_wp2_with fail
  have HB2 := HB2.out
  have HR2 := HR2.out
  have HT2 := HT2.out
  clear HU2 HU t0 t1 t2 a00 a01 f0 f1 f2
  generalize w2.setCell ⟨bt, 2, none⟩ (.int .i64 a) = w3 at *
  obtain ⟨a00, a01⟩ := c2_of HB2
  obtain ⟨r0, r1, r2, fr0, fr1, fr2⟩ := c3_of HR2
  obtain ⟨t0, t1, t2, -⟩ := c3_of HT2
  have HR := hide HR2
  clear HB2 HR2 HT2
  go_region_with (go_at_call 17; refine (HOK.out w3 _ HC2.out).mono ?_; rintro e w9 ⟨rfl, rfl⟩)
  all_goals
    try go_wp2_with fail
    have HF := put3_endN 1 HC2.out HG2.out HR.out (by omega) (.int .i64 8) (.string ⟨#[]⟩) (.int .i64 a)
    dsimp only [put3] at HF
    generalize World.setCell (World.setCell (World.setCell _ _ _) _ _) _ _ = w5 at *
    obtain ⟨q0, q1, q2, -⟩ := c3_of HF.2.2
    refine bodyPost_ret (v := .tuple #[vtV ⟨8, a⟩, .bool (!b2)]) ?_ rfl ?_
    · simp [results, Try.results45, go_sem, q0, q1, q2]
      rfl
    · have hR := HRR.out
      subst hR; cases b2 with
      | true => exact ⟨HF.2.1, HF.1, .inr ⟨rfl, _, rfl⟩⟩
      | false => exact ⟨HF.2.1, HF.1, .inl ⟨_, rfl, rfl⟩⟩
set_option maxHeartbeats 4000000 in
set_option maxRecDepth 100000 in
theorem next_7 (g gb B : Nat) (A : Option Addr) (n c : Nat) (xs : List Int) (ps : List Cst) (s : St) (w : World) (h : Rdr w B g gb A n c xs ps s) (hv : rdN xs s 1 = 7) :
    Calls Try.prog 45 #[.agg #[.pointer (some ⟨g, 0, none⟩), .slice A n c]] w (NextR (nextS xs ps s) g gb xs w) := by
  obtain ⟨R, hR⟩ : ∃ R, nextS xs ps s = R := ⟨_, rfl⟩
  rw [hR]
  have HRR : Hid (R = (if (rdS xs (rdS xs s 1) 2).2 || (classAt ps (rdN xs (rdS xs s 1) 2)).isNone then none else some ⟨7, rdN xs (rdS xs s 1) 2⟩, rdS xs (rdS xs s 1) 2)) := hide (by
    rw [← hR]
    unfold nextS; simp only; rw [hv, if_neg (by decide), if_pos rfl])
  clear hR
  have HU : Hid (∀ W, Below w.heap.size w W → Calls Try.prog 33 #[.pointer (some ⟨g, 0, none⟩)] W fun e w' => e = .returned (.int .i64 (rdN xs s 1)) ∧ Cur w' g gb xs (rdS xs s 1).1 (rdS xs s 1).2 ∧ W.grownBy w' (some g)) := hide fun W hW => u1_s (h.cur.below hW)
  have hgw := h.cur.1.lt
  rw [hv] at HU
  obtain ⟨a, ha⟩ : ∃ a, rdN xs (rdS xs s 1) 2 = a := ⟨_, rfl⟩
  obtain ⟨s2, hs2⟩ : ∃ s2, rdS xs (rdS xs s 1) 2 = s2 := ⟨_, rfl⟩
  rw [ha, hs2] at HRR
  generalize rdS xs s 1 = s1 at *
  obtain ⟨k1, b1⟩ := s1
  obtain ⟨k2, b2⟩ := s2
  have HU2 : Hid (∀ W, Cur W g gb xs k1 b1 → Calls Try.prog 15 #[.pointer (some ⟨g, 0, none⟩)] W fun e w' => e = .returned (.int .i64 a) ∧ Cur w' g gb xs k2 b2 ∧ W.grownBy w' (some g)) := hide fun W hW => by
    have := u2_s (s := (k1, b1)) hW
    rwa [ha, hs2] at this
  have HOK : Hid (∀ W k, Cur W g gb xs k2 b2 → Calls Try.prog 17 #[.pointer (some ⟨g, 0, none⟩)] (W.drewN k) fun e w' => e = .returned (.bool (!b2)) ∧ W.drewN k = w') := hide fun W k hW => ok_any g gb xs k2 b2 _ hW
  have HCl : Hid (∀ W, Below B w W → Calls Try.prog 49 #[.slice A n c, .int .i64 a] W fun e w' => e = .returned (.tuple #[.string (strOfNums ((classAt ps a).getD [])), .bool (classAt ps a).isSome]) ∧ Below W.heap.size W w') := hide fun W hW => by
    have := class_is A n c ps a W ((h.pool.below hW).mono (by have := hW.size; have := h.lt; omega))
    rwa [textV_pair] at this
  have hBg := h.hB
  have hBw := h.lt
  rw [show (classAt ps a).isNone = !(classAt ps a).isSome by cases classAt ps a <;> rfl] at HRR
  generalize strOfNums ((classAt ps a).getD []) = q at *
  generalize (classAt ps a).isSome = cl at *
  clear h ha hs2
  cases cl
  · go_enter Try.func45, Try.ntmps45
    go_wp2_with fail
    refine (HU.out _ ?_).mono ?_
    · repeat (first | with_reducible exact Below.refl _ _ | with_reducible refine Below.drew ?_ | with_reducible refine below_drewN ?_ _ | ((with_reducible refine Below.setCell ?_ ?hp _); case hp => simp) | ((with_reducible refine Below.alloc ?_ ?hp _); case hp => first | omega | (simp; done) | (simp; omega)))
    rintro e w1 ⟨rfl, hc1, hg1⟩
    have hz1 := hg1.size
    simp at hz1
    have A0 := ((At.new w 53 [.pointer (some ⟨g, 0, none⟩), .slice A n c]).alloc (.cells #[.int .i64 0, .string ⟨#[]⟩, .int .i64 0] 37)).grown hg1 (by simp; omega)
    have A1 := (At.new (w.alloc (.cells #[.pointer (some ⟨g, 0, none⟩), .slice A n c] 53)) 37 [.int .i64 0, .string ⟨#[]⟩, .int .i64 0]).grown hg1 (by simp; omega)
    simp only [World.size_alloc] at A1
    have a00 := A0.cell 0
    have a01 := A0.cell 1
    simp only [List.getElem?_cons_zero, List.getElem?_cons_succ] at a00 a01
    have HC := hide hc1
    have HG : Hid (w.grownBy w1 (some g)) := hide (grown_trans (grown_below (by repeat (first | with_reducible exact Below.refl _ _ | with_reducible refine Below.drew ?_ | with_reducible refine below_drewN ?_ _ | ((with_reducible refine Below.setCell ?_ ?hp _); case hp => simp) | ((with_reducible refine Below.alloc ?_ ?hp _); case hp => first | omega | (simp; done) | (simp; omega)))) (some g)) hg1)
    have HA0 := hide A0
    have HA1 := hide A1
    have hgw1 := (Nat.lt_of_lt_of_le hgw (by omega : w.heap.size ≤ w1.heap.size))
    have a00' := (A0.alloc (.cells #[.int .i64 7, .string ⟨#[]⟩, .int .i64 0] 37)).cell 0
    have a01' := (A0.alloc (.cells #[.int .i64 7, .string ⟨#[]⟩, .int .i64 0] 37)).cell 1
    simp only [List.getElem?_cons_zero, List.getElem?_cons_succ] at a00' a01'
    clear hc1 hg1 A0 A1
    go_wp2_with fail
    have hBa : Below w1.heap.size w1 (w1.alloc (.cells #[.int .i64 7, .string ⟨#[]⟩, .int .i64 0] 37)) := (Below.refl _ w1).alloc (Nat.le_refl _) _
    refine (HU2.out _ (HC.out.below hBa)).mono ?_
    rintro e w2 ⟨rfl, hc2, hg2⟩
    have B2 := (HA0.out.alloc (.cells #[.int .i64 7, .string ⟨#[]⟩, .int .i64 0] 37)).grown hg2 (by simp; omega)
    have R2 := (HA1.out.alloc (.cells #[.int .i64 7, .string ⟨#[]⟩, .int .i64 0] 37)).grown hg2 (by simp; omega)
    have T2 := (At.new w1 37 [.int .i64 7, .string ⟨#[]⟩, .int .i64 0]).grown hg2 (by simp; omega)
    have G2 := grown_trans (grown_more HG.out hBa) hg2
    have hz2 := hg2.size
    simp at hz2
    have hbt : w.heap.size + 1 ≠ w1.heap.size := by omega
    have hbt2 : w.heap.size ≠ w1.heap.size := by omega
    have hbt3 : g ≠ w1.heap.size := by omega
    have hbt4 : gb ≠ w1.heap.size := by have := HC.out.2.1.lt; omega
    have hbt5 : w.heap.size ≤ w1.heap.size := by omega
    generalize w1.heap.size = bt at *
    clear HC HG HA0 HA1 a00 a01 a00' a01' hBa hg2
    obtain ⟨a00, a01⟩ := c2_of B2
    obtain ⟨t0, t1, t2, f0, f1, f2⟩ := c3_of T2
    have HC2 := hide (hc2.far hbt3 hbt4 2 (.int .i64 a))
    have HG2 := hide (grow_set G2 hbt5 2 (.int .i64 a))
    have HB2 := hide (B2.far (p := ⟨bt, 2, none⟩) hbt2 (.int .i64 a))
    have HR2 := hide (R2.far (p := ⟨bt, 2, none⟩) hbt (.int .i64 a))
    have HT2 := hide (T2.set 2 (.int .i64 a))
    have hs2 : (w2.setCell ⟨bt, 2, none⟩ (.int .i64 a)).heap.size = w2.heap.size := by simp
    clear hc2 B2 R2 T2 G2
    go_wp2_with fail
    refine (HCl.out _ (below_of_grown HG2.out hBg hBw)).mono ?_
    rintro e w4 ⟨rfl, hb4⟩
    have hz4 := hb4.size
    simp at hz4
    have HC2 := hide (HC2.out.below hb4)
    have HG2 := hide (grown_more HG2.out hb4)
    have HB2 := HB2.out.below hb4 HB2.out.lt
    have HR2 := HR2.out.below hb4 HR2.out.lt
    have HT2 := HT2.out.below hb4 HT2.out.lt
    clear hb4 HU2 HU t0 t1 t2 a00 a01 f0 f1 f2 HCl
    go_wp2_with fail
    obtain ⟨a00, a01⟩ := c2_of HB2
    obtain ⟨r0, r1, r2, fr0, fr1, fr2⟩ := c3_of HR2
    obtain ⟨t0, t1, t2, -⟩ := c3_of HT2
    have HR := hide HR2
    clear HB2 HR2 HT2
    go_region
    all_goals
      try go_wp2_with fail
      have HF := put3_end HC2.out HG2.out HR.out (by omega) (.int .i64 7) (.string ⟨#[]⟩) (.int .i64 a)
      dsimp only [put3] at HF
      generalize World.drew (World.setCell _ _ _) = w5 at *
      obtain ⟨q0, q1, q2, -⟩ := c3_of HF.2.2
      refine bodyPost_ret (v := .tuple #[vtV ⟨7, a⟩, .bool false]) ?_ rfl ?_
      · simp [results, Try.results45, go_sem, q0, q1, q2]
        rfl
      · have hR := HRR.out
        subst hR; exact ⟨HF.2.1, HF.1, .inr ⟨by cases b2 <;> rfl, ⟨7, a⟩, rfl⟩⟩
  · go_enter Try.func45, Try.ntmps45
    go_wp2_with fail
    refine (HU.out _ ?_).mono ?_
    · repeat (first | with_reducible exact Below.refl _ _ | with_reducible refine Below.drew ?_ | with_reducible refine below_drewN ?_ _ | ((with_reducible refine Below.setCell ?_ ?hp _); case hp => simp) | ((with_reducible refine Below.alloc ?_ ?hp _); case hp => first | omega | (simp; done) | (simp; omega)))
    rintro e w1 ⟨rfl, hc1, hg1⟩
    have hz1 := hg1.size
    simp at hz1
    have A0 := ((At.new w 53 [.pointer (some ⟨g, 0, none⟩), .slice A n c]).alloc (.cells #[.int .i64 0, .string ⟨#[]⟩, .int .i64 0] 37)).grown hg1 (by simp; omega)
    have A1 := (At.new (w.alloc (.cells #[.pointer (some ⟨g, 0, none⟩), .slice A n c] 53)) 37 [.int .i64 0, .string ⟨#[]⟩, .int .i64 0]).grown hg1 (by simp; omega)
    simp only [World.size_alloc] at A1
    have a00 := A0.cell 0
    have a01 := A0.cell 1
    simp only [List.getElem?_cons_zero, List.getElem?_cons_succ] at a00 a01
    have HC := hide hc1
    have HG : Hid (w.grownBy w1 (some g)) := hide (grown_trans (grown_below (by repeat (first | with_reducible exact Below.refl _ _ | with_reducible refine Below.drew ?_ | with_reducible refine below_drewN ?_ _ | ((with_reducible refine Below.setCell ?_ ?hp _); case hp => simp) | ((with_reducible refine Below.alloc ?_ ?hp _); case hp => first | omega | (simp; done) | (simp; omega)))) (some g)) hg1)
    have HA0 := hide A0
    have HA1 := hide A1
    have hgw1 := (Nat.lt_of_lt_of_le hgw (by omega : w.heap.size ≤ w1.heap.size))
    have a00' := (A0.alloc (.cells #[.int .i64 7, .string ⟨#[]⟩, .int .i64 0] 37)).cell 0
    have a01' := (A0.alloc (.cells #[.int .i64 7, .string ⟨#[]⟩, .int .i64 0] 37)).cell 1
    simp only [List.getElem?_cons_zero, List.getElem?_cons_succ] at a00' a01'
    clear hc1 hg1 A0 A1
    go_wp2_with fail
    have hBa : Below w1.heap.size w1 (w1.alloc (.cells #[.int .i64 7, .string ⟨#[]⟩, .int .i64 0] 37)) := (Below.refl _ w1).alloc (Nat.le_refl _) _
    refine (HU2.out _ (HC.out.below hBa)).mono ?_
    rintro e w2 ⟨rfl, hc2, hg2⟩
    have B2 := (HA0.out.alloc (.cells #[.int .i64 7, .string ⟨#[]⟩, .int .i64 0] 37)).grown hg2 (by simp; omega)
    have R2 := (HA1.out.alloc (.cells #[.int .i64 7, .string ⟨#[]⟩, .int .i64 0] 37)).grown hg2 (by simp; omega)
    have T2 := (At.new w1 37 [.int .i64 7, .string ⟨#[]⟩, .int .i64 0]).grown hg2 (by simp; omega)
    have G2 := grown_trans (grown_more HG.out hBa) hg2
    have hz2 := hg2.size
    simp at hz2
    have hbt : w.heap.size + 1 ≠ w1.heap.size := by omega
    have hbt2 : w.heap.size ≠ w1.heap.size := by omega
    have hbt3 : g ≠ w1.heap.size := by omega
    have hbt4 : gb ≠ w1.heap.size := by have := HC.out.2.1.lt; omega
    have hbt5 : w.heap.size ≤ w1.heap.size := by omega
    generalize w1.heap.size = bt at *
    clear HC HG HA0 HA1 a00 a01 a00' a01' hBa hg2
    obtain ⟨a00, a01⟩ := c2_of B2
    obtain ⟨t0, t1, t2, f0, f1, f2⟩ := c3_of T2
    have HC2 := hide (hc2.far hbt3 hbt4 2 (.int .i64 a))
    have HG2 := hide (grow_set G2 hbt5 2 (.int .i64 a))
    have HB2 := hide (B2.far (p := ⟨bt, 2, none⟩) hbt2 (.int .i64 a))
    have HR2 := hide (R2.far (p := ⟨bt, 2, none⟩) hbt (.int .i64 a))
    have HT2 := hide (T2.set 2 (.int .i64 a))
    have hs2 : (w2.setCell ⟨bt, 2, none⟩ (.int .i64 a)).heap.size = w2.heap.size := by simp
    clear hc2 B2 R2 T2 G2
    go_wp2_with fail
    refine (HCl.out _ (below_of_grown HG2.out hBg hBw)).mono ?_
    rintro e w4 ⟨rfl, hb4⟩
    have hz4 := hb4.size
    simp at hz4
    have HC2 := hide (HC2.out.below hb4)
    have HG2 := hide (grown_more HG2.out hb4)
    have HB2 := HB2.out.below hb4 HB2.out.lt
    have HR2 := HR2.out.below hb4 HR2.out.lt
    have HT2 := HT2.out.below hb4 HT2.out.lt
    clear hb4 HU2 HU t0 t1 t2 a00 a01 f0 f1 f2 HCl
    go_wp2_with fail
    obtain ⟨a00, a01⟩ := c2_of HB2
    obtain ⟨r0, r1, r2, fr0, fr1, fr2⟩ := c3_of HR2
    obtain ⟨t0, t1, t2, -⟩ := c3_of HT2
    have HR := hide HR2
    clear HB2 HR2 HT2
    go_region_with (go_at_call 17; refine (HOK.out w4 _ HC2.out).mono ?_; rintro e w9 ⟨rfl, rfl⟩)
    all_goals
      try go_wp2_with fail
      have HF := put3_endN 1 HC2.out HG2.out HR.out (by omega) (.int .i64 7) (.string ⟨#[]⟩) (.int .i64 a)
      dsimp only [put3] at HF
      generalize World.setCell (World.setCell (World.setCell _ _ _) _ _) _ _ = w5 at *
      obtain ⟨q0, q1, q2, -⟩ := c3_of HF.2.2
      refine bodyPost_ret (v := .tuple #[vtV ⟨7, a⟩, .bool (!b2)]) ?_ rfl ?_
      · simp [results, Try.results45, go_sem, q0, q1, q2]
        rfl
      · have hR := HRR.out
        subst hR; cases b2 with
        | true => exact ⟨HF.2.1, HF.1, .inr ⟨rfl, _, rfl⟩⟩
        | false => exact ⟨HF.2.1, HF.1, .inl ⟨_, rfl, rfl⟩⟩

theorem smnext_any (g gb B : Nat) (A : Option Addr) (n c : Nat) (xs : List Int) (ps : List Cst) (s : St) (w : World) (h : Rdr w B g gb A n c xs ps s) :
    Calls Try.prog 45 #[.agg #[.pointer (some ⟨g, 0, none⟩), .slice A n c]] w (NextR (nextS xs ps s) g gb xs w) := by
  by_cases ht : rdN xs s 1 = 0 ∨ rdN xs s 1 = 1 ∨ rdN xs s 1 = 4 ∨ rdN xs s 1 = 5 ∨ rdN xs s 1 = 6
  · exact next_plain g gb B A n c xs ps s w h _ rfl ht
  by_cases h7 : rdN xs s 1 = 7
  · exact next_7 g gb B A n c xs ps s w h h7
  by_cases h8 : rdN xs s 1 = 8
  · exact next_8 g gb B A n c xs ps s w h h8
  exact next_else g gb B A n c xs ps s w h ht h7 h8
end Go.Proofs.Ytlgknednfgpgfaa
