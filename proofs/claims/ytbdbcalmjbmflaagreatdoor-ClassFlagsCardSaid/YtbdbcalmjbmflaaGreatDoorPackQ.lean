/- Texts of one stage, merged. Nothing is claimed here. -/
import Derived.Test.YtbdbcalmjbmflaaGreatDoorPackP
namespace Go.Proofs.YtbdbcalmjbmflaaGreatDoor
open Go.RowKit

section
variable {E : CEnv} {k : Nat} {mj fl : Int} {nm sp : ByteArray} {I F M : Value} {w : World}
def FieldTold (E : CEnv) (kE : Nat) (cls : List Value) (R : Bool) (w : World) (e : Ending) (w' : World) : Prop :=
  (∃ (c0 c3 : Int) (c1 c2 : ByteArray), e = .returned (.tuple #[.agg #[.int .i64 c0, .string c1, .string c2, .int .i64 c3], .bool R])) ∧ (∃ k', (R = true → k' = kE) ∧ CW E k' cls w') ∧ Grew E w w'
theorem Finfo9 : (Tryz.prog.info? 51).map (fun i => (i.zero, i.size, i.bytes)) = some (some (.agg #[.int .i64 0, .string ⟨#[]⟩, .string ⟨#[]⟩, .int .i64 0]), 4, 48) := by kernel_rfl
set_option maxHeartbeats 4000000 in
set_option maxRecDepth 100000 in
theorem listF_1 (h : CW E k (clsV E mj fl nm sp I F M) w) (hk : k + 2 ≤ E.xs.length) (h0 : numAt E.xs k 2 = 1) (kE : Nat) (R : Bool) (f' : Fn) (a' b' : Array Value)
    (HI : Hid (∀ W, CW E (k + 2) (clsV E mj fl nm sp I F M) W → Calls Tryz.prog 39 #[(.agg #[.pointer (some ⟨E.g, 0, none⟩), .pointer (some ⟨E.q, 0, none⟩)])] W (FieldTold E kE (clsV E mj fl nm sp I F M) R W))) :
    Calls Tryz.prog 38 #[.pointer (some ⟨E.g, 0, none⟩), .func (.func 39) #[(.agg #[.pointer (some ⟨E.g, 0, none⟩), .pointer (some ⟨E.q, 0, none⟩)])] #[], .func f' a' b'] w fun e w' => (∃ (A : Option Addr) (n c : Nat), e = .returned (.tuple #[.slice A n c, .bool R])) ∧ (∃ k', (R = true → k' = kE) ∧ CW E k' (clsV E mj fl nm sp I F M) w') ∧ Grew E w w' := by
  have HU : Hid (∀ W, CW E k (clsV E mj fl nm sp I F M) W → Calls Tryz.prog 23 #[.pointer (some ⟨E.g, 0, none⟩)] W fun e w' => e = .returned (.int .i64 1) ∧ CW E (k + 2) (clsV E mj fl nm sp I F M) w' ∧ W.grownBy w' (some E.g)) := hide fun W hW => by
    have := cu2 hW hk
    rwa [h0] at this
  have HC := hide h
  have HH := hide (hasF_0)
  obtain ⟨i0, hi0, iz0, iz1, iz2⟩ := info_parts Finfo9
  clear h hk h0
  go_enter Tryz.func38, Tryz.ntmps38
  go_wp2_with fail
  refine (HU.out _ (HC.out.below ((Below.refl _ _).alloc (Nat.le_refl _) _))).mono ?_
  rintro e w1 ⟨rfl, h1, g1⟩
  have H1 := hide h1
  have G1 : Hid (Grew E w w1) := hide ((Grew.below ((Below.refl w.heap.size w).alloc (Nat.le_refl _) _)).trans (.grown g1))
  clear h1 g1 HC
  go_wp2_with fail
  go_loopw [9, 17] (fun v iv wr => (v = .slice none 0 0 ∧ iv = .int .i64 0 ∧ wr = w1) ∨ (iv = .int .i64 1 ∧ R = true ∧ CW E kE (clsV E mj fl nm sp I F M) wr ∧ Grew E w wr ∧ ∃ A n c, v = .slice A n c)) (fun _ iv _ => 1 - (intOf iv).toNat)
  case atStart => exact .inl ⟨rfl, rfl, rfl⟩
  case round =>
    rcases hrel with ⟨rfl, rfl, rfl⟩ | ⟨rfl, hR, hf, hg, A, n, c, rfl⟩
    · go_wp2_with fail
      refine (HI.out _ H1.out).mono ?_
      rintro e w2 ⟨⟨c0, c3, c1, c2, rfl⟩, ⟨k', hk', h2⟩, g2⟩
      skip
      have hk2 := hide hk'
      have H2 := hide (h2.below ((Below.refl _ _).alloc (Nat.le_refl _) (.cells #[.int .i64 c0, .string c1, .string c2, .int .i64 c3] 51)))
      have G2 : Hid (Grew E w (w2.alloc (.cells #[.int .i64 c0, .string c1, .string c2, .int .i64 c3] 51))) := hide ((G1.out.trans g2).trans (.below ((Below.refl _ _).alloc (Nat.le_refl _) _)))
      clear hk' h2 g2
      cases R
      · go_wp2_with fail
        go_ret2
        exact ⟨⟨_, _, _, rfl⟩, ⟨k', by simp, H2.out⟩, G2.out⟩
      · obtain rfl := hk2.out rfl
        go_wp2_with fail
        generalize hwa : w2.alloc (.cells #[.int .i64 c0, .string c1, .string c2, .int .i64 c3] 51) = wa at *
        refine (HH.out _ _ _ _).mono ?_
        rintro e w3 ⟨rfl, rfl⟩
        have hn : At wa w2.heap.size 51 [.int .i64 c0, .string c1, .string c2, .int .i64 c3] := by
          rw [← hwa]
          exact At.new w2 51 [.int .i64 c0, .string c1, .string c2, .int .i64 c3]
        have y0 : wa.cell? ⟨w2.heap.size, 0, none⟩ = some (.int .i64 c0) := hn.cell 0
        have y1 : wa.cell? ⟨w2.heap.size, 1, none⟩ = some (.string c1) := hn.cell 1
        have y2 : wa.cell? ⟨w2.heap.size, 2, none⟩ = some (.string c2) := hn.cell 2
        have y3 : wa.cell? ⟨w2.heap.size, 3, none⟩ = some (.int .i64 c3) := hn.cell 3
        have HN : Hid (wa.ownsRow wa.heap.size 51 4 (.slice none 0 0) 0 []) := hide ⟨rfl, .inl ⟨rfl, rfl⟩⟩
        clear hn hwa
        go_wp2_with (at_builtin; go_loud (refine wpList_append_many wa rfl (.tmp 31) (.tmp 33) 37 rfl wa.heap.size 51 i0 _ 48 4 (by omega) Tryz.underlying37 hi0 iz0 iz1 iz2 rfl (.slice none 0 0) 0 [] rfl HN.out [.int .i64 c0, .string c1, .string c2, .int .i64 c3] rfl _ rfl rfl rfl (by unfold maxLen; omega) (by omega) (Nat.le_refl _) ?_); intro v5 w5 hown5 hg5)
        have hb5 := below_grown hg5
        obtain ⟨ga, ca, rfl, -⟩ := row_cells hown5 (by omega)
        exact ⟨.inr ⟨rfl, (by first | trivial | rfl), H2.out.below hb5, G2.out.trans (.below hb5), ⟨_, _, _, rfl⟩⟩, by simp [intOf]⟩
    · have HF := hide hf
      have HG := hide hg
      clear hf hg
      subst hR
      go_wp2_with fail
      go_ret2
      first
        | exact ⟨⟨_, _, _, rfl⟩, HF.out, HG.out⟩
        | exact ⟨⟨_, _, _, rfl⟩, ⟨kE, fun _ => rfl, HF.out⟩, HG.out⟩
theorem Minfo9 : (Tryz.prog.info? 47).map (fun i => (i.zero, i.size, i.bytes)) = some (some (.agg #[.int .i64 0, .string ⟨#[]⟩, .string ⟨#[]⟩, .bool false, .int .i64 0, .int .i64 0, .slice none 0 0, .slice none 0 0, .slice none 0 0]), 9, 136) := by kernel_rfl
set_option maxHeartbeats 4000000 in
set_option maxRecDepth 100000 in
theorem listM_1 (h : CW E k (clsV E mj fl nm sp I F M) w) (hk : k + 2 ≤ E.xs.length) (h0 : numAt E.xs k 2 = 1) (kE : Nat) (R : Bool) (f' : Fn) (a' b' : Array Value)
    (HI : Hid (∀ W, CW E (k + 2) (clsV E mj fl nm sp I F M) W → Calls Tryz.prog 42 #[(.agg #[.pointer (some ⟨E.g, 0, none⟩), .pointer (some ⟨E.q, 0, none⟩)])] W (MethodTold E kE (clsV E mj fl nm sp I F M) R W))) :
    Calls Tryz.prog 41 #[.pointer (some ⟨E.g, 0, none⟩), .func (.func 42) #[(.agg #[.pointer (some ⟨E.g, 0, none⟩), .pointer (some ⟨E.q, 0, none⟩)])] #[], .func f' a' b'] w fun e w' => (∃ (A : Option Addr) (n c : Nat), e = .returned (.tuple #[.slice A n c, .bool R])) ∧ (∃ k', (R = true → k' = kE) ∧ CW E k' (clsV E mj fl nm sp I F M) w') ∧ Grew E w w' := by
  have HU : Hid (∀ W, CW E k (clsV E mj fl nm sp I F M) W → Calls Tryz.prog 23 #[.pointer (some ⟨E.g, 0, none⟩)] W fun e w' => e = .returned (.int .i64 1) ∧ CW E (k + 2) (clsV E mj fl nm sp I F M) w' ∧ W.grownBy w' (some E.g)) := hide fun W hW => by
    have := cu2 hW hk
    rwa [h0] at this
  have HC := hide h
  have HH := hide (hasM_0)
  obtain ⟨i0, hi0, iz0, iz1, iz2⟩ := info_parts Minfo9
  clear h hk h0
  go_enter Tryz.func41, Tryz.ntmps41
  go_wp2_with fail
  refine (HU.out _ (HC.out.below ((Below.refl _ _).alloc (Nat.le_refl _) _))).mono ?_
  rintro e w1 ⟨rfl, h1, g1⟩
  have H1 := hide h1
  have G1 : Hid (Grew E w w1) := hide ((Grew.below ((Below.refl w.heap.size w).alloc (Nat.le_refl _) _)).trans (.grown g1))
  clear h1 g1 HC
  go_wp2_with fail
  go_loopw [9, 17] (fun v iv wr => (v = .slice none 0 0 ∧ iv = .int .i64 0 ∧ wr = w1) ∨ (iv = .int .i64 1 ∧ R = true ∧ CW E kE (clsV E mj fl nm sp I F M) wr ∧ Grew E w wr ∧ ∃ A n c, v = .slice A n c)) (fun _ iv _ => 1 - (intOf iv).toNat)
  case atStart => exact .inl ⟨rfl, rfl, rfl⟩
  case round =>
    rcases hrel with ⟨rfl, rfl, rfl⟩ | ⟨rfl, hR, hf, hg, A, n, c, rfl⟩
    · go_wp2_with fail
      refine (HI.out _ H1.out).mono ?_
      rintro e w2 ⟨⟨x0, x4, x5, x1, x2, x3, A, m, rfl⟩, ⟨k', hk', h2⟩, g2⟩
      unfold methodV
      have hk2 := hide hk'
      have H2 := hide (h2.below ((Below.refl _ _).alloc (Nat.le_refl _) (.cells #[.int .i64 x0, .string x1, .string x2, .bool x3, .int .i64 x4, .int .i64 x5, .slice A m m, .slice none 0 0, .slice none 0 0] 47)))
      have G2 : Hid (Grew E w (w2.alloc (.cells #[.int .i64 x0, .string x1, .string x2, .bool x3, .int .i64 x4, .int .i64 x5, .slice A m m, .slice none 0 0, .slice none 0 0] 47))) := hide ((G1.out.trans g2).trans (.below ((Below.refl _ _).alloc (Nat.le_refl _) _)))
      clear hk' h2 g2
      cases R
      · go_wp2_with fail
        go_ret2
        exact ⟨⟨_, _, _, rfl⟩, ⟨k', by simp, H2.out⟩, G2.out⟩
      · obtain rfl := hk2.out rfl
        go_wp2_with fail
        generalize hwa : w2.alloc (.cells #[.int .i64 x0, .string x1, .string x2, .bool x3, .int .i64 x4, .int .i64 x5, .slice A m m, .slice none 0 0, .slice none 0 0] 47) = wa at *
        refine (HH.out _ _ _ _).mono ?_
        rintro e w3 ⟨rfl, rfl⟩
        have hn : At wa w2.heap.size 47 [.int .i64 x0, .string x1, .string x2, .bool x3, .int .i64 x4, .int .i64 x5, .slice A m m, .slice none 0 0, .slice none 0 0] := by
          rw [← hwa]
          exact At.new w2 47 [.int .i64 x0, .string x1, .string x2, .bool x3, .int .i64 x4, .int .i64 x5, .slice A m m, .slice none 0 0, .slice none 0 0]
        have y0 : wa.cell? ⟨w2.heap.size, 0, none⟩ = some (.int .i64 x0) := hn.cell 0
        have y1 : wa.cell? ⟨w2.heap.size, 1, none⟩ = some (.string x1) := hn.cell 1
        have y2 : wa.cell? ⟨w2.heap.size, 2, none⟩ = some (.string x2) := hn.cell 2
        have y3 : wa.cell? ⟨w2.heap.size, 3, none⟩ = some (.bool x3) := hn.cell 3
        have y4 : wa.cell? ⟨w2.heap.size, 4, none⟩ = some (.int .i64 x4) := hn.cell 4
        have y5 : wa.cell? ⟨w2.heap.size, 5, none⟩ = some (.int .i64 x5) := hn.cell 5
        have y6 : wa.cell? ⟨w2.heap.size, 6, none⟩ = some (.slice A m m) := hn.cell 6
        have y7 : wa.cell? ⟨w2.heap.size, 7, none⟩ = some (.slice none 0 0) := hn.cell 7
        have y8 : wa.cell? ⟨w2.heap.size, 8, none⟩ = some (.slice none 0 0) := hn.cell 8
        have HN : Hid (wa.ownsRow wa.heap.size 47 9 (.slice none 0 0) 0 []) := hide ⟨rfl, .inl ⟨rfl, rfl⟩⟩
        clear hn hwa
        go_wp2_with (at_builtin; go_loud (refine wpList_append_many wa rfl (.tmp 31) (.tmp 33) 38 rfl wa.heap.size 47 i0 _ 136 9 (by omega) Tryz.underlying38 hi0 iz0 iz1 iz2 rfl (.slice none 0 0) 0 [] rfl HN.out [.int .i64 x0, .string x1, .string x2, .bool x3, .int .i64 x4, .int .i64 x5, .slice A m m, .slice none 0 0, .slice none 0 0] rfl _ rfl rfl rfl (by unfold maxLen; omega) (by omega) (Nat.le_refl _) ?_); intro v5 w5 hown5 hg5)
        have hb5 := below_grown hg5
        obtain ⟨ga, ca, rfl, -⟩ := row_cells hown5 (by omega)
        exact ⟨.inr ⟨rfl, (by first | trivial | rfl), H2.out.below hb5, G2.out.trans (.below hb5), ⟨_, _, _, rfl⟩⟩, by simp [intOf]⟩
    · have HF := hide hf
      have HG := hide hg
      clear hf hg
      subst hR
      go_wp2_with fail
      go_ret2
      first
        | exact ⟨⟨_, _, _, rfl⟩, HF.out, HG.out⟩
        | exact ⟨⟨_, _, _, rfl⟩, ⟨kE, fun _ => rfl, HF.out⟩, HG.out⟩
end
end Go.Proofs.YtbdbcalmjbmflaaGreatDoor
namespace Go.Proofs.YtbdbcalmjbmflaaGreatDoor
open Go.RowKit

section
variable {E : CEnv} {k : Nat} {mj fl : Int} {nm sp : ByteArray} {I F M : Value} {w : World}
set_option maxHeartbeats 2000000 in
set_option maxRecDepth 100000 in
theorem fields_1 (h : CW E k (clsV E mj fl nm sp I F M) w) (hk : k + 2 ≤ E.xs.length) (h0 : numAt E.xs k 2 = 1) (kE : Nat) (R : Bool)
    (HI : Hid (∀ W, CW E (k + 2) (clsV E mj fl nm sp I F M) W → Calls Tryz.prog 39 #[(.agg #[.pointer (some ⟨E.g, 0, none⟩), .pointer (some ⟨E.q, 0, none⟩)])] W (FieldTold E kE (clsV E mj fl nm sp I F M) R W))) :
    Calls Tryz.prog 28 #[(.agg #[.pointer (some ⟨E.g, 0, none⟩), .pointer (some ⟨E.q, 0, none⟩)])] w fun e w' => e = .returned (.bool R) ∧ (∃ k' V, (R = true → k' = kE) ∧ CW E k' (clsV E mj fl nm sp I V M) w') ∧ Grew E w w' := by
  have HB := hide h.boxed
  have HL := hide (fun W (hW : CW E k (clsV E mj fl nm sp I F M) W) => listF_1 hW hk h0 kE R (.func 40) #[] #[] HI)
  clear h hk h0
  obtain ⟨a0, a1⟩ := HB.out.box
  go_enter Tryz.func28, Tryz.ntmps28
  go_wp2_with fail
  generalize w.alloc (.cells #[.pointer (some ⟨E.g, 0, none⟩), .pointer (some ⟨E.q, 0, none⟩)] 58) = wa at *
  refine (HL.out _ HB.out.1).mono ?_
  rintro e w1 ⟨⟨A, n, c, rfl⟩, ⟨k', hk', h1⟩, g1⟩
  have H1 := hide (HB.out.call h1 g1)
  have HK := hide hk'
  clear h1 g1 HB a0 a1 hk'
  obtain ⟨a0, a1⟩ := H1.out.box
  have c5 : w1.cell? ⟨E.q, 6, none⟩ = some F := H1.out.1.cls.cell 6
  have f5 := H1.out.1.cls.free 6
  go_wp2_with fail
  go_ret
  have H2 := H1.out.putQ 6 (.slice A n c)
  exact ⟨rfl, ⟨k', .slice A n c, HK.out, H2.1⟩, H2.2.2.1⟩
set_option maxHeartbeats 2000000 in
set_option maxRecDepth 100000 in
theorem methods_1 (h : CW E k (clsV E mj fl nm sp I F M) w) (hk : k + 2 ≤ E.xs.length) (h0 : numAt E.xs k 2 = 1) (kE : Nat) (R : Bool)
    (HI : Hid (∀ W, CW E (k + 2) (clsV E mj fl nm sp I F M) W → Calls Tryz.prog 42 #[(.agg #[.pointer (some ⟨E.g, 0, none⟩), .pointer (some ⟨E.q, 0, none⟩)])] W (MethodTold E kE (clsV E mj fl nm sp I F M) R W))) :
    Calls Tryz.prog 29 #[(.agg #[.pointer (some ⟨E.g, 0, none⟩), .pointer (some ⟨E.q, 0, none⟩)])] w fun e w' => e = .returned (.bool R) ∧ (∃ k' V, (R = true → k' = kE) ∧ CW E k' (clsV E mj fl nm sp I F V) w') ∧ Grew E w w' := by
  have HB := hide h.boxed
  have HL := hide (fun W (hW : CW E k (clsV E mj fl nm sp I F M) W) => listM_1 hW hk h0 kE R (.func 43) #[] #[] HI)
  clear h hk h0
  obtain ⟨a0, a1⟩ := HB.out.box
  go_enter Tryz.func29, Tryz.ntmps29
  go_wp2_with fail
  generalize w.alloc (.cells #[.pointer (some ⟨E.g, 0, none⟩), .pointer (some ⟨E.q, 0, none⟩)] 58) = wa at *
  refine (HL.out _ HB.out.1).mono ?_
  rintro e w1 ⟨⟨A, n, c, rfl⟩, ⟨k', hk', h1⟩, g1⟩
  have H1 := hide (HB.out.call h1 g1)
  have HK := hide hk'
  clear h1 g1 HB a0 a1 hk'
  obtain ⟨a0, a1⟩ := H1.out.box
  have c5 : w1.cell? ⟨E.q, 7, none⟩ = some M := H1.out.1.cls.cell 7
  have f5 := H1.out.1.cls.free 7
  go_wp2_with fail
  go_ret
  have H2 := H1.out.putQ 7 (.slice A n c)
  exact ⟨rfl, ⟨k', .slice A n c, HK.out, H2.1⟩, H2.2.2.1⟩
/-- Where the pool lies, the cursor and the class are not. -/
theorem pool_apart {ps : List Cst} {A : Option Addr} {B g gb q k : Nat} {xs : List Int} {mj fl : Int} {P I F M : Value} {nm sp : ByteArray} (hr : RdC w B A ps.length ps) (hn : 0 < ps.length) (hc : Cur w g gb xs k false)
    (hq : At w q 40 [.int .i64 mj, P, .int .i64 fl, .string nm, .string sp, I, F, M]) : ∃ pb po, A = some ⟨pb, po, none⟩ ∧ pb < B ∧ pb ≠ g ∧ pb ≠ q ∧ RdC w (pb + 1) (some ⟨pb, po, none⟩) ps.length ps := by
  obtain ⟨b, o, ha, hb, c0, c1, c2, c3, c4⟩ := hr.cells5 hn
  simp only [Nat.zero_mul, Nat.add_zero] at c0 c1 c2 c3 c4
  refine ⟨b, o, ha, hb, ?_, ?_, hr.1, fun h => ?_⟩
  · rintro rfl
    rw [hc.1.cell] at c4
    have := (List.getElem?_eq_some_iff.1 c4).1
    simp only [List.length_cons, List.length_nil] at this
    omega
  · rintro rfl
    rw [hq.cell] at c0 c1 c2 c3 c4
    have h4 := (List.getElem?_eq_some_iff.1 c4).1
    simp at h4
    match o, h4 with
    | 0, _ => simp at c3
    | 1, _ => simp at c1
    | 2, _ => simp at c2
    | 3, _ => simp at c0
  · obtain ⟨b', o', ha', hb', hcs⟩ := hr.2 h
    rw [ha] at ha'
    injection ha' with ha'
    injection ha' with e1 e2
    subst e1 e2
    exact ⟨b, o, rfl, Nat.lt_succ_self _, hcs⟩
set_option maxHeartbeats 2000000 in
set_option maxRecDepth 100000 in
/-- The pool, read into the class. -/
theorem pool9_any (w0 : World) (g gb q : Nat) (xs : List Int) (ps : List Cst) (m : Nat) (mj : Int) (w : World) (ho : Below w0.heap.size w0 w) (hm : Maxed w0) (hc : Cur w g gb xs 0 false) (hq : At w q 40 [.int .i64 mj, .slice none 0 0, .int .i64 0, .string ⟨#[]⟩, .string ⟨#[]⟩, .slice none 0 0, .slice none 0 0, .slice none 0 0])
    (hg : w0.heap.size ≤ g) (hq0 : w0.heap.size ≤ q) (hp : pool xs = some (ps, m)) (hn : 0 < ps.length) :
    Calls Tryz.prog 25 #[.agg #[.pointer (some ⟨g, 0, none⟩), .pointer (some ⟨q, 0, none⟩)]] w fun e w' => e = .returned (.bool true) ∧ ∃ pb po pc, CW ⟨w0, g, gb, q, pb, po, pc, xs, ps⟩ m (clsV ⟨w0, g, gb, q, pb, po, pc, xs, ps⟩ mj 0 ⟨#[]⟩ ⟨#[]⟩ (.slice none 0 0) (.slice none 0 0) (.slice none 0 0)) w' ∧ Grew ⟨w0, g, gb, q, pb, po, pc, xs, ps⟩ w w' := by
  have HP : Hid (∀ W, Maxed W → Cur W g gb xs 0 false → Calls Tryz.prog 32 #[.pointer (some ⟨g, 0, none⟩)] W (PTold (some (ps, m)) g gb xs 0 W)) := hide fun W h1 h2 => by
    have := reads_pool g gb xs 0 W h1 h2
    rwa [List.drop_zero, hp] at this
  have HM := hide hm
  have HO := hide ho
  have HC := hide (hc.grown (grown_below ((Below.refl w.heap.size w).alloc (Nat.le_refl _) (.cells #[.pointer (some ⟨g, 0, none⟩), .pointer (some ⟨q, 0, none⟩)] 58)) none) (by simp) (by simp))
  have HQ := hide (hq.alloc (.cells #[.pointer (some ⟨g, 0, none⟩), .pointer (some ⟨q, 0, none⟩)] 58))
  have HX := hide (At.new w 58 [.pointer (some ⟨g, 0, none⟩), .pointer (some ⟨q, 0, none⟩)])
  have HB := hide (ho.alloc ho.size (.cells #[.pointer (some ⟨g, 0, none⟩), .pointer (some ⟨q, 0, none⟩)] 58))
  have HW := hide ((Below.refl w.heap.size w).alloc (Nat.le_refl _) (.cells #[.pointer (some ⟨g, 0, none⟩), .pointer (some ⟨q, 0, none⟩)] 58))
  have lg := hc.1.lt
  have lq := hq.lt
  have qg : q ≠ g := hq.ne hc.1 (by decide)
  have a0 := HX.out.cell 0
  have a1 := HX.out.cell 1
  simp only [List.getElem?_cons_zero, List.getElem?_cons_succ] at a0 a1
  clear ho hm hc hq hp
  go_enter Tryz.func25, Tryz.ntmps25
  go_wp2_with fail
  generalize w.alloc (.cells #[.pointer (some ⟨g, 0, none⟩), .pointer (some ⟨q, 0, none⟩)] 58) = wa at *
  refine (HP.out _ (HM.out.below HB.out) HC.out).mono ?_
  rintro e w1 ⟨gr, ⟨h, _⟩ | ⟨ps', m', A, c, h, rfl, hr, hc1, _⟩⟩
  · cases h
  · cases h
    rw [Nat.zero_add] at hc1
    have hq1 := HQ.out.grown gr (by simpa using qg)
    obtain ⟨pb, po, rfl, hpb, hpg, hpq, hr1⟩ := pool_apart hr hn hc1 hq1
    have HX1 := hide (HX.out.grown gr (by simp; omega))
    have Hgr := hide gr
    have HQ1 := hide hq1
    have HC1 := hide hc1
    have HR1 := hide hr1
    have b0 := HX1.out.cell 0
    have b1 := HX1.out.cell 1
    simp only [List.getElem?_cons_zero, List.getElem?_cons_succ] at b0 b1
    have c1 : w1.cell? ⟨q, 1, none⟩ = some (.slice none 0 0) := hq1.cell 1
    have f1 := hq1.free 1
    clear gr hc1 hq1 hr hr1 a0 a1
    go_wp2_with fail
    go_ret
    have hs : w1.grownBy (w1.setCell ⟨q, 1, none⟩ (.slice (some ⟨pb, po, none⟩) ps.length c)) (some q) := only_set _
    refine ⟨rfl, pb, po, c, ⟨(HB.out.grown Hgr.out HB.out.size (by intro j hj; cases hj; exact hg)).grown hs (Nat.le_trans HB.out.size Hgr.out.size) (by intro j hj; cases hj; exact hq0), HM.out, HC1.out.grown hs (by simpa using qg.symm) (by simpa using (HQ1.out.ne HC1.out.2.1 (by decide)).symm), HQ1.out.set 1 _, ⟨HR1.out.1, fun hn => ?_⟩, hg, hq0, hpg, hpq, Nat.lt_of_lt_of_le hpb hs.size⟩, ?_⟩
    · obtain ⟨b', o, ha, hb, hcs⟩ := HR1.out.2 hn
      obtain ⟨rfl, rfl⟩ : b' = pb ∧ o = po := by simpa [eq_comm] using ha
      refine ⟨_, _, rfl, hb, fun j u hu => ?_⟩
      rw [← hcs j u hu]
      have := hs.block b' hpb (by simpa using hpq)
      unfold World.cell?
      simp only [this]
    · refine ⟨Nat.le_trans HW.out.size (Nat.le_trans Hgr.out.size hs.size), fun b hb h1 h2 => ?_⟩
      have hbz : b < wa.heap.size := Nat.lt_of_lt_of_le hb HW.out.size
      rw [hs.block b (Nat.lt_of_lt_of_le hbz Hgr.out.size) (by simpa using h2), Hgr.out.block b hbz (by simpa using h1), HW.out.block b hb]
end
end Go.Proofs.YtbdbcalmjbmflaaGreatDoor
namespace Go.Proofs.YtbdbcalmjbmflaaGreatDoor
open Go.RowKit

section
variable {w : World}
/-- Parts' own copy of what it stands on. -/
def PQ9 (E : CEnv) (wb : World) (k : Nat) (cls : List Value) (w : World) : Prop := CW E k cls w ∧ At w wb.heap.size 58 [.pointer (some ⟨E.g, 0, none⟩), .pointer (some ⟨E.q, 0, none⟩)] ∧ Grew E wb w
theorem PQ9.call {E : CEnv} {wb w w' : World} {k k' : Nat} {cls cls' : List Value} (h : PQ9 E wb k cls w) (hc : CW E k' cls' w') (hg : Grew E w w') : PQ9 E wb k' cls' w' := ⟨hc, h.2.1.grew hg h.1 (by decide) (by decide), h.2.2.trans hg⟩
theorem PQ9.box {E : CEnv} {wb w : World} {k : Nat} {cls : List Value} (h : PQ9 E wb k cls w) : w.cell? ⟨wb.heap.size, 0, none⟩ = some (.pointer (some ⟨E.g, 0, none⟩)) ∧ w.cell? ⟨wb.heap.size, 1, none⟩ = some (.pointer (some ⟨E.q, 0, none⟩)) := ⟨h.2.1.cell 0, h.2.1.cell 1⟩
/-- What is told of the parts: whether the rules hold; if so, where the cursor stands and what the class is. -/
def PartsTold (w0 : World) (g gb q : Nat) (xs : List Int) (kE : Nat) (mj fl : Int) (s1 s2 : ByteArray) (M : Value → Prop) (R : Bool) (w : World) (e : Ending) (w' : World) : Prop :=
  e = .returned (.bool R) ∧ Below w0.heap.size w0 w' ∧ (w.heap.size ≤ w'.heap.size ∧ ∀ b, b < w.heap.size → b ≠ g → b ≠ q → w'.heap[b]? = w.heap[b]?) ∧
    (R = true → Cur w' g gb xs kE false ∧ ∃ P I F V, M V ∧ At w' q 40 [.int .i64 mj, P, .int .i64 fl, .string s1, .string s2, I, F, V])
theorem parts_no {E : CEnv} {wb w' : World} {k : Nat} {cls : List Value} (h : PQ9 E wb k cls w') (kE : Nat) (mj fl : Int) (s1 s2 : ByteArray) (M : Value → Prop) : PartsTold E.w0 E.g E.gb E.q E.xs kE mj fl s1 s2 M false wb (.returned (.bool false)) w' :=
  ⟨rfl, h.1.out, h.2.2, fun h => by cases h⟩
theorem parts_yes {E : CEnv} {wb w' : World} {k : Nat} {mj fl : Int} {s1 s2 : ByteArray} {I F V : Value} (h : PQ9 E wb k (clsV E mj fl s1 s2 I F V) w') (kE : Nat) (hk : k = kE) (M : Value → Prop) (hM : M V) : PartsTold E.w0 E.g E.gb E.q E.xs kE mj fl s1 s2 M true wb (.returned (.bool true)) w' :=
  ⟨rfl, h.1.out, h.2.2, fun _ => ⟨hk ▸ h.1.cur, _, _, _, _, hM, h.1.cls⟩⟩
set_option maxHeartbeats 4000000 in
set_option maxRecDepth 100000 in
theorem parts_0 (w0 : World) (g gb q : Nat) (xs : List Int) (ps : List Cst) (m : Nat) (mj : Int) (w : World) (ho : Below w0.heap.size w0 w) (hm : Maxed w0) (hc : Cur w g gb xs 0 false) (hq : At w q 40 [.int .i64 mj, .slice none 0 0, .int .i64 0, .string ⟨#[]⟩, .string ⟨#[]⟩, .slice none 0 0, .slice none 0 0, .slice none 0 0])
    (hg : w0.heap.size ≤ g) (hq0 : w0.heap.size ≤ q) (hp : pool xs = some (ps, m)) (hn : 0 < ps.length) (hl : m + 14 ≤ xs.length) (v : Int) (hv : numAt xs m 2 = v) (t1 t2 : List Int) (h1 : classAt ps (numAt xs (m + 2) 2) = some t1) (h2 : classAt ps (numAt xs (m + 4) 2) = some t2) (b1 : IsBytes t1) (b2 : IsBytes t2)
    (c1 : classB t1 = true) (c2 : classB t2 = true) (s1 s2 : ByteArray) (e1 : strOfNums t1 = s1) (e2 : strOfNums t2 = s2) (hsup : has v 512 = true → s2 = sObj) (hI : numAt xs (m + 6) 2 = 0)
    (hF : numAt xs (m + 8) 2 = 0) (hM : numAt xs (m + 10) 2 = 0) (hO : numAt xs (m + 12) 2 = 0) :
    Calls Tryz.prog 19 #[.agg #[.pointer (some ⟨g, 0, none⟩), .pointer (some ⟨q, 0, none⟩)]] w (PartsTold w0 g gb q xs (m + 14) mj v s1 s2 (fun V => V = .slice none 0 0) (classFlagsB v) w) := by
  have lg := hc.1.lt
  have lq := hq.lt
  have qg : q ≠ g := hq.ne hc.1 (by decide)
  have HQa := hide (hq.alloc (.cells #[.pointer (some ⟨g, 0, none⟩), .pointer (some ⟨q, 0, none⟩)] 58))
  have HCa := hide (hc.grown (grown_below ((Below.refl w.heap.size w).alloc (Nat.le_refl _) (.cells #[.pointer (some ⟨g, 0, none⟩), .pointer (some ⟨q, 0, none⟩)] 58)) none) (by simp) (by simp))
  have HB := hide (ho.alloc ho.size (.cells #[.pointer (some ⟨g, 0, none⟩), .pointer (some ⟨q, 0, none⟩)] 58))
  have HX := hide (At.new w 58 [.pointer (some ⟨g, 0, none⟩), .pointer (some ⟨q, 0, none⟩)])
  have HW := hide ((Below.refl w.heap.size w).alloc (Nat.le_refl _) (.cells #[.pointer (some ⟨g, 0, none⟩), .pointer (some ⟨q, 0, none⟩)] 58))
  have HP := hide (fun W a b c => pool9_any w0 g gb q xs ps m mj W a hm b c hg hq0 hp hn)
  have HS : Hid (∀ (E : CEnv), E.xs = xs → E.ps = ps → ∀ W, CW E m (clsV E mj 0 ⟨#[]⟩ ⟨#[]⟩ (.slice none 0 0) (.slice none 0 0) (.slice none 0 0)) W → Calls Tryz.prog 26 #[(.agg #[.pointer (some ⟨E.g, 0, none⟩), .pointer (some ⟨E.q, 0, none⟩)])] W fun e w' => e = .returned (.bool (classFlagsB v)) ∧ CW E (m + 6) (clsV E mj v s1 s2 (.slice none 0 0) (.slice none 0 0) (.slice none 0 0)) w' ∧ Grew E W w') := hide fun E h3 h4 W hW => by
    subst h3 h4 e1 e2
    exact self_any hW (by omega) v hv t1 t2 h1 h2 b1 b2 c1 c2 hsup
  have HI : Hid (∀ (E : CEnv), E.xs = xs → ∀ W, CW E (m + 6) (clsV E mj v s1 s2 (.slice none 0 0) (.slice none 0 0) (.slice none 0 0)) W → Calls Tryz.prog 27 #[(.agg #[.pointer (some ⟨E.g, 0, none⟩), .pointer (some ⟨E.q, 0, none⟩)])] W fun e w' => e = .returned (.bool true) ∧ CW E (m + 8) (clsV E mj v s1 s2 (.slice none 0 0) (.slice none 0 0) (.slice none 0 0)) w' ∧ Grew E W w') := hide fun E h3 W hW => by
    subst h3
    exact interfaces_0 hW (by omega) hI
  have HF : Hid (∀ (E : CEnv), E.xs = xs → ∀ W, CW E (m + 8) (clsV E mj v s1 s2 (.slice none 0 0) (.slice none 0 0) (.slice none 0 0)) W → Calls Tryz.prog 28 #[(.agg #[.pointer (some ⟨E.g, 0, none⟩), .pointer (some ⟨E.q, 0, none⟩)])] W fun e w' => e = .returned (.bool true) ∧ CW E (m + 10) (clsV E mj v s1 s2 (.slice none 0 0) (.slice none 0 0) (.slice none 0 0)) w' ∧ Grew E W w') := hide fun E h3 W hW => by
    subst h3
    exact fields_0 hW (by omega) hF
  have HM : Hid (∀ (E : CEnv), E.xs = xs → ∀ W, CW E (m + 10) (clsV E mj v s1 s2 (.slice none 0 0) (.slice none 0 0) (.slice none 0 0)) W → Calls Tryz.prog 29 #[(.agg #[.pointer (some ⟨E.g, 0, none⟩), .pointer (some ⟨E.q, 0, none⟩)])] W fun e w' => e = .returned (.bool true) ∧ CW E (m + 12) (clsV E mj v s1 s2 (.slice none 0 0) (.slice none 0 0) (.slice none 0 0)) w' ∧ Grew E W w') := hide fun E h3 W hW => by
    subst h3
    exact methods_0 hW (by omega) hM
  have HO : Hid (∀ (E : CEnv), E.xs = xs → ∀ W, CW E (m + 12) (clsV E mj v s1 s2 (.slice none 0 0) (.slice none 0 0) (.slice none 0 0)) W → Calls Tryz.prog 30 #[(.agg #[.pointer (some ⟨E.g, 0, none⟩), .pointer (some ⟨E.q, 0, none⟩)])] W fun e w' => e = .returned (.bool true) ∧ CW E (m + 14) (clsV E mj v s1 s2 (.slice none 0 0) (.slice none 0 0) (.slice none 0 0)) w' ∧ Grew E W w') := hide fun E h3 W hW => by
    subst h3
    exact others_0 hW (by omega) hO
  clear hF hM hO
  clear ho hm hc hq hp h1 h2 b1 b2 c1 c2 e1 e2 hsup hI hv
  obtain ⟨R1, hR1⟩ : ∃ R1, classFlagsB v = R1 := ⟨_, rfl⟩
  rw [hR1] at HS ⊢
  clear hR1
  have a0 := HX.out.cell 0
  have a1 := HX.out.cell 1
  simp only [List.getElem?_cons_zero, List.getElem?_cons_succ] at a0 a1
  go_enter Tryz.func19, Tryz.ntmps19
  go_wp2_with fail
  generalize hwa : w.alloc (.cells #[.pointer (some ⟨g, 0, none⟩), .pointer (some ⟨q, 0, none⟩)] 58) = wa at *
  refine (HP.out _ HB.out HCa.out HQa.out).mono ?_
  rintro e w1 ⟨rfl, pb, po, pc, h1, g1⟩
  have H1 : Hid (PQ9 ⟨w0, g, gb, q, pb, po, pc, xs, ps⟩ w m _ w1) := hide ⟨h1, (g1.2 _ (by rw [← hwa]; simp) (show w.heap.size ≠ g by omega) (show w.heap.size ≠ q by omega)).trans HX.out, (Grew.below HW.out).trans g1⟩
  clear h1 g1 HQa HCa HX a0 a1 HW HP hwa HB
  obtain ⟨E, hE⟩ : ∃ E : CEnv, E = ⟨w0, g, gb, q, pb, po, pc, xs, ps⟩ := ⟨_, rfl⟩
  obtain ⟨rfl, rfl, rfl, rfl, rfl, rfl⟩ : w0 = E.w0 ∧ g = E.g ∧ gb = E.gb ∧ q = E.q ∧ xs = E.xs ∧ ps = E.ps := by subst hE; exact ⟨rfl, rfl, rfl, rfl, rfl, rfl⟩
  rw [← hE] at H1
  clear hE
  obtain ⟨a0, a1⟩ := H1.out.box
  go_wp2_with fail
  refine (HS.out E rfl rfl _ H1.out.1).mono ?_
  rintro e w2 ⟨rfl, h2, g2⟩
  have H2 := hide (H1.out.call h2 g2)
  clear h2 g2 H1 a0 a1 HS
  obtain ⟨a0, a1⟩ := H2.out.box
  cases R1
  · go_wp2_with fail
    go_ret
    exact parts_no H2.out _ _ _ _ _ _
  go_wp2_with fail
  refine (HI.out E rfl _ H2.out.1).mono ?_
  rintro e w3 ⟨rfl, h3, g3⟩
  have H3 := hide (H2.out.call h3 g3)
  clear h3 g3 H2 a0 a1 HI
  obtain ⟨a0, a1⟩ := H3.out.box
  go_wp2_with fail
  refine (HF.out E rfl _ H3.out.1).mono ?_
  rintro e w4 ⟨rfl, h4, g4⟩
  have H4 := hide (H3.out.call h4 g4)
  clear h4 g4 H3 a0 a1
  obtain ⟨a0, a1⟩ := H4.out.box
  go_wp2_with fail
  refine (HM.out E rfl _ H4.out.1).mono ?_
  rintro e w5 ⟨rfl, h5, g5⟩
  have H5 := hide (H4.out.call h5 g5)
  clear h5 g5 H4 a0 a1
  obtain ⟨a0, a1⟩ := H5.out.box
  go_wp2_with fail
  refine (HO.out E rfl _ H5.out.1).mono ?_
  rintro e w6 ⟨rfl, h6, g6⟩
  have H6 := hide (H5.out.call h6 g6)
  clear h6 g6 H5 a0 a1
  go_wp2_with fail
  go_ret
  exact parts_yes H6.out _ rfl _ rfl
set_option maxHeartbeats 4000000 in
set_option maxRecDepth 100000 in
theorem parts_1 (w0 : World) (g gb q : Nat) (xs : List Int) (ps : List Cst) (m : Nat) (mj : Int) (w : World) (ho : Below w0.heap.size w0 w) (hm : Maxed w0) (hc : Cur w g gb xs 0 false) (hq : At w q 40 [.int .i64 mj, .slice none 0 0, .int .i64 0, .string ⟨#[]⟩, .string ⟨#[]⟩, .slice none 0 0, .slice none 0 0, .slice none 0 0])
    (hg : w0.heap.size ≤ g) (hq0 : w0.heap.size ≤ q) (hp : pool xs = some (ps, m)) (hn : 0 < ps.length) (hl : m + 20 ≤ xs.length) (v : Int) (hv : numAt xs m 2 = v) (t1 t2 : List Int) (h1 : classAt ps (numAt xs (m + 2) 2) = some t1) (h2 : classAt ps (numAt xs (m + 4) 2) = some t2) (b1 : IsBytes t1) (b2 : IsBytes t2)
    (c1 : classB t1 = true) (c2 : classB t2 = true) (s1 s2 : ByteArray) (e1 : strOfNums t1 = s1) (e2 : strOfNums t2 = s2) (hsup : has v 512 = true → s2 = sObj) (hI : numAt xs (m + 6) 2 = 0)
    (fR mR : Bool) (kE : Nat) (lk : m + 20 ≤ kE) (lE : kE + 2 ≤ xs.length) (hF : numAt xs (m + 8) 2 = 1) (hM : numAt xs (m + 18) 2 = 1) (hO : numAt xs kE 2 = 0)
    (HF1 : Hid (∀ (E : CEnv), E.xs = xs → E.ps = ps → ∀ nm sp I F M W, CW E (m + 10) (clsV E mj v nm sp I F M) W → Calls Tryz.prog 39 #[(.agg #[.pointer (some ⟨E.g, 0, none⟩), .pointer (some ⟨E.q, 0, none⟩)])] W (FieldTold E (m + 18) (clsV E mj v nm sp I F M) fR W)))
    (HM1 : Hid (∀ (E : CEnv), E.xs = xs → E.ps = ps → ∀ nm sp I F M W, CW E (m + 20) (clsV E mj v nm sp I F M) W → Calls Tryz.prog 42 #[(.agg #[.pointer (some ⟨E.g, 0, none⟩), .pointer (some ⟨E.q, 0, none⟩)])] W (MethodTold E kE (clsV E mj v nm sp I F M) mR W))) :
    Calls Tryz.prog 19 #[.agg #[.pointer (some ⟨g, 0, none⟩), .pointer (some ⟨q, 0, none⟩)]] w (PartsTold w0 g gb q xs (kE + 2) mj v s1 s2 (fun _ => True) (classFlagsB v && (fR && mR)) w) := by
  have lg := hc.1.lt
  have lq := hq.lt
  have qg : q ≠ g := hq.ne hc.1 (by decide)
  have HQa := hide (hq.alloc (.cells #[.pointer (some ⟨g, 0, none⟩), .pointer (some ⟨q, 0, none⟩)] 58))
  have HCa := hide (hc.grown (grown_below ((Below.refl w.heap.size w).alloc (Nat.le_refl _) (.cells #[.pointer (some ⟨g, 0, none⟩), .pointer (some ⟨q, 0, none⟩)] 58)) none) (by simp) (by simp))
  have HB := hide (ho.alloc ho.size (.cells #[.pointer (some ⟨g, 0, none⟩), .pointer (some ⟨q, 0, none⟩)] 58))
  have HX := hide (At.new w 58 [.pointer (some ⟨g, 0, none⟩), .pointer (some ⟨q, 0, none⟩)])
  have HW := hide ((Below.refl w.heap.size w).alloc (Nat.le_refl _) (.cells #[.pointer (some ⟨g, 0, none⟩), .pointer (some ⟨q, 0, none⟩)] 58))
  have HP := hide (fun W a b c => pool9_any w0 g gb q xs ps m mj W a hm b c hg hq0 hp hn)
  have HS : Hid (∀ (E : CEnv), E.xs = xs → E.ps = ps → ∀ W, CW E m (clsV E mj 0 ⟨#[]⟩ ⟨#[]⟩ (.slice none 0 0) (.slice none 0 0) (.slice none 0 0)) W → Calls Tryz.prog 26 #[(.agg #[.pointer (some ⟨E.g, 0, none⟩), .pointer (some ⟨E.q, 0, none⟩)])] W fun e w' => e = .returned (.bool (classFlagsB v)) ∧ CW E (m + 6) (clsV E mj v s1 s2 (.slice none 0 0) (.slice none 0 0) (.slice none 0 0)) w' ∧ Grew E W w') := hide fun E h3 h4 W hW => by
    subst h3 h4 e1 e2
    exact self_any hW (by omega) v hv t1 t2 h1 h2 b1 b2 c1 c2 hsup
  have HI : Hid (∀ (E : CEnv), E.xs = xs → ∀ W, CW E (m + 6) (clsV E mj v s1 s2 (.slice none 0 0) (.slice none 0 0) (.slice none 0 0)) W → Calls Tryz.prog 27 #[(.agg #[.pointer (some ⟨E.g, 0, none⟩), .pointer (some ⟨E.q, 0, none⟩)])] W fun e w' => e = .returned (.bool true) ∧ CW E (m + 8) (clsV E mj v s1 s2 (.slice none 0 0) (.slice none 0 0) (.slice none 0 0)) w' ∧ Grew E W w') := hide fun E h3 W hW => by
    subst h3
    exact interfaces_0 hW (by omega) hI
  have HF : Hid (∀ (E : CEnv), E.xs = xs → E.ps = ps → ∀ W, CW E (m + 8) (clsV E mj v s1 s2 (.slice none 0 0) (.slice none 0 0) (.slice none 0 0)) W → Calls Tryz.prog 28 #[(.agg #[.pointer (some ⟨E.g, 0, none⟩), .pointer (some ⟨E.q, 0, none⟩)])] W fun e w' => e = .returned (.bool fR) ∧ (∃ k' V, (fR = true → k' = m + 18) ∧ CW E k' (clsV E mj v s1 s2 (.slice none 0 0) V (.slice none 0 0)) w') ∧ Grew E W w') := hide fun E h3 h4 W hW => by
    subst h3 h4
    exact fields_1 hW (by omega) hF (m + 18) fR (hide fun W hW => HF1.out E rfl rfl _ _ _ _ _ W hW)
  have HM : Hid (∀ (E : CEnv), E.xs = xs → E.ps = ps → ∀ V W, CW E (m + 18) (clsV E mj v s1 s2 (.slice none 0 0) V (.slice none 0 0)) W → Calls Tryz.prog 29 #[(.agg #[.pointer (some ⟨E.g, 0, none⟩), .pointer (some ⟨E.q, 0, none⟩)])] W fun e w' => e = .returned (.bool mR) ∧ (∃ k' X, (mR = true → k' = kE) ∧ CW E k' (clsV E mj v s1 s2 (.slice none 0 0) V X) w') ∧ Grew E W w') := hide fun E h3 h4 V W hW => by
    subst h3 h4
    exact methods_1 hW (by omega) hM kE mR (hide fun W hW => HM1.out E rfl rfl _ _ _ _ _ W hW)
  have HO : Hid (∀ (E : CEnv), E.xs = xs → ∀ V X W, CW E kE (clsV E mj v s1 s2 (.slice none 0 0) V X) W → Calls Tryz.prog 30 #[(.agg #[.pointer (some ⟨E.g, 0, none⟩), .pointer (some ⟨E.q, 0, none⟩)])] W fun e w' => e = .returned (.bool true) ∧ CW E (kE + 2) (clsV E mj v s1 s2 (.slice none 0 0) V X) w' ∧ Grew E W w') := hide fun E h3 V X W hW => by
    subst h3
    exact others_0 hW (by omega) hO
  clear hF hM hO HF1 HM1
  clear ho hm hc hq hp h1 h2 b1 b2 c1 c2 e1 e2 hsup hI hv
  obtain ⟨R1, hR1⟩ : ∃ R1, classFlagsB v = R1 := ⟨_, rfl⟩
  rw [hR1] at HS ⊢
  clear hR1
  have a0 := HX.out.cell 0
  have a1 := HX.out.cell 1
  simp only [List.getElem?_cons_zero, List.getElem?_cons_succ] at a0 a1
  go_enter Tryz.func19, Tryz.ntmps19
  go_wp2_with fail
  generalize hwa : w.alloc (.cells #[.pointer (some ⟨g, 0, none⟩), .pointer (some ⟨q, 0, none⟩)] 58) = wa at *
  refine (HP.out _ HB.out HCa.out HQa.out).mono ?_
  rintro e w1 ⟨rfl, pb, po, pc, h1, g1⟩
  have H1 : Hid (PQ9 ⟨w0, g, gb, q, pb, po, pc, xs, ps⟩ w m _ w1) := hide ⟨h1, (g1.2 _ (by rw [← hwa]; simp) (show w.heap.size ≠ g by omega) (show w.heap.size ≠ q by omega)).trans HX.out, (Grew.below HW.out).trans g1⟩
  clear h1 g1 HQa HCa HX a0 a1 HW HP hwa HB
  obtain ⟨E, hE⟩ : ∃ E : CEnv, E = ⟨w0, g, gb, q, pb, po, pc, xs, ps⟩ := ⟨_, rfl⟩
  obtain ⟨rfl, rfl, rfl, rfl, rfl, rfl⟩ : w0 = E.w0 ∧ g = E.g ∧ gb = E.gb ∧ q = E.q ∧ xs = E.xs ∧ ps = E.ps := by subst hE; exact ⟨rfl, rfl, rfl, rfl, rfl, rfl⟩
  rw [← hE] at H1
  clear hE
  obtain ⟨a0, a1⟩ := H1.out.box
  go_wp2_with fail
  refine (HS.out E rfl rfl _ H1.out.1).mono ?_
  rintro e w2 ⟨rfl, h2, g2⟩
  have H2 := hide (H1.out.call h2 g2)
  clear h2 g2 H1 a0 a1 HS
  obtain ⟨a0, a1⟩ := H2.out.box
  cases R1
  · go_wp2_with fail
    go_ret
    exact parts_no H2.out _ _ _ _ _ _
  go_wp2_with fail
  refine (HI.out E rfl _ H2.out.1).mono ?_
  rintro e w3 ⟨rfl, h3, g3⟩
  have H3 := hide (H2.out.call h3 g3)
  clear h3 g3 H2 a0 a1 HI
  obtain ⟨a0, a1⟩ := H3.out.box
  go_wp2_with fail
  refine (HF.out E rfl rfl _ H3.out.1).mono ?_
  rintro e w4 ⟨rfl, ⟨k4, V, hk4, h4⟩, g4⟩
  have H4 := hide (H3.out.call h4 g4)
  have K4 := hide hk4
  clear h4 g4 H3 a0 a1 hk4 HF
  obtain ⟨a0, a1⟩ := H4.out.box
  cases fR
  · go_wp2_with fail
    go_ret
    exact parts_no H4.out _ _ _ _ _ _
  obtain rfl := K4.out rfl
  go_wp2_with fail
  refine (HM.out E rfl rfl _ _ H4.out.1).mono ?_
  rintro e w5 ⟨rfl, ⟨k5, X, hk5, h5⟩, g5⟩
  have H5 := hide (H4.out.call h5 g5)
  have K5 := hide hk5
  clear h5 g5 H4 a0 a1 hk5 HM
  obtain ⟨a0, a1⟩ := H5.out.box
  cases mR
  · go_wp2_with fail
    go_ret
    exact parts_no H5.out _ _ _ _ _ _
  obtain rfl := K5.out rfl
  go_wp2_with fail
  refine (HO.out E rfl _ _ _ H5.out.1).mono ?_
  rintro e w6 ⟨rfl, h6, g6⟩
  have H6 := hide (H5.out.call h6 g6)
  clear h6 g6 H5 a0 a1
  go_wp2_with fail
  go_ret
  exact parts_yes H6.out _ rfl _ trivial
end
end Go.Proofs.YtbdbcalmjbmflaaGreatDoor
namespace Go.Proofs.YtbdbcalmjbmflaaGreatDoor
open Go.RowKit

theorem Rd.part9 {w : World} {B : Nat} {g o n : Nat} {xs : List Value} (h : Rd w B (some ⟨g, o, none⟩) n xs) (f m : Nat) (hm : f + m ≤ n) : Rd w B (some ⟨g, o + f, none⟩) m ((xs.drop f).take m) :=
  ⟨by have := h.1; simp; omega, fun h0 => by
    obtain ⟨g', o', e, hg, hc⟩ := h.2 (by omega)
    cases e
    refine ⟨g, o + f, rfl, hg, fun j u hu => ?_⟩
    rw [Nat.add_assoc]
    refine hc (f + j) u ?_
    simp only [List.getElem?_take, List.getElem?_drop] at hu
    split at hu
    · exact hu
    · cases hu⟩
set_option maxHeartbeats 1000000 in
set_option maxRecDepth 100000 in
theorem version_8 (A : Option Addr) (c : Nat) (hd : List Int) (B : Nat) (w : World) (hr : Rd w B A 8 (bys hd)) (hB : B ≤ w.heap.size) (hx : IsBytes hd) (hm : numAt hd 0 4 = 3405691582) (mi mj : Int) (h1 : numAt hd 4 2 = mi) (h2 : numAt hd 6 2 = mj) :
    Calls Tryz.prog 17 #[.slice A 8 c] w fun e w' => e = .returned (if mi = 0 ∧ 50 ≤ mj ∧ mj ≤ 52 then .tuple #[.int .i64 mj, .int .i64 0] else .tuple #[.int .i64 0, .int .i64 2]) ∧ Below w.heap.size w w' := by
  have hl : hd.length = 8 := by have := hr.1; rwa [bys_len] at this
  have HN := hide (new_any A 8 c hd w B hr hB (by omega) hx)
  have HU4 : Hid (∀ W g gb, Cur W g gb hd 0 false → Calls Tryz.prog 22 #[.pointer (some ⟨g, 0, none⟩)] W fun e w' => e = .returned (.int .i64 3405691582) ∧ Cur w' g gb hd 4 false ∧ W.grownBy w' (some g)) := hide fun W g gb hW => by
    obtain ⟨a, b, c⟩ : got hd 0 false 4 = (hd.drop 0).take 4 ∧ went hd 0 false 4 = 0 + 4 ∧ (!okd hd 0 false 4) = false := got_in (n := 4) (by omega)
    exact u4_any g gb hd 0 false W hW _ _ _ (by rw [a]; exact hm) b c
  have HU2 : Hid (∀ W g gb, Cur W g gb hd 4 false → Calls Tryz.prog 23 #[.pointer (some ⟨g, 0, none⟩)] W fun e w' => e = .returned (.int .i64 mi) ∧ Cur w' g gb hd 6 false ∧ W.grownBy w' (some g)) := hide fun W g gb hW => by
    obtain ⟨a, b, c⟩ : got hd 4 false 2 = (hd.drop 4).take 2 ∧ went hd 4 false 2 = 4 + 2 ∧ (!okd hd 4 false 2) = false := got_in (n := 2) (by omega)
    exact u2_any g gb hd 4 false W hW _ _ _ (by rw [a]; exact h1) b c
  have HU3 : Hid (∀ W g gb, Cur W g gb hd 6 false → Calls Tryz.prog 23 #[.pointer (some ⟨g, 0, none⟩)] W fun e w' => e = .returned (.int .i64 mj) ∧ Cur w' g gb hd 8 false ∧ W.grownBy w' (some g)) := hide fun W g gb hW => by
    obtain ⟨a, b, c⟩ : got hd 6 false 2 = (hd.drop 6).take 2 ∧ went hd 6 false 2 = 6 + 2 ∧ (!okd hd 6 false 2) = false := got_in (n := 2) (by omega)
    exact u2_any g gb hd 6 false W hW _ _ _ (by rw [a]; exact h2) b c
  clear hr hx hm h1 h2 hl
  obtain ⟨X, hX⟩ : ∃ X, (if mi = 0 ∧ 50 ≤ mj ∧ mj ≤ 52 then Value.tuple #[.int .i64 mj, .int .i64 0] else .tuple #[.int .i64 0, .int .i64 2]) = X := ⟨_, rfl⟩
  rw [hX]
  have HX := hide hX
  clear hX
  go_enter Tryz.func17, Tryz.ntmps17
  go_wp2_with fail
  refine HN.out.mono ?_
  rintro e w1 ⟨g, gb, rfl, hc1, hg, hgb, hb1⟩
  have HB := hide hb1
  clear hb1 HN
  go_wp2_with fail
  refine (HU4.out _ _ _ hc1).mono ?_
  rintro e w2 ⟨rfl, hc2, g2⟩
  go_wp2_with fail
  refine (HU2.out _ _ _ hc2).mono ?_
  rintro e w3 ⟨rfl, hc3, g3⟩
  go_wp2_with fail
  refine (HU3.out _ _ _ hc3).mono ?_
  rintro e w4 ⟨rfl, hc4, g4⟩
  have HO := hide (ok_any _ _ _ _ _ _ hc4)
  have HB4 : Hid (Below w.heap.size w w4) := hide (((HB.out.grown g2 HB.out.size (by intro j hj; cases hj; exact hg)).grown g3 (Nat.le_trans HB.out.size g2.size) (by intro j hj; cases hj; exact hg)).grown g4 (Nat.le_trans (Nat.le_trans HB.out.size g2.size) g3.size) (by intro j hj; cases hj; exact hg))
  clear hc1 hc2 hc3 hc4 g2 g3 g4 HB
  go_wp2_with fail
  refine HO.out.mono ?_
  rintro e w5 ⟨rfl, rfl⟩
  by_cases hq : mi = 0 ∧ 50 ≤ mj ∧ mj ≤ 52
  · obtain ⟨rfl, q1, q2⟩ := hq
    go_wp2_with fail
    go_ret2
    rw [← HX.out, if_pos (by first | exact ⟨rfl, q1, q2⟩ | exact ⟨trivial, q1, q2⟩)]
    exact ⟨rfl, HB4.out⟩
  · have HQ := hide hq
    by_cases p1 : mi = 0
    · by_cases p2 : mj < 50
      · clear hq
        go_wp2_with fail
        go_ret2
        rw [← HX.out, if_neg HQ.out]
        exact ⟨rfl, HB4.out⟩
      · have p3 : 52 < mj := by omega
        clear hq
        go_wp2_with fail
        go_ret2
        rw [← HX.out, if_neg HQ.out]
        exact ⟨rfl, HB4.out⟩
    · clear hq
      go_wp2_with fail
      go_ret2
      rw [← HX.out, if_neg HQ.out]
      exact ⟨rfl, HB4.out⟩
set_option maxHeartbeats 1000000 in
set_option maxRecDepth 100000 in
theorem version_0 (A : Option Addr) (c : Nat) (w : World) : Calls Tryz.prog 17 #[.slice A 0 c] w fun e w' => e = .returned (.tuple #[.int .i64 0, .int .i64 1]) ∧ Below w.heap.size w w' := by
  have HN := hide (new_any A 0 c [] w w.heap.size (Rd.nil w _ A) (Nat.le_refl _) (by omega) (by intro x hx; cases hx))
  have HU4 : Hid (∀ W g gb, Cur W g gb [] 0 false → Calls Tryz.prog 22 #[.pointer (some ⟨g, 0, none⟩)] W fun e w' => e = .returned (.int .i64 0) ∧ Cur w' g gb [] 0 true ∧ W.grownBy w' (some g)) := hide fun W g gb hW => u4_any g gb [] 0 false W hW _ _ _ rfl rfl rfl
  have HU2 : Hid (∀ W g gb, Cur W g gb [] 0 true → Calls Tryz.prog 23 #[.pointer (some ⟨g, 0, none⟩)] W fun e w' => e = .returned (.int .i64 0) ∧ Cur w' g gb [] 0 true ∧ W.grownBy w' (some g)) := hide fun W g gb hW => u2_any g gb [] 0 true W hW _ _ _ rfl rfl rfl
  go_enter Tryz.func17, Tryz.ntmps17
  go_wp2_with fail
  refine HN.out.mono ?_
  rintro e w1 ⟨g, gb, rfl, hc1, hg, hgb, hb1⟩
  have HB := hide hb1
  clear hb1 HN
  go_wp2_with fail
  refine (HU4.out _ _ _ hc1).mono ?_
  rintro e w2 ⟨rfl, hc2, g2⟩
  go_wp2_with fail
  refine (HU2.out _ _ _ hc2).mono ?_
  rintro e w3 ⟨rfl, hc3, g3⟩
  go_wp2_with fail
  refine (HU2.out _ _ _ hc3).mono ?_
  rintro e w4 ⟨rfl, hc4, g4⟩
  have HO := hide (ok_any _ _ _ _ _ _ hc4)
  have HB4 : Hid (Below w.heap.size w w4) := hide (((HB.out.grown g2 HB.out.size (by intro j hj; cases hj; exact hg)).grown g3 (Nat.le_trans HB.out.size g2.size) (by intro j hj; cases hj; exact hg)).grown g4 (Nat.le_trans (Nat.le_trans HB.out.size g2.size) g3.size) (by intro j hj; cases hj; exact hg))
  clear hc1 hc2 hc3 hc4 g2 g3 g4 HB
  go_wp2_with fail
  refine HO.out.mono ?_
  rintro e w5 ⟨rfl, rfl⟩
  go_wp2_with fail
  go_ret2
  exact ⟨rfl, HB4.out⟩
end Go.Proofs.YtbdbcalmjbmflaaGreatDoor
namespace Go.Proofs.YtbdbcalmjbmflaaGreatDoor
open Go.RowKit

set_option maxHeartbeats 1000000 in
set_option maxRecDepth 100000 in
theorem cfRead_nil (w : World) : Calls Tryz.prog 11 #[.slice none 0 0] w fun e w' => e = .returned (.tuple #[.pointer none, .int .i64 1]) ∧ Below w.heap.size w w' := by
  have HV := hide (version_0 none 0 w)
  go_enter Tryz.func11, Tryz.ntmps11
  go_wp2_with fail
  refine HV.out.mono ?_
  rintro e w1 ⟨rfl, hb⟩
  have HB := hide hb
  clear hb HV
  go_wp2_with fail
  go_ret2
  exact ⟨rfl, HB.out⟩
set_option maxHeartbeats 1000000 in
set_option maxRecDepth 100000 in
/-- Another version. -/
theorem cfRead_bad (g o n c : Nat) (L : List Int) (B : Nat) (w : World) (hr : Rd w B (some ⟨g, o, none⟩) n (bys L)) (hB : B ≤ w.heap.size) (hx : IsBytes L) (hn : 8 ≤ n) (hc : n ≤ c) (hz : n ≤ 140737488355328) (hm : numAt L 0 4 = 3405691582) (mi mj : Int) (h1 : numAt L 4 2 = mi) (h2 : numAt L 6 2 = mj) (hv : ¬ (mi = 0 ∧ 50 ≤ mj ∧ mj ≤ 52)) :
    Calls Tryz.prog 11 #[.slice (some ⟨g, o, none⟩) n c] w fun e w' => e = .returned (.tuple #[.pointer none, .int .i64 2]) ∧ Below w.heap.size w w' := by
  have hl : L.length = n := by have := hr.1; rwa [bys_len] at this
  have hnum : ∀ k m, k + m ≤ 8 → numAt (L.take 8) k m = numAt L k m := fun k m h => by
    unfold numAt
    rw [List.drop_take, List.take_take, Nat.min_eq_left (by omega)]
  have HV : Hid (Calls Tryz.prog 17 #[.slice (some ⟨g, o, none⟩) 8 c] w fun e w' => e = .returned (.tuple #[.int .i64 0, .int .i64 2]) ∧ Below w.heap.size w w') := hide (by
    have h8 := hr.part9 0 8 (by omega)
    rw [Nat.add_zero, List.drop_zero, show (bys L).take 8 = bys (L.take 8) by simp [bys]] at h8
    have := version_8 (some ⟨g, o, none⟩) c (L.take 8) B w h8 hB (hx.take 8) (by rw [hnum 0 4 (by omega)]; exact hm) mi mj (by rw [hnum 4 2 (by omega)]; exact h1) (by rw [hnum 6 2 (by omega)]; exact h2)
    rwa [if_neg hv] at this)
  have hmin : min (n : Int) 8 = 8 := by omega
  clear hr hm h1 h2 hv hnum
  go_enter Tryz.func11, Tryz.ntmps11
  go_wp2_with fail
  refine HV.out.mono ?_
  rintro e w1 ⟨rfl, hb⟩
  have HB := hide hb
  clear hb HV
  go_wp2_with fail
  go_ret2
  exact ⟨rfl, HB.out⟩
/-- What is told of a file. -/
def FileTold (mj fl : Int) (s1 s2 : ByteArray) (M : Value → Prop) (R : Bool) (w : World) (e : Ending) (w' : World) : Prop :=
  Below w.heap.size w w' ∧ (R = true → ∃ q P I F V, e = .returned (.tuple #[.pointer (some ⟨q, 0, none⟩), .int .i64 0]) ∧ M V ∧ At w' q 40 [.int .i64 mj, P, .int .i64 fl, .string s1, .string s2, I, F, V]) ∧ (R = false → e = .returned (.tuple #[.pointer none, .int .i64 1]))
set_option maxHeartbeats 4000000 in
set_option maxRecDepth 100000 in
theorem cfRead_good (g o n c : Nat) (L : List Int) (w : World) (hr : Rd w w.heap.size (some ⟨g, o, none⟩) n (bys L)) (hx : IsBytes L) (hn : 8 < n) (hc : n ≤ c) (hz : n ≤ 65536) (hm : numAt L 0 4 = 3405691582) (mj fl : Int) (h1 : numAt L 4 2 = 0) (h2 : numAt L 6 2 = mj) (v1 : 50 ≤ mj) (v2 : mj ≤ 52)
    (s1 s2 : ByteArray) (M : Value → Prop) (R : Bool)
    (HP : Hid (∀ (W : World) (g gb q : Nat), Below w.heap.size w W → Cur W g gb (L.drop 8) 0 false → At W q 40 [.int .i64 mj, .slice none 0 0, .int .i64 0, .string ⟨#[]⟩, .string ⟨#[]⟩, .slice none 0 0, .slice none 0 0, .slice none 0 0] → w.heap.size ≤ g → w.heap.size ≤ q →
      Calls Tryz.prog 19 #[.agg #[.pointer (some ⟨g, 0, none⟩), .pointer (some ⟨q, 0, none⟩)]] W (PartsTold w g gb q (L.drop 8) (L.drop 8).length mj fl s1 s2 M R W))) :
    Calls Tryz.prog 11 #[.slice (some ⟨g, o, none⟩) n c] w (FileTold mj fl s1 s2 M R w) := by
  have hl : L.length = n := by have := hr.1; rwa [bys_len] at this
  have hnum : ∀ k m, k + m ≤ 8 → numAt (L.take 8) k m = numAt L k m := fun k m h => by
    unfold numAt
    rw [List.drop_take, List.take_take, Nat.min_eq_left (by omega)]
  have HV : Hid (Calls Tryz.prog 17 #[.slice (some ⟨g, o, none⟩) 8 c] w fun e w' => e = .returned (.tuple #[.int .i64 mj, .int .i64 0]) ∧ Below w.heap.size w w') := hide (by
    have h8 := hr.part9 0 8 (by omega)
    rw [Nat.add_zero, List.drop_zero, show (bys L).take 8 = bys (L.take 8) by simp [bys]] at h8
    have := version_8 (some ⟨g, o, none⟩) c (L.take 8) _ w h8 (Nat.le_refl _) (hx.take 8) (by rw [hnum 0 4 (by omega)]; exact hm) 0 mj (by rw [hnum 4 2 (by omega)]; exact h1) (by rw [hnum 6 2 (by omega)]; exact h2)
    rwa [if_pos ⟨rfl, v1, v2⟩] at this)
  have HN : Hid (∀ W, Below w.heap.size w W → Calls Tryz.prog 18 #[.slice (some ⟨g, o + 8, none⟩) (n - 8) (c - 8)] W (Made W (L.drop 8))) := hide fun W hW => by
    have h8 := hr.part9 8 (n - 8) (by omega)
    rw [show ((bys L).drop 8).take (n - 8) = bys (L.drop 8) by rw [List.take_of_length_le (by simp [bys_len]; omega)]; simp [bys]] at h8
    exact new_any _ _ _ (L.drop 8) W w.heap.size (h8.below hW) hW.size (by omega) (hx.drop 8)
  have hc8 : c ≠ 8 := by omega
  have hmin : min (n : Int) 8 = 8 := by omega
  clear hr hx hm h1 h2 hnum v1 v2
  generalize L.drop 8 = xs at *
  go_enter Tryz.func11, Tryz.ntmps11
  go_wp2_with fail
  refine HV.out.mono ?_
  rintro e w1 ⟨rfl, hb⟩
  have HB := hide hb
  clear hb HV
  go_wp2_with fail
  refine (HN.out _ HB.out).mono ?_
  rintro e w2 ⟨g2, gb2, rfl, hc2, hg2, hgb2, hb2⟩
  have lg2 := hc2.1.lt
  have HC2 := hide (hc2.grown (grown_below (((Below.refl w2.heap.size w2).alloc (Nat.le_refl _) (.cells #[.int .i64 mj, .slice none 0 0, .int .i64 0, .string ⟨#[]⟩, .string ⟨#[]⟩, .slice none 0 0, .slice none 0 0, .slice none 0 0] 40)).alloc (by simp) (.cells #[.pointer (some ⟨g2, 0, none⟩), .pointer (some ⟨w2.heap.size, 0, none⟩)] 58)) none) (by simp) (by simp))
  have HQ2 := hide ((At.new w2 40 [.int .i64 mj, .slice none 0 0, .int .i64 0, .string ⟨#[]⟩, .string ⟨#[]⟩, .slice none 0 0, .slice none 0 0, .slice none 0 0]).alloc (.cells #[.pointer (some ⟨g2, 0, none⟩), .pointer (some ⟨w2.heap.size, 0, none⟩)] 58))
  have HR2 := hide (At.new (w2.alloc (.cells #[.int .i64 mj, .slice none 0 0, .int .i64 0, .string ⟨#[]⟩, .string ⟨#[]⟩, .slice none 0 0, .slice none 0 0, .slice none 0 0] 40)) 58 [.pointer (some ⟨g2, 0, none⟩), .pointer (some ⟨w2.heap.size, 0, none⟩)])
  have hb3 := HB.out.trans (hb2.mono HB.out.size)
  have HB2 := hide ((hb3.alloc hb3.size (.cells #[.int .i64 mj, .slice none 0 0, .int .i64 0, .string ⟨#[]⟩, .string ⟨#[]⟩, .slice none 0 0, .slice none 0 0, .slice none 0 0] 40)).alloc (by have := hb3.size; simp; omega) (.cells #[.pointer (some ⟨g2, 0, none⟩), .pointer (some ⟨w2.heap.size, 0, none⟩)] 58))
  have hzz : (w2.alloc (.cells #[.int .i64 mj, .slice none 0 0, .int .i64 0, .string ⟨#[]⟩, .string ⟨#[]⟩, .slice none 0 0, .slice none 0 0, .slice none 0 0] 40)).heap.size = w2.heap.size + 1 := by simp
  rw [hzz] at HR2
  have hqs : w.heap.size ≤ w2.heap.size := hb3.size
  have hg3 : w.heap.size ≤ g2 := Nat.le_trans HB.out.size hg2
  clear hc2 hb2 hb3 HB HN hg2 hgb2 hzz
  have a0 := HR2.out.cell 0
  have a1 := HR2.out.cell 1
  simp only [List.getElem?_cons_zero, List.getElem?_cons_succ] at a0 a1
  go_wp2_with fail
  generalize hwa : (w2.alloc (.cells #[.int .i64 mj, .slice none 0 0, .int .i64 0, .string ⟨#[]⟩, .string ⟨#[]⟩, .slice none 0 0, .slice none 0 0, .slice none 0 0] 40)).alloc (.cells #[.pointer (some ⟨g2, 0, none⟩), .pointer (some ⟨w2.heap.size, 0, none⟩)] 58) = wa at *
  refine (HP.out _ _ _ _ HB2.out HC2.out HQ2.out hg3 hqs).mono ?_
  rintro e w3 ⟨rfl, hb3, ⟨hs3, hk3⟩, hT⟩
  have hR3 : At w3 (w2.heap.size + 1) 58 [.pointer (some ⟨g2, 0, none⟩), .pointer (some ⟨w2.heap.size, 0, none⟩)] := (hk3 _ (by rw [← hwa]; simp) (by omega) (by omega)).trans HR2.out
  have b0 := hR3.cell 0
  have b1 := hR3.cell 1
  simp only [List.getElem?_cons_zero, List.getElem?_cons_succ] at b0 b1
  have HB3 := hide hb3
  have HT := hide hT
  clear hb3 hs3 hk3 hT hR3 a0 a1 HP HB2 HC2 HQ2 HR2 hwa
  cases R
  · go_wp2_with fail
    go_ret2
    exact ⟨HB3.out, (fun h => by cases h), fun _ => rfl⟩
  · obtain ⟨hc, P, I, F, V, hM, hq⟩ := HT.out rfl
    have HO := hide (ok_any _ _ _ _ _ _ hc)
    have HL : Hid (Calls Tryz.prog 21 #[.pointer (some ⟨g2, 0, none⟩)] w3 fun e w' => e = .returned (.int .i64 0) ∧ ∃ m, w' = w3.drewN m) := hide (by
      have := left_any _ _ _ _ _ _ hc
      rwa [Int.sub_self] at this)
    have HQ := hide hq
    have HM := hide hM
    clear hc hq hM HT
    go_wp2_with fail
    refine HO.out.mono ?_
    rintro e w4 ⟨rfl, rfl⟩
    go_wp2_with fail
    refine HL.out.mono ?_
    rintro e w5 ⟨rfl, m, rfl⟩
    go_wp2_with fail
    go_ret2
    exact ⟨below_drewN HB3.out m, fun _ => ⟨w2.heap.size, P, I, F, V, rfl, HM.out, HQ.out.drewN m⟩, (fun h => by cases h)⟩
end Go.Proofs.YtbdbcalmjbmflaaGreatDoor
