/- Stated frames, whole: package stackmap. Nothing is claimed here. -/
import Derived.Test.YtlgknednfgpgfaaFrT
import Derived.Deep.AppendLies
namespace Go.Proofs.Ytlgknednfgpgfaa
open Go.RowKit

theorem frinfo : (Try.prog.info? 47).map (fun i => (i.zero, i.size, i.bytes)) = some (some (.agg #[.int .i64 0, .slice none 0 0, .slice none 0 0]), 3, 56) := by kernel_rfl
abbrev FRow := Fr × Value × Value
def frCV (x : FRow) : List Value := [.int .i64 x.1.at_, x.2.1, x.2.2]
def frcells (X : List FRow) : List Value := X.flatMap frCV
def FRows (w : World) (base ml : Nat) (X : List FRow) : Prop := ∀ x ∈ X, w.ownsRow base 37 3 x.2.1 ml (fcells (fillF x.1.locals ml)) ∧ w.ownsRow base 37 3 x.2.2 x.1.stack.length (fcells x.1.stack)
/-- What is told of the frames. -/
def FramesR (r : Option (List Fr)) (ml : Nat) (w : World) (e : Ending) (w' : World) : Prop :=
  (match r with
    | some l => ∃ V X, e = .returned (.tuple #[V, .bool true]) ∧ X.map Prod.fst = l ∧ w'.ownsRow w.heap.size 47 3 V X.length (frcells X) ∧ FRows w' w.heap.size ml X
    | none => e = .returned (.tuple #[.slice none 0 0, .bool false])) ∧ Below w.heap.size w w'
/-- What is known within the loop. -/
structure FB (w0 w : World) (sb : Nat) (Ap : Option Addr) (np cp : Nat) (ps : List Cst) (at_ : Int) (L : List FT) (VL VS : Value) (ml : Nat) (V : Value) (X : List FRow) : Prop where
  s : SB w0 w sb Ap np cp ps at_ L VL VS
  own : w.ownsRow w0.heap.size 47 3 V X.length (frcells X)
  rows : FRows w w0.heap.size ml X
  ap : ∀ x ∈ X, Apart x.2.1 VL ∧ Apart x.2.2 VL
theorem apart_type {w : World} {b b' : Nat} {e e' : TypeId} {v v' : Value} {n n' k k' : Nat} {xs xs' : List Value} (h : w.ownsRow b e k v n xs) (h' : w.ownsRow b' e' k' v' n' xs') (hne : e ≠ e') : Apart v v' := fun q h1 h2 => by
  rcases orow_apart h h' hne with h3 | h3
  · rw [h3] at h1; cases h1
  · exact h3 (h1.trans h2.symm)
theorem off_type {w : World} {b : Nat} {e t : TypeId} {v : Value} {n k g : Nat} {xs cs : List Value} (h : w.ownsRow b e k v n xs) (hA : At w g t cs) (hne : t ≠ e) : v.ownBlock ≠ some g := fun he => orow_type h hA hne he.symm
section
variable {w0 w w' : World} {sb : Nat} {Ap : Option Addr} {np cp : Nat} {ps : List Cst} {at_ at2 : Int} {L L' : List FT} {VL VS VL' VS' : Value} {ml : Nat} {V : Value} {X : List FRow}
theorem FB.below (h : FB w0 w sb Ap np cp ps at_ L VL VS ml V X) (hb : Below w.heap.size w w') : FB w0 w' sb Ap np cp ps at_ L VL VS ml V X :=
  ⟨h.s.below hb, orow_below h.own hb, fun x hx => ⟨orow_below (h.rows x hx).1 hb, orow_below (h.rows x hx).2 hb⟩, h.ap⟩
theorem FB.turn (h : FB w0 w sb Ap np cp ps at_ L VL VS ml V X) (h2 : SB w0 w' sb Ap np cp ps at2 L' VL' VS') (k : Keeps w w' sb VL) (hn : Near w VL VL') : FB w0 w' sb Ap np cp ps at2 L' VL' VS' ml V X :=
  ⟨h2, k.own h.own (off_type h.own h.s.st (by decide)) (apart_type h.own h.s.own (by decide)),
    fun x hx => ⟨k.own (h.rows x hx).1 (off_type (h.rows x hx).1 h.s.st (by decide)) (h.ap x hx).1, k.own (h.rows x hx).2 (off_type (h.rows x hx).2 h.s.st (by decide)) (h.ap x hx).2⟩,
    fun x hx => ⟨fun q h1 h3 => by
      rcases hn q h3 with h4 | h4
      · exact (h.ap x hx).1 q h1 h4
      · have := ((h.rows x hx).1.lt q h1).2; omega, fun q h1 h3 => by
      rcases hn q h3 with h4 | h4
      · exact (h.ap x hx).2 q h1 h4
      · have := ((h.rows x hx).2.lt q h1).2; omega⟩⟩
/-- A frame has been put behind the others. -/
theorem FB.more (h : FB w0 w sb Ap np cp ps at_ L VL VS ml V X) {V' : Value} {x : FRow} (ho : w'.ownsRow w0.heap.size 47 3 V' (X.length + 1) (frcells (X ++ [x]))) (hg : w.grownBy w' V.ownBlock)
    (h1 : w.ownsRow w0.heap.size 37 3 x.2.1 ml (fcells (fillF x.1.locals ml))) (h2 : w.ownsRow w0.heap.size 37 3 x.2.2 x.1.stack.length (fcells x.1.stack)) (a1 : Apart x.2.1 VL) (a2 : Apart x.2.2 VL) :
    FB w0 w' sb Ap np cp ps at_ L VL VS ml V' (X ++ [x]) := by
  have hb : Below w0.heap.size w w' := below_orow (Below.refl _ _) h.own hg h.s.lt (Nat.le_refl _)
  have kp : ∀ {v : Value} {n : Nat} {xs : List Value}, w.ownsRow w0.heap.size 37 3 v n xs → w'.ownsRow w0.heap.size 37 3 v n xs := fun hv => hv.kept hg (orow_apart hv h.own (by decide))
  refine ⟨⟨h.s.st.grown hg (fun he => off_type h.own h.s.st (by decide) he.symm), h.s.pool.below hb, kp h.s.own, h.s.bel.trans hb, h.s.hsb⟩, by rw [List.length_append]; exact ho, fun y hy => ?_, fun y hy => ?_⟩
  · rcases List.mem_append.1 hy with hy | hy
    · exact ⟨kp (h.rows y hy).1, kp (h.rows y hy).2⟩
    · obtain rfl := List.mem_singleton.1 hy
      exact ⟨kp h1, kp h2⟩
  · rcases List.mem_append.1 hy with hy | hy
    · exact h.ap y hy
    · obtain rfl := List.mem_singleton.1 hy
      exact ⟨a1, a2⟩
end
theorem stepF_len {ps : List Cst} {L L' : List FT} {m : Mp} (h : stepF ps L m = some L') : L'.length ≤ L.length + m.locals.length := by
  unfold stepF at h
  split at h
  · split at h
    · cases h
    · cases h
      rw [List.length_take]; omega
  · split at h
    · cases h; simp
    · split at h
      · cases h; simp
      · cases h; omega
def noM : Mp := ⟨0, 0, [], []⟩
def behindF (X : List Fr) (r : Option (List Fr)) : Option (List Fr) := r.map (X ++ ·)
theorem framesF_step {ps : List Cst} {ml ms : Nat} {m : Mp} {r : List Mp} {at_ : Int} {L L' : List FT} (X : List Fr) (h : stepF ps L m = some L') (h1 : ¬ (ml < wordsF L' ∨ ms < wordsF (m.stack.map (nameF ps)))) :
    behindF X (framesF ps ml ms (m :: r) at_ L) = behindF (X ++ [frOf ps at_ L' m]) (framesF ps ml ms r (at_ + 1 + m.delta) L') := by
  unfold behindF
  rw [framesF, h]
  simp only
  rw [if_neg h1]
  cases framesF ps ml ms r (at_ + 1 + m.delta) L' <;> simp
theorem framesF_stop {ps : List Cst} {ml ms : Nat} {m : Mp} {r : List Mp} {at_ : Int} {L L' : List FT} (X : List Fr) (h : stepF ps L m = some L') (h1 : ml < wordsF L' ∨ ms < wordsF (m.stack.map (nameF ps))) :
    behindF X (framesF ps ml ms (m :: r) at_ L) = none := by
  unfold behindF
  rw [framesF, h]
  simp only
  rw [if_pos h1]
  rfl
theorem framesF_none {ps : List Cst} {ml ms : Nat} {m : Mp} {r : List Mp} {at_ : Int} {L : List FT} (X : List Fr) (h : stepF ps L m = none) : behindF X (framesF ps ml ms (m :: r) at_ L) = none := by
  unfold behindF
  rw [framesF, h]
  rfl
theorem mcells_at (X : List (Mp × Value × Value)) : ∀ (j i : Nat) (hj : j < X.length), i < 4 → (mcells X)[j * 4 + i]? = (mapCV X[j])[i]? := by
  induction X with
  | nil => intro j i h; simp at h
  | cons t r ih =>
    intro j i h hi
    have hl : (mapCV t).length = 4 := rfl
    cases j with
    | zero =>
      rw [mcells, List.flatMap_cons, List.getElem?_append_left (by omega)]
      simp
    | succ j =>
      rw [mcells, List.flatMap_cons, List.getElem?_append_right (by omega), hl, show (j + 1) * 4 + i - 4 = j * 4 + i by omega]
      have := ih j i (by simpa using h) hi
      rw [mcells] at this
      rw [this]; simp
/-- Entries that lie ahead: the slice, and the two lists of each. -/
structure MapsAt (w : World) (B : Nat) (A : Option Addr) (n : Nat) (M : List (Mp × Value × Value)) : Prop where
  len : M.length = n
  cells : 0 < n → ∃ g, A = some ⟨g, 0, none⟩ ∧ g < B ∧ ∀ j u, (mcells M)[j]? = some u → w.cell? ⟨g, j, none⟩ = some u
  lists : ∀ x ∈ M, ∃ A c A' c', x.2.1 = .slice A x.1.locals.length c ∧ x.2.2 = .slice A' x.1.stack.length c' ∧ RdF w B A x.1.locals.length (x.1.locals.map VT.ft) ∧ RdF w B A' x.1.stack.length (x.1.stack.map VT.ft)
theorem MapsAt.below {w w' : World} {B : Nat} {A : Option Addr} {n : Nat} {M : List (Mp × Value × Value)} (h : MapsAt w B A n M) (hb : Below B w w') : MapsAt w' B A n M :=
  ⟨h.len, fun hn => by
    obtain ⟨g, ha, hg, hc⟩ := h.cells hn
    exact ⟨g, ha, hg, fun j u hu => by rw [hb.cell (p := ⟨g, j, none⟩) hg]; exact hc j u hu⟩, fun x hx => by
    obtain ⟨A, c, A', c', h1, h2, h3, h4⟩ := h.lists x hx
    exact ⟨A, c, A', c', h1, h2, h3.below hb, h4.below hb⟩⟩
theorem MapsAt.at4 {w : World} {B : Nat} {A : Option Addr} {n : Nat} {M : List (Mp × Value × Value)} (h : MapsAt w B A n M) {j : Nat} (hj : j < n) (hj' : j < M.length) : ∃ g, A = some ⟨g, 0, none⟩ ∧ g < B ∧
    w.cell? ⟨g, j * 4, none⟩ = some (.int .i64 M[j].1.tag) ∧ w.cell? ⟨g, j * 4 + 1, none⟩ = some (.int .i64 M[j].1.delta) ∧ w.cell? ⟨g, j * 4 + 2, none⟩ = some M[j].2.1 ∧ w.cell? ⟨g, j * 4 + 3, none⟩ = some M[j].2.2 := by
  obtain ⟨g, ha, hg, hc⟩ := h.cells (by omega)
  exact ⟨g, ha, hg, hc _ _ (mcells_at M j 0 hj' (by omega)), hc _ _ (mcells_at M j 1 hj' (by omega)), hc _ _ (mcells_at M j 2 hj' (by omega)), hc _ _ (mcells_at M j 3 hj' (by omega))⟩

set_option maxHeartbeats 8000000 in
set_option maxRecDepth 100000 in
theorem smFrames_any (a0 : Int) (Af : Option Addr) (nf cf : Nat) (vs0 : Value) (Am : Option Addr) (nm cm : Nat) (Ap : Option Addr) (np cp : Nat) (ml ms : Nat) (e : List FT) (M : List (Mp × Value × Value)) (ps : List Cst) (w : World)
    (hb : ∀ v ∈ e, bareF v = v) (hf : RdF w w.heap.size Af nf (wideF 0 e)) (hnf : nf ≤ 1000) (hM : MapsAt w w.heap.size Am nm M) (hnm : nm ≤ 5000) (hg : ∀ x ∈ M, GoodM ps x.1) (hp : RdC w w.heap.size Ap np ps) (hml : ml ≤ 1000)
    (A0 : Option Addr) (n0 c0 : Nat) (hvs : vs0 = .slice A0 n0 c0) :
    Calls Try.prog 12 #[.agg #[.int .i64 a0, .slice Af nf cf, vs0], .slice Am nm cm, .slice Ap np cp, .int .i64 ml, .int .i64 ms] w (FramesR (framesF ps ml ms (M.map Prod.fst) (-1) (cutF e)) ml w) := by
  subst hvs
  obtain ⟨i0, hi0, iz0, iz1, iz2⟩ := info_parts frinfo
  have HMp := hide hM
  have hlen := hM.len
  have hq : 0 < nm → ¬ ((67108864 : Int) / (nm : Int) < (ml : Int)) := fun h => by
    have : (1000 : Int) ≤ (67108864 : Int) / (nm : Int) := by rw [Int.le_ediv_iff_mul_le (by omega)]; omega
    omega
  have hb0 : Below w.heap.size w (w.alloc (.cells #[.int .i64 a0, .slice Af nf cf, .slice A0 n0 c0] 47)) := (Below.refl _ w).alloc (Nat.le_refl _) _
  have HCo := hide (smcounted_any Af nf cf e hb (w.alloc (.cells #[.int .i64 a0, .slice Af nf cf, .slice A0 n0 c0] 47)) w.heap.size (hf.below hb0) hb0.size (by omega))
  have hwe : wordsF e = nf := by have := hf.1; rwa [wideF_len] at this
  have HP := hide hp
  have HB0 := hide hb0
  obtain ⟨R, hR⟩ : ∃ R, framesF ps ml ms (M.map Prod.fst) (-1) (cutF e) = R := ⟨_, rfl⟩
  rw [hR]
  have HR := hide hR
  clear hM hf hb hp hb0 hR
  rcases Nat.eq_zero_or_pos nm with h0 | h0
  · subst h0
    have hMn : M = [] := List.eq_nil_of_length_eq_zero hlen
    go_enter Try.func12, Try.ntmps12
    go_wp2_with fail
    refine HCo.out.mono ?_
    rintro e' w1 ⟨V1, rfl, hown, hbel⟩
    obtain ⟨VA, VC, rfl⟩ := len_own hown
    have HB1 := hide (HB0.out.trans (hbel.mono HB0.out.size))
    have hz1 := HB1.out.size
    clear hown hbel HCo
    go_wp2_with fail
    go_loopw [13, 33] (fun v iv wr => v = .slice none 0 0 ∧ iv = .int .i64 0 ∧ Below w.heap.size w wr) (fun _ _ _ => 0)
    case atStart => exact ⟨rfl, rfl, by repeat (first | with_reducible exact HB1.out | with_reducible refine Below.drew ?_ | with_reducible refine below_drewN ?_ _ | ((with_reducible refine Below.setCell ?_ ?hp _); case hp => simp) | ((with_reducible refine Below.alloc ?_ ?hp _); case hp => first | omega | (simp; done) | (simp; omega)))⟩
    case round =>
      obtain ⟨rfl, rfl, hbel⟩ := hrel
      go_wp2_with fail
      go_ret2
      have hR := HR.out
      rw [hMn] at hR
      subst hR
      exact ⟨⟨.slice none 0 0, [], rfl, rfl, World.ownsRow_nil _ _ _ _, fun x hx => (by cases hx)⟩, hbel⟩
  · have hq0 := hq h0
    have h00 : (0 : Int) < (nm : Int) := by omega
    go_enter Try.func12, Try.ntmps12
    go_wp2_with fail
    refine HCo.out.mono ?_
    rintro e' w1 ⟨V1, rfl, hown, hbel⟩
    have HB1 := hide (HB0.out.trans (hbel.mono HB0.out.size))
    have hz1 := HB1.out.size
    have hkl : keepF e e.length = (cutF e).length := by
      unfold cutF
      rw [List.length_take, Nat.min_eq_left (keepF_le _ _)]
    have hcl : (cutF e).length ≤ 1000 := by
      have h1 := keepF_le e e.length
      have h2 := wordsF_ge e
      omega
    rw [hkl] at hown
    obtain ⟨VA, VC, rfl⟩ := len_own hown
    have HF0 : Hid (FB w (w1.alloc (.cells #[.slice Ap np cp, .int .i64 (-1), .slice VA (cutF e).length VC, .slice none 0 0] 68)) w1.heap.size Ap np cp ps (-1) (cutF e) (.slice VA (cutF e).length VC) (.slice none 0 0) ml (.slice none 0 0) []) := hide
      ⟨⟨At.new w1 68 [.slice Ap np cp, .int .i64 (-1), .slice VA (cutF e).length VC, .slice none 0 0], (HP.out.below HB1.out).below ((Below.refl _ w1).alloc hz1 _), orow_mono (hown.alloc _) HB0.out.size, HB1.out.alloc hz1 _, hz1⟩, World.ownsRow_nil _ _ _ _, fun x hx => (by cases hx), fun x hx => (by cases hx)⟩
    clear hown hbel HCo
    go_wp2_with fail
    generalize w1.alloc (.cells #[.slice Ap np cp, .int .i64 (-1), .slice VA (cutF e).length VC, .slice none 0 0] 68) = wa at *
    generalize w1.heap.size = sb at *
    go_loopw [13, 33] (fun v iv wr => ∃ (j : Nat) (X : List FRow) (L : List FT) (at_ : Int) (VL VS : Value), j ≤ nm ∧ X.length = j ∧ L.length ≤ 1000 ∧ -1 ≤ at_ ∧ at_ ≤ j * 65536 ∧ iv = .int .i64 j ∧ FB w wr sb Ap np cp ps at_ L VL VS ml v X ∧
      R = behindF (X.map Prod.fst) (framesF ps ml ms ((M.map Prod.fst).drop j) at_ L)) (fun _ iv _ => nm - (intOf iv).toNat)
    case atStart =>
      refine ⟨0, [], cutF e, -1, _, _, Nat.zero_le _, rfl, hcl, by omega, by omega, rfl, HF0.out, ?_⟩
      rw [← HR.out, List.drop_zero]
      cases framesF ps ml ms (M.map Prod.fst) (-1) (cutF e) <;> rfl
    case round =>
      obtain ⟨j, X, L, at_, VL, VS, hj, hX, hL, ha1, ha2, rfl, hF, hRR⟩ := hrel
      have HF := hide hF
      have HRR := hide hRR
      have hwz := hF.s.lt
      clear hF hRR HF0 HR HB0 HB1 hq
      by_cases hlt : j < nm
      · have hjl : j < M.length := by omega
        obtain ⟨g, rfl, hgB, c0, c1, c2, c3⟩ := (HMp.out.below HF.out.s.bel).at4 hlt hjl
        obtain ⟨A, c, A', c', hm1, hm2, hra, hrb⟩ := HMp.out.lists _ (List.getElem_mem hjl)
        have hgm := hg _ (List.getElem_mem hjl)
        have hdrop : (M.map Prod.fst).drop j = M[j].1 :: (M.map Prod.fst).drop (j + 1) := by
          rw [List.drop_eq_getElem_cons (by simpa using hjl)]
          simp
        rw [hdrop] at HRR
        rw [hm1] at c2
        rw [hm2] at c3
        have hgw : g < wr.heap.size := by omega
        generalize M[j].1 = m at *
        have HRa := hide hra
        have HRb := hide hrb
        have HGm := hide hgm
        have hd := hgm.delta
        clear hra hrb hgm hm1 hm2 hdrop
        have hbm : Below wr.heap.size wr (wr.alloc (.cells #[.int .i64 m.tag, .int .i64 m.delta, .slice A m.locals.length c, .slice A' m.stack.length c'] 32)) := (Below.refl _ wr).alloc (Nat.le_refl _) _
        have HF1 := hide (HF.out.below hbm)
        have HT1 := hide (At.new wr 32 [.int .i64 m.tag, .int .i64 m.delta, .slice A m.locals.length c, .slice A' m.stack.length c'])
        have HM1 := hide (smmove_any w sb Ap np cp ps at_ L VL VS m.delta hd (by omega) _ HF1.out.s)
        go_wp2_with fail
        refine HM1.out.mono ?_
        rintro e2 w2 ⟨rfl, h2, g2⟩
        have HF2 := hide (HF1.out.turn h2 (Keeps.of g2) (fun k hk => .inl hk))
        have hT2 := HT1.out.grown g2 (by have := HF.out.s.st.lt; simp; omega)
        have m0 := hT2.cell 0
        have m1 := hT2.cell 1
        have m2 := hT2.cell 2
        have m3 := hT2.cell 3
        simp only [List.getElem?_cons_succ, List.getElem?_cons_zero] at m0 m1 m2 m3
        have HCh := hide (smchange_any w sb Ap np cp ps (at_ + 1 + m.delta) L VL VS m _ _ HGm.out hL w2 HF2.out.s A c A' c' rfl rfl (HRa.out.below HF2.out.s.bel) (HRb.out.below HF2.out.s.bel))
        clear h2 g2 hT2 HM1 HT1 HF1 hbm
        go_wp2_with fail
        refine HCh.out.mono ?_
        rintro e3 w3 hch
        clear m0 m1 m2 m3 HCh HMp
        unfold ChangeR at hch
        cases hst : stepF ps L m with
        | none =>
          rw [hst] at hch
          obtain ⟨rfl, hb3⟩ := hch
          have HRn : Hid (R = none) := hide (by rw [HRR.out, framesF_none _ hst])
          have HB3 := hide hb3
          clear hst hb3 HRR
          go_wp2_with fail
          go_ret2
          have hR := HRn.out
          subst hR
          exact ⟨rfl, HB3.out⟩
        | some L' =>
          rw [hst] at hch
          obtain ⟨VL', VS', rfl, h3, h4, h5, h6, h7, h8⟩ := hch
          have HF3 := hide (HF2.out.turn h3 h8 h6)
          have HV3 := hide h4
          have HA3 := hide h5
          have HST := hide hst
          obtain ⟨AL, CL, rfl, hrl, hcl1, hcl2⟩ := orow_rdF h3.own rfl
          obtain ⟨AS, CS, rfl, hrs, hcs1, hcs2⟩ := orow_rdF h4 (by simp)
          have HRL := hide hrl
          have HRS := hide hrs
          obtain ⟨⟨s0, s1, s2, s3⟩, -⟩ := h3.cells
          have hz3 := h3.lt
          clear h3 h4 h5 h6 h7 h8 hst hrl hrs HF2
          have hsl := stepF_len HST.out
          have hsm := HGm.out.small
          have HW3 := hide (smwords_any AL L'.length CL L' w3 w3.heap.size HRL.out (Nat.le_refl _) (by omega))
          go_wp2_with fail
          refine HW3.out.mono ?_
          rintro e4 w4 ⟨rfl, hb4⟩
          have HF4 := hide (HF3.out.below hb4)
          have HV4 := hide (orow_below HV3.out hb4)
          have HRS4 := hide ((HRS.out.below hb4).mono hb4.size)
          clear s0 s1 s2 s3
          obtain ⟨⟨s0, s1, s2, s3⟩, -⟩ := HF4.out.s.cells
          clear hb4 HF3 HV3 HW3 HRS
          by_cases hw1 : ml < wordsF L'
          · have HRn : Hid (R = none) := hide (by rw [HRR.out, framesF_stop _ HST.out (.inl hw1)])
            have hw1' : (ml : Int) < (wordsF L' : Int) := by omega
            have HB4 := hide HF4.out.s.bel
            clear HRR
            go_wp2_with fail
            go_ret2
            have hR := HRn.out
            subst hR
            exact ⟨rfl, HB4.out⟩
          have hw1' : ¬ (ml : Int) < (wordsF L' : Int) := by omega
          have HW4 := hide (smwords_any AS m.stack.length CS (m.stack.map (nameF ps)) w4 w4.heap.size HRS4.out (Nat.le_refl _) (by omega))
          go_wp2_with fail
          refine HW4.out.mono ?_
          rintro e5 w5 ⟨rfl, hb5⟩
          have HF5 := hide (HF4.out.below hb5)
          have HV5 := hide (orow_below HV4.out hb5)
          clear s0 s1 s2 s3
          obtain ⟨⟨s0, s1, s2, s3⟩, -⟩ := HF5.out.s.cells
          have HRL5 := hide (orow_rdF HF5.out.s.own rfl)
          clear hb5 HF4 HV4 HW4 HRS4
          by_cases hw2 : ms < wordsF (m.stack.map (nameF ps))
          · have HRn : Hid (R = none) := hide (by rw [HRR.out, framesF_stop _ HST.out (.inr hw2)])
            have hw2' : (ms : Int) < (wordsF (m.stack.map (nameF ps)) : Int) := by omega
            have HB5 := hide HF5.out.s.bel
            clear HRR
            go_wp2_with fail
            go_ret2
            have hR := HRn.out
            subst hR
            exact ⟨rfl, HB5.out⟩
          have hw2' : ¬ (ms : Int) < (wordsF (m.stack.map (nameF ps)) : Int) := by omega
          have HS2 : Hid (R = behindF ((X.map Prod.fst) ++ [frOf ps at_ L' m]) (framesF ps ml ms ((M.map Prod.fst).drop (j + 1)) (at_ + 1 + m.delta) L')) := hide (by
            rw [HRR.out, framesF_step _ HST.out (by omega)])
          obtain ⟨A6, C6, he6, hr6, -, -⟩ := HRL5.out
          obtain ⟨rfl, rfl⟩ : AL = A6 ∧ CL = C6 := by cases he6; exact ⟨rfl, rfl⟩
          have HFi := hide (fun W (hW : Below w5.heap.size w5 W) => smfilled_any AL L'.length CL ml L' W w5.heap.size (hr6.below hW) hW.size (by omega) (by omega))
          clear HRR HRL5 hr6 he6
          have HNE : Hid (u13.ownBlock ≠ some sb) := hide (off_type HF5.out.own HF5.out.s.st (by decide))
          have hz5 := HF5.out.s.lt
          have hX5 : X.length + 1 ≤ maxLen := by unfold maxLen; omega
          go_wp2_with fail
          go_region_held3 (fun W => W.cell? ⟨sb, 1, none⟩ = some (.int .i64 (at_ + 1 + m.delta)) ∧ W.cell? ⟨sb, 2, none⟩ = some (.slice AL L'.length CL) ∧ W.cell? ⟨sb, 3, none⟩ = some (.slice AS m.stack.length CS)) (go_keep) (first
            | (go_at_call 30; refine (HFi.out _ (by first | exact Below.refl _ _ | exact below_drewN (Below.refl _ _) _)).mono ?_; rintro e6 w6 ⟨V6, rfl, ho6, hb6⟩; obtain ⟨A7, C7, rfl⟩ := len_own ho6; have hb6' := (below_drewN (Below.refl w5.heap.size w5) 1).trans hb6; have HF6 := hide (HF5.out.below hb6'); have HV6 := hide (orow_below HV5.out hb6'); have HO6 := hide (orow_mono ho6 (show w.heap.size ≤ w5.heap.size from hz5)); have hz6 := hb6'.size; have HL6 := hide (fun k hk => (ho6.lt k hk).1); obtain ⟨⟨k0, k1, k2, k3⟩, -⟩ := HF6.out.s.cells; clear ho6)
            | (refine step_append_lies _ (by rfl) _ _ _ (by rfl) w.heap.size 47 i0 _ 3 56 Try.underlying43 hi0 iz0 iz1 iz2 rfl (by omega) u13 X.length (frcells X) (by rfl) ((HF6.out.own.alloc _).drew)
                ⟨w6.heap.size, 0, none⟩ 1 1 [.int .i64 (at_ + 1 + m.delta), .slice A7 ml C7, .slice AS m.stack.length CS] (by rfl) (by rfl) (World.news_of_block (cs := #[.int .i64 (at_ + 1 + m.delta), .slice A7 ml C7, .slice AS m.stack.length CS]) (t := 47) (fr := (0, 0)) (heap_alloc_new w6 _)) (by simp [Value.oneCell'])
                (by omega) hX5 (by omega) (by simp; omega) (w6.heap.size + 1) (by simp) ?_; intro gg cap w7 hown7 hg7 hat hlt7; have t0 := At.grown (h := (by exact HF6.out.s.st.alloc _)) hg7 (fun he => HNE.out he.symm); have t1 := t0.cell 1; have t2 := t0.cell 2; have t3 := t0.cell 3; simp only [List.getElem?_cons_succ, List.getElem?_cons_zero] at t1 t2 t3))
          have hap : Apart (.slice A7 ml C7) (.slice AL L'.length CL) := fun k h1 h2 => by
            have := HL6.out k h1
            have := (HF5.out.s.own.lt k h2).2
            have : (w5.drewN 1).heap.size = w5.heap.size := rfl
            have : w5.drew.heap.size = w5.heap.size := rfl
            omega
          have hba : Below w6.heap.size w6 (w6.alloc (.cells #[.int .i64 (at_ + 1 + m.delta), .slice A7 ml C7, .slice AS m.stack.length CS] 47)) := (Below.refl _ w6).alloc (Nat.le_refl _) _
          have HF7 := hide (FB.more (x := (frOf ps at_ L' m, .slice A7 ml C7, .slice AS m.stack.length CS)) (HF6.out.below hba) (by rw [frcells, List.flatMap_append]; exact hown7) hg7 (orow_below HO6.out hba) (by
            have := orow_below HV6.out hba
            simpa [frOf] using this) hap HA3.out)
          clear t0 t1 t2 t3 k0 k1 k2 k3 s0 s1 s2 s3 hown7 hg7 hat hba hb6 hb6'
          go_wp2_with fail
          go_roundw
          case rel => exact ⟨j + 1, X ++ [(frOf ps at_ L' m, .slice A7 ml C7, .slice AS m.stack.length CS)], L', at_ + 1 + m.delta, _, _, by omega, by simp [hX], by have := wordsF_ge L'; omega, by omega, by omega, by go_num, by have := HF7.out; rwa [hX] at this, by rw [HS2.out]; simp⟩
          case measure => simp [intOf]; omega
      · obtain rfl : j = nm := by omega
        go_wp2_with fail
        go_ret2
        have hR := HRR.out
        rw [List.drop_of_length_le (by simp; omega)] at hR
        subst hR
        refine ⟨⟨_, X, rfl, by simp, HF.out.own, HF.out.rows⟩, HF.out.s.bel⟩
end Go.Proofs.Ytlgknednfgpgfaa
