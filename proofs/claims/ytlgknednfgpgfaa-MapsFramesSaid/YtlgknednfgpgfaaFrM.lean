/- The document's frames, whole. Nothing is claimed here. -/
import Derived.Test.YtlgknednfgpgfaaFrQ
import Derived.Deep.DeepCutAuto
import Derived.Deep.RegionHeld3
import Derived.Deep.CutBlock
namespace Go.Proofs.Ytlgknednfgpgfaa
open Go.RowKit

theorem f14info : (Try.prog.info? 42).map (fun i => (i.zero, i.size, i.bytes)) = some (some (.agg #[.slice none 0 0, .slice none 0 0]), 2, 48) := by kernel_rfl
theorem intinfo8 : (Try.prog.info? 3).map (fun i => (i.zero, i.size, i.bytes)) = some (some (.int .i64 0), 1, 8) := by kernel_rfl
def rfCV (x : FRow) : List Value := [x.2.1, x.2.2]
def rfcells (X : List FRow) : List Value := X.flatMap rfCV
def RRows (w : World) (base ml : Nat) (X : List FRow) : Prop := ∀ x ∈ X, w.ownsRow base 37 3 x.2.1 ml (fcells (fillF x.1.locals ml)) ∧ w.ownsRow base 37 3 x.2.2 (wordsF x.1.stack) (fcells (wideF 99 x.1.stack))
def ats (X : List FRow) : List Value := X.map fun x => .int .i64 x.1.at_
/-- What is told of the document's frames. -/
def RFramesR (r : Option (List Fr)) (ml : Nat) (w : World) (e : Ending) (w' : World) : Prop :=
  (match r with
    | some l => ∃ V U X, e = .returned (.tuple #[V, U, .bool true]) ∧ X.map Prod.fst = l ∧ w'.ownsRow w.heap.size 42 2 V X.length (rfcells X) ∧ w'.ownsRow w.heap.size 3 1 U X.length (ats X) ∧ RRows w' w.heap.size ml X
    | none => e = .returned (.tuple #[.slice none 0 0, .slice none 0 0, .bool false])) ∧ Below w.heap.size w w'
/-- The head of an own row. -/
def PreOwn (w : World) (base : Nat) (A : Option Addr) (n : Nat) (L : List FT) : Prop := ∃ n0 c0 L0, w.ownsRow base 37 3 (.slice A n0 c0) n0 (fcells L0) ∧ n ≤ n0 ∧ L = L0.take n ∧ L0.length = n0
theorem PreOwn.rd {w : World} {base : Nat} {A : Option Addr} {n : Nat} {L : List FT} (h : PreOwn w base A n L) : RdF w w.heap.size A n L := by
  obtain ⟨n0, c0, L0, ho, hn, rfl, hl⟩ := h
  obtain ⟨A', c', he, hr, _⟩ := orow_rdF ho hl
  cases he
  exact hr.take hn
theorem PreOwn.of {w : World} {base : Nat} {A : Option Addr} {n c : Nat} {L : List FT} (h : w.ownsRow base 37 3 (.slice A n c) n (fcells L)) : PreOwn w base A n L := by
  have hl := (orow_cases h).1
  exact ⟨n, c, L, h, Nat.le_refl _, by rw [List.take_of_length_le (by omega)], hl⟩
theorem PreOwn.cut {w : World} {base : Nat} {A : Option Addr} {n k : Nat} {L : List FT} (h : PreOwn w base A n L) (hk : k ≤ n) : PreOwn w base A k (L.take k) := by
  obtain ⟨n0, c0, L0, ho, hn, rfl, hl⟩ := h
  exact ⟨n0, c0, L0, ho, by omega, by rw [List.take_take, Nat.min_eq_left hk], hl⟩
theorem PreOwn.none {w : World} {base n : Nat} {L : List FT} (h : PreOwn w base none n L) : n = 0 := by
  obtain ⟨n0, c0, L0, ho, hn, rfl, hl⟩ := h
  obtain ⟨_, ⟨_, h0, _⟩ | ⟨g, c, he, _⟩⟩ := orow_cases ho
  · omega
  · cases he
/-- What is known within the loop. -/
structure RB (w0 w : World) (VF VU : Value) (X Y : List FRow) (A : Option Addr) (n : Nat) (L : List FT) (ml : Nat) : Prop where
  bel : Below w0.heap.size w0 w
  fs : w.ownsRow w0.heap.size 42 2 VF X.length (rfcells X)
  us : w.ownsRow w0.heap.size 3 1 VU Y.length (ats Y)
  rows : RRows w w0.heap.size ml X
  loc : PreOwn w w0.heap.size A n L
section
variable {w0 w w' : World} {VF VU : Value} {X Y : List FRow} {A : Option Addr} {n : Nat} {L : List FT} {ml : Nat}
theorem PreOwn.below {base : Nat} (h : PreOwn w base A n L) (hb : Below w.heap.size w w') : PreOwn w' base A n L := by
  obtain ⟨n0, c0, L0, ho, hn, hL, hl⟩ := h
  exact ⟨n0, c0, L0, orow_below ho hb, hn, hL, hl⟩
theorem RB.below (h : RB w0 w VF VU X Y A n L ml) (hb : Below w.heap.size w w') : RB w0 w' VF VU X Y A n L ml :=
  ⟨h.bel.trans (hb.mono h.bel.size), orow_below h.fs hb, orow_below h.us hb, fun x hx => ⟨orow_below (h.rows x hx).1 hb, orow_below (h.rows x hx).2 hb⟩, h.loc.below hb⟩
theorem RB.fsMore (h : RB w0 w VF VU X Y A n L ml) {V' : Value} {x : FRow} (ho : w'.ownsRow w0.heap.size 42 2 V' (X.length + 1) (rfcells X ++ rfCV x)) (hg : w.grownBy w' VF.ownBlock)
    (h1 : w.ownsRow w0.heap.size 37 3 x.2.1 ml (fcells (fillF x.1.locals ml))) (h2 : w.ownsRow w0.heap.size 37 3 x.2.2 (wordsF x.1.stack) (fcells (wideF 99 x.1.stack))) : RB w0 w' V' VU (X ++ [x]) Y A n L ml := by
  have kp : ∀ {v : Value} {n : Nat} {xs : List Value}, w.ownsRow w0.heap.size 37 3 v n xs → w'.ownsRow w0.heap.size 37 3 v n xs := fun hv => hv.kept hg (orow_apart hv h.fs (by decide))
  refine ⟨below_orow h.bel h.fs hg h.bel.size (Nat.le_refl _), by rw [List.length_append, rfcells, List.flatMap_append]; simpa [rfcells] using ho, h.us.kept hg (orow_apart h.us h.fs (by decide)), fun y hy => ?_, ?_⟩
  · rcases List.mem_append.1 hy with hy | hy
    · exact ⟨kp (h.rows y hy).1, kp (h.rows y hy).2⟩
    · obtain rfl := List.mem_singleton.1 hy
      exact ⟨kp h1, kp h2⟩
  · obtain ⟨n0, c0, L0, ho, hn, hL, hl⟩ := h.loc
    exact ⟨n0, c0, L0, kp ho, hn, hL, hl⟩
theorem RB.usMore (h : RB w0 w VF VU X Y A n L ml) {V' : Value} {x : FRow} (ho : w'.ownsRow w0.heap.size 3 1 V' (Y.length + 1) (ats Y ++ [.int .i64 x.1.at_])) (hg : w.grownBy w' VU.ownBlock) : RB w0 w' VF V' X (Y ++ [x]) A n L ml := by
  have kp : ∀ {v : Value} {n : Nat} {xs : List Value}, w.ownsRow w0.heap.size 37 3 v n xs → w'.ownsRow w0.heap.size 37 3 v n xs := fun hv => hv.kept hg (orow_apart hv h.us (by decide))
  refine ⟨below_orow h.bel h.us hg h.bel.size (Nat.le_refl _), h.fs.kept hg (orow_apart h.fs h.us (by decide)), by rw [List.length_append, ats, List.map_append]; simpa [ats] using ho, fun y hy => ⟨kp (h.rows y hy).1, kp (h.rows y hy).2⟩, ?_⟩
  obtain ⟨n0, c0, L0, ho, hn, hL, hl⟩ := h.loc
  exact ⟨n0, c0, L0, kp ho, hn, hL, hl⟩
theorem own_le {base c : Nat} {e : TypeId} {size : Nat} {xs : List Value} (h : w.ownsRow base e size (.slice A n c) n xs) : n ≤ c := by
  obtain ⟨_, ⟨he, h0⟩ | ⟨g, cap, cur, he, _, _, hc, _⟩⟩ := h
  · omega
  · cases he; exact hc
theorem RB.to {A' : Option Addr} {n' : Nat} {L' : List FT} (h : RB w0 w VF VU X Y A n L ml) (hl : PreOwn w w0.heap.size A' n' L') : RB w0 w VF VU X Y A' n' L' ml := ⟨h.bel, h.fs, h.us, h.rows, hl⟩
end
theorem step_append_vts {ops : Array Oper} {o : Oper} {a : Act} {K : Act → World → Prop} {Q : Exit → Act → World → Prop} {E : Prop} (w : World) (hgd : o.guard = none) (s x : Operand)
    (ho : o.op = .call { callee := .builtin .append, args := #[s, x], argTypes := #[30, 30] })
    (base : Nat) (v : Value) (n : Nat) (l : List FT) (hs : a.eval s = v) (hown : w.ownsRow base 37 3 v n (fcells l)) (B : Nat) (A : Option Addr) (m c : Nat) (news : List FT) (hx : a.eval x = .slice A m c) (hr : RdF w B A m news)
    (hn : n + m ≤ 1000000) (hbase : base ≤ w.heap.size)
    (h : ∀ v' w', w'.ownsRow base 37 3 v' (n + m) (fcells (l ++ news)) → w.grownBy w' v.ownBlock → Near w v v' → K (a.put o.dst v') w') :
    if Region.wanted o (yielded ops a.tmps) = true then Oper.wp Try.prog o a w K Q else E := by
  have hw : Region.wanted o (yielded ops a.tmps) = true := by simp [Region.wanted, hgd]
  rw [if_pos hw]
  obtain ⟨v', w', hrun, h2, h3, h4⟩ := append_vts w o.type base v n l hown B A m c news hr hn hbase
  unfold Oper.wp execOp
  simp only [ho, resolve, invoke, builtin, Sem.run_bind, Sem.run_pure, Result.andThen_ok, List.map_toArray, List.map_cons, List.map_nil, hs, hx, hrun]
  exact h v' w' h2 h3 h4

set_option maxHeartbeats 16000000 in
set_option maxRecDepth 100000 in
theorem rfMaps_any (Af : Option Addr) (nf cf : Nat) (vs0 : Value) (Am : Option Addr) (nm cm : Nat) (Ap : Option Addr) (np cp : Nat) (ml ms : Nat) (e : List FT) (M : List (Mp × Value × Value)) (ps : List Cst) (w : World)
    (hf : RdF w w.heap.size Af nf (wideF 0 e)) (hnf : nf ≤ 1000) (hM : MapsAt w w.heap.size Am nm M) (hnm : nm ≤ 5000) (hg : ∀ x ∈ M, GoodM ps x.1) (hp : RdC w w.heap.size Ap np ps) (hml : ml ≤ 1000)
    (A0 : Option Addr) (n0 c0 : Nat) (hvs : vs0 = .slice A0 n0 c0) :
    Calls Try.prog 11 #[.agg #[.slice Af nf cf, vs0], .slice Am nm cm, .slice Ap np cp, .int .i64 ml, .int .i64 ms] w (RFramesR (framesF ps ml ms (M.map Prod.fst) (-1) (cutF e)) ml w) := by
  subst hvs
  obtain ⟨i0, hi0, iz0, iz1, iz2⟩ := info_parts f14info
  obtain ⟨j0, hj0, jz0, jz1, jz2⟩ := info_parts intinfo8
  have HMp := hide hM
  have hlen := hM.len
  have hb0 : Below w.heap.size w (w.alloc (.cells #[.slice Af nf cf, .slice A0 n0 c0] 42)) := (Below.refl _ w).alloc (Nat.le_refl _) _
  have HCo := hide (rfcut_any Af nf cf e (w.alloc (.cells #[.slice Af nf cf, .slice A0 n0 c0] 42)) w.heap.size (hf.below hb0) hb0.size (by omega))
  have hwe : wordsF e = nf := by have := hf.1; rwa [wideF_len] at this
  have HP := hide hp
  have HB0 := hide hb0
  obtain ⟨R, hR⟩ : ∃ R, framesF ps ml ms (M.map Prod.fst) (-1) (cutF e) = R := ⟨_, rfl⟩
  rw [hR]
  have HR := hide hR
  clear hM hf hp hb0 hR
  go_enter Try.func11, Try.ntmps11
  go_wp2_with fail
  refine HCo.out.mono ?_
  rintro e' w1 ⟨V1, rfl, hown, hbel⟩
  have HB1 := hide (HB0.out.trans (hbel.mono HB0.out.size))
  have hz1 := HB1.out.size
  have hkl : keepF e e.length = (cutF e).length := by
    unfold cutF
    rw [List.length_take, Nat.min_eq_left (keepF_le _ _)]
  have hcl : (cutF e).length ≤ 1000 := by
    have h1 := keepF_le e e.length
    have h2 := wordsF_ge e
    omega
  rw [hkl] at hown
  obtain ⟨VA, VC, rfl⟩ := len_own hown
  have hVC : (cutF e).length ≤ VC := own_le hown
  have HF0 : Hid (RB w w1 (.slice none 0 0) (.slice none 0 0) [] [] VA (cutF e).length (cutF e) ml) := hide
    ⟨HB1.out, World.ownsRow_nil _ _ _ _, World.ownsRow_nil _ _ _ _, fun x hx => (by cases hx), PreOwn.of (orow_mono hown HB0.out.size)⟩
  clear hown hbel HCo
  go_wp2_with fail
  go_loopw [13, 14, 15, 16, 17] (fun v u lv pv iv wr => ∃ (j : Nat) (X : List FRow) (L : List FT) (at_ : Int) (A : Option Addr) (c : Nat), j ≤ nm ∧ X.length = j ∧ L.length ≤ 1000 ∧ -1 ≤ at_ ∧ at_ ≤ j * 65536 ∧ (j = 0 → at_ = -1) ∧ iv = .int .i64 j ∧ pv = .int .i64 at_ ∧ lv = .slice A L.length c ∧ L.length ≤ c ∧
      RB w wr v u X X A L.length L ml ∧ R = behindF (X.map Prod.fst) (framesF ps ml ms ((M.map Prod.fst).drop j) at_ L)) (fun _ _ _ _ iv _ => nm - (intOf iv).toNat)
  case atStart =>
    refine ⟨0, [], cutF e, -1, VA, VC, Nat.zero_le _, rfl, hcl, by omega, by omega, fun _ => rfl, rfl, rfl, rfl, hVC, HF0.out, ?_⟩
    rw [← HR.out, List.drop_zero]
    cases framesF ps ml ms (M.map Prod.fst) (-1) (cutF e) <;> rfl
  case round =>
    obtain ⟨j, X, L, at_, A, c, hj, hX, hL, ha1, ha2, ha3, rfl, rfl, rfl, hLc, hF, hRR⟩ := hrel
    have HF := hide hF
    have HRR := hide hRR
    have hwz := hF.bel.size
    clear hF hRR HF0 HR HB0 HB1
    by_cases hlt : j < nm
    · have hjl : j < M.length := by omega
      obtain ⟨g, rfl, hgB, c0, c1, c2, c3⟩ := (HMp.out.below HF.out.bel).at4 hlt hjl
      obtain ⟨A1, c1', A2, c2', hm1, hm2, hra, hrb⟩ := HMp.out.lists _ (List.getElem_mem hjl)
      have hgm := hg _ (List.getElem_mem hjl)
      have hdrop : (M.map Prod.fst).drop j = M[j].1 :: (M.map Prod.fst).drop (j + 1) := by
        rw [List.drop_eq_getElem_cons (by simpa using hjl)]
        simp
      rw [hdrop] at HRR
      rw [hm1] at c2
      rw [hm2] at c3
      have hgw : g < wr.heap.size := by omega
      generalize M[j].1 = m at *
      have HRa := hide hra
      have HRb := hide hrb
      have HGm := hide hgm
      have hd := hgm.delta
      have hsm := hgm.small
      clear hra hrb hgm hm1 hm2 hdrop
      have hbm : Below wr.heap.size wr (wr.alloc (.cells #[.int .i64 m.tag, .int .i64 m.delta, .slice A1 m.locals.length c1', .slice A2 m.stack.length c2'] 32)) := (Below.refl _ wr).alloc (Nat.le_refl _) _
      have HF1 := hide (HF.out.below hbm)
      have HT1 := hide (At.new wr 32 [.int .i64 m.tag, .int .i64 m.delta, .slice A1 m.locals.length c1', .slice A2 m.stack.length c2'])
      go_upto_if 36 with fail
      go_cut [16, 17] (fun s16 s17 wx => s16 = .int .i64 (at_ + 1 + m.delta) ∧ s17 = .int .i64 j ∧ wx = wr.alloc (.cells #[.int .i64 m.tag, .int .i64 m.delta, .slice A1 m.locals.length c1', .slice A2 m.stack.length c2'] 32))
      case first =>
        rcases Nat.eq_zero_or_pos j with h0 | h0
        · have ha := ha3 h0
          subst h0
          subst ha
          go_wp2_with fail
          go_meet
          case rel => exact ⟨by simp, rfl, rfl⟩
        · have hj0 : ((j : Int) == 0) = false := by simp; omega
          go_wp2_with fail
          go_meet
          case rel => exact ⟨int_eq (by omega), rfl, rfl⟩
      case rest =>
        obtain ⟨rfl, rfl, rfl⟩ := hcut
        go_upto_block 2 with fail
        go_cut [15] (fun s15 wx => ∃ (L' : List FT) (A' : Option Addr) (c' : Nat), stepF ps L m = some L' ∧ s15 = .slice A' L'.length c' ∧ L'.length ≤ c' ∧ RB w wx u13 u14 X X A' L'.length L' ml ∧ At wx wr.heap.size 32 [.int .i64 m.tag, .int .i64 m.delta, .slice A1 m.locals.length c1', .slice A2 m.stack.length c2'])
        case first =>
          have hF1s := HF1.out.bel.size
          have m0 := HT1.out.cell 0
          have m2 := HT1.out.cell 2
          simp only [List.getElem?_cons_succ, List.getElem?_cons_zero] at m0 m2
          have hcases : (m.tag ≤ 247) ∨ m.tag = 251 ∨ (248 ≤ m.tag ∧ m.tag ≤ 250) ∨ (252 ≤ m.tag ∧ m.tag ≤ 254) ∨ m.tag = 255 := by have := HGm.out.tag; omega
          have hst : ∃ o, stepF ps L m = o := ⟨_, rfl⟩
          obtain ⟨o, hst⟩ := hst
          have HST := hide hst
          unfold stepF at hst
          generalize hmt : m.tag = mt at *
          rcases hcases with h1 | h1 | h1 | h1 | h1
          · rw [if_neg (by omega), if_neg (by omega), if_neg (by omega)] at hst
            subst hst
            have d1 : decide (248 ≤ mt) = false := by simp; omega
            have d2 : decide (252 ≤ mt) = false := by simp; omega
            have d3 : (mt == 255) = false := by simp; omega
            go_wp2_with fail
            go_meet
            case rel => exact ⟨L, A, c, HST.out, rfl, hLc, HF1.out, HT1.out⟩
          · subst h1
            rw [if_neg (by omega), if_neg (by omega), if_neg (by omega)] at hst
            subst hst
            go_wp2_with fail
            go_meet
            case rel => exact ⟨L, A, c, HST.out, rfl, hLc, HF1.out, HT1.out⟩
          · rw [if_pos h1] at hst
            have d1 : decide (248 ≤ mt) = true := by simp; omega
            have d4 : decide (mt ≤ 250) = true := by simp; omega
            by_cases hlk : (L.length : Int) + mt < 251
            · rw [if_pos hlk] at hst
              subst hst
              have HRn : Hid (R = none) := hide (by rw [HRR.out, framesF_none _ HST.out])
              have hlk' : (L.length : Int) - (251 - mt) < 0 := by omega
              have HB9 := hide HF1.out.bel
              clear HRR
              go_wp2_with fail
              go_ret3
              have hR := HRn.out
              subst hR
              exact ⟨rfl, HB9.out⟩
            · rw [if_neg hlk] at hst
              obtain ⟨r, hr⟩ : ∃ r : Nat, (L.length : Int) - (251 - mt) = r := ⟨((L.length : Int) - (251 - mt)).toNat, by omega⟩
              have hrl : L.length - (251 - mt).toNat = r := by omega
              rw [hrl] at hst
              subst hst
              have hr0 : ¬ (r : Int) < 0 := by omega
              have hrL : r ≤ L.length := by omega
              have hrc : r ≤ c := by omega
              have HLT : Hid ((L.take r).length = r) := hide (by rw [List.length_take]; omega)
              have HF2 := hide (HF1.out.to (HF1.out.loc.cut hrL))
              rcases A with _ | ⟨ga, oa, sa⟩
              · have hl0 := HF1.out.loc.none
                omega
              · go_wp2_with fail
                go_meet
                case rel => exact ⟨L.take r, _, r, HST.out, by rw [HLT.out], by rw [HLT.out]; exact Nat.le_refl _, by rw [HLT.out]; exact HF2.out, HT1.out⟩
          · rw [if_neg (by omega), if_pos h1] at hst
            subst hst
            have d1 : decide (248 ≤ mt) = true := by simp; omega
            have d4 : decide (mt ≤ 250) = false := by simp; omega
            have d2 : decide (252 ≤ mt) = true := by simp; omega
            have d5 : decide (mt ≤ 254) = true := by simp; omega
            have d3 : (mt == 255) = false := by simp; omega
            have hll : m.locals.length ≤ 65536 := hsm.1
            have hml : ∀ v ∈ m.locals, GoodV ps v := HGm.out.locals
            have HML := hide hml
            have hzW : (wr.alloc (.cells #[.int .i64 mt, .int .i64 m.delta, .slice A1 m.locals.length c1', .slice A2 m.stack.length c2'] 32)).heap.size = wr.heap.size + 1 := by simp
            have HW1 := hide ((Below.refl w.heap.size (wr.alloc (.cells #[.int .i64 mt, .int .i64 m.delta, .slice A1 m.locals.length c1', .slice A2 m.stack.length c2'] 32))))
            generalize wr.alloc (.cells #[.int .i64 mt, .int .i64 m.delta, .slice A1 m.locals.length c1', .slice A2 m.stack.length c2'] 32) = wm at *
            have HNm := hide (fun W (hW : Below wm.heap.size wm W) => rfnamed_any Ap np cp ps A1 m.locals.length c1' m.locals HML.out W (((HP.out.below HF1.out.bel).below (hW.mono hF1s)).mono (Nat.le_trans hF1s hW.size)) w.heap.size ((HRa.out.below HF1.out.bel).below (hW.mono hF1s)) (Nat.le_trans hF1s hW.size) (by omega))
            have HRD := hide HF1.out.loc.rd
            clear hml
            go_wp2_with fail
            go_region_held3 (fun W => W.cell? ⟨wr.heap.size, 2, none⟩ = some (.slice A1 m.locals.length c1')) (go_keep) (first
              | (refine step_append_vts _ (by rfl) (.const (.slice none 0 0)) (.tmp 74) (by rfl) wm.heap.size (.slice none 0 0) 0 [] (by rfl) (World.ownsRow_nil _ _ _ _) wm.heap.size A L.length c L (by rfl) (by first | exact HRD.out | exact HRD.out.drewN _) (by omega) (by first | exact Nat.le_refl _ | (simp; done)) ?_; intro v1 w1' hown1 hg1 hn1; have hb1 : Below wm.heap.size wm w1' := (below_drewN (Below.refl _ wm) 1).trans (below_grown hg1); have k1 : w1'.cell? ⟨wr.heap.size, 2, none⟩ = some (.slice A1 m.locals.length c1') := (HT1.out.below hb1 (by omega)).cell 2; have hz1' := hb1.size)
              | (go_at_call 23; refine (HNm.out _ hb1).mono ?_; rintro e2 w2 ⟨V2, rfl, hown2, hb2⟩; obtain ⟨A3, C3, rfl, hrd2, -, -⟩ := orow_rdF hown2 (by simp); have hb2' : Below wm.heap.size wm w2 := hb1.trans (hb2.mono hz1'); have hz2' := hb2'.size; have k2 : w2.cell? ⟨wr.heap.size, 2, none⟩ = some (.slice A1 m.locals.length c1') := (HT1.out.below hb2' (by omega)).cell 2; have hown3 := orow_below hown1 hb2)
              | (refine step_append_vts _ (by rfl) (.tmp 75) (.tmp 79) (by rfl) wm.heap.size v1 (0 + L.length) ([] ++ L) (by rfl) hown3 _ A3 m.locals.length C3 _ (by rfl) hrd2 (by omega) hz2' ?_; intro v4 w4 hown4 hg4 hn4; have hb4 : Below wm.heap.size wm w4 := below_orow hb2' hown3 hg4 hz2' (Nat.le_refl _); have k4 : w4.cell? ⟨wr.heap.size, 2, none⟩ = some (.slice A1 m.locals.length c1') := (HT1.out.below hb4 (by omega)).cell 2))
            have hown5 : w4.ownsRow wm.heap.size 37 3 v4 ((L ++ m.locals.map (nameF ps)).length) (fcells (L ++ m.locals.map (nameF ps))) := by
              have := hown4
              rw [List.nil_append, Nat.zero_add] at this
              rwa [List.length_append, List.length_map]
            obtain ⟨A4, C4, rfl⟩ := len_own hown5
            have hC4 : (L ++ m.locals.map (nameF ps)).length ≤ C4 := own_le hown5
            have HF4 := hide ((HF1.out.below hb4).to (PreOwn.of (orow_mono hown5 hF1s)))
            have HT4 := hide (HT1.out.below hb4 (by omega))
            clear hown1 hg1 hn1 hb1 k1 hown2 hb2 hrd2 hb2' k2 hown3 hown4 hg4 hn4 hb4 k4 hown5
            go_wp2_with fail
            go_meet
            case rel => exact ⟨_, A4, C4, HST.out, by simp, hC4, HF4.out, HT4.out⟩
          · subst h1
            rw [if_neg (by omega), if_neg (by omega), if_pos rfl] at hst
            subst hst
            have hll : m.locals.length ≤ 65536 := hsm.1
            have HML := hide HGm.out.locals
            have hzW : (wr.alloc (.cells #[.int .i64 255, .int .i64 m.delta, .slice A1 m.locals.length c1', .slice A2 m.stack.length c2'] 32)).heap.size = wr.heap.size + 1 := by simp
            have HNm := hide (rfnamed_any Ap np cp ps A1 m.locals.length c1' m.locals HML.out _ ((HP.out.below HF1.out.bel).mono hF1s) w.heap.size (HRa.out.below HF1.out.bel) hF1s (by omega))
            go_wp2_with fail
            refine HNm.out.mono ?_
            rintro e2 w2 ⟨V2, rfl, hown2, hb2⟩
            obtain ⟨A3, C3, rfl⟩ := len_own hown2
            have hC3 : m.locals.length ≤ C3 := own_le hown2
            have HF2 := hide ((HF1.out.below hb2).to (PreOwn.of (orow_mono hown2 hF1s)))
            have HT2 := hide (HT1.out.below hb2 (by omega))
            clear hown2 hb2
            go_wp2_with fail
            go_meet
            case rel => exact ⟨_, A3, C3, HST.out, by rw [List.length_map], by rw [List.length_map]; exact hC3, by rw [List.length_map]; exact HF2.out, HT2.out⟩
        case rest =>
          obtain ⟨L', A', c', hst, rfl, hLc', hF2, hT2⟩ := hcut
          have HST := hide hst
          have hsl := stepF_len hst
          have HF2 := hide hF2
          have HT2 := hide hT2
          have hzc := hF2.bel.size
          have hlc := hT2.lt
          clear hst hF2 hT2 HF1 HT1 hbm HF
          have HW := hide (rfwide_any A' L'.length c' 0 L' wc wc.heap.size HF2.out.loc.rd (Nat.le_refl _) (by omega))
          go_wp2_with fail
          refine HW.out.mono ?_
          rintro e3 w3 ⟨V3, rfl, hown3, hb3⟩
          obtain ⟨A3, C3, rfl⟩ := len_own hown3
          have HF3 := hide (HF2.out.below hb3)
          have HO3 := hide (orow_mono hown3 hzc)
          have HT3 := hide (HT2.out.below hb3 hlc)
          have hz3 := HF3.out.bel.size
          have hl3 := HT3.out.lt
          have m3 := HT3.out.cell 3
          simp only [List.getElem?_cons_succ, List.getElem?_cons_zero] at m3
          clear hown3 hb3 HW HF2 HT2
          have HN := hide (rfnamed_any Ap np cp ps A2 m.stack.length c2' m.stack HGm.out.stack w3 ((HP.out.below HF3.out.bel).mono hz3) w.heap.size (HRb.out.below HF3.out.bel) hz3 (by omega))
          go_wp2_with fail
          refine HN.out.mono ?_
          rintro e4 w4 ⟨V4, rfl, hown4, hb4⟩
          obtain ⟨A4, C4, rfl, hrd4, -, -⟩ := orow_rdF hown4 (by simp)
          have HF4 := hide (HF3.out.below hb4)
          have HO4 := hide (orow_below HO3.out hb4)
          have hz4 := HF4.out.bel.size
          have HW4 := hide (rfwide_any A4 m.stack.length C4 99 (m.stack.map (nameF ps)) w4 w4.heap.size hrd4 (Nat.le_refl _) (by omega))
          clear hown4 hb4 hrd4 HN HF3 HO3 m3 HT3
          go_wp2_with fail
          refine HW4.out.mono ?_
          rintro e5 w5 ⟨V5, rfl, hown5, hb5⟩
          obtain ⟨A5, C5, rfl⟩ := len_own hown5
          have HF5 := hide (HF4.out.below hb5)
          have HO5 := hide (orow_below HO4.out hb5)
          have HS5 := hide (orow_mono hown5 hz4)
          have hz5 := HF5.out.bel.size
          clear hown5 hb5 HW4 HF4 HO4
          by_cases hw1 : ml < wordsF L' ∨ ms < wordsF (m.stack.map (nameF ps))
          · have HRn : Hid (R = none) := hide (by rw [HRR.out, framesF_stop _ HST.out hw1])
            have HB5 := hide HF5.out.bel
            clear HRR
            by_cases hw2 : ml < wordsF L'
            · have hw2' : (ml : Int) < (wordsF L' : Int) := by omega
              go_wp2_with fail
              go_ret3
              have hR := HRn.out
              subst hR
              exact ⟨rfl, HB5.out⟩
            · have hw2' : ¬ (ml : Int) < (wordsF L' : Int) := by omega
              have hw3' : (ms : Int) < (wordsF (m.stack.map (nameF ps)) : Int) := by omega
              go_wp2_with fail
              go_ret3
              have hR := HRn.out
              subst hR
              exact ⟨rfl, HB5.out⟩
          have hw1' : ¬ (ml : Int) < (wordsF L' : Int) := by omega
          have hw2' : ¬ (ms : Int) < (wordsF (m.stack.map (nameF ps)) : Int) := by omega
          have HS2 : Hid (R = behindF ((X.map Prod.fst) ++ [frOf ps at_ L' m]) (framesF ps ml ms ((M.map Prod.fst).drop (j + 1)) (at_ + 1 + m.delta) L')) := hide (by
            rw [HRR.out, framesF_step _ HST.out hw1])
          have hrdl : RdF w5 w5.heap.size A3 (wordsF L') (wideF 0 L') := by
            obtain ⟨A9, C9, he, hr, -⟩ := orow_rdF HO5.out (wideF_len 0 L')
            cases he
            exact hr
          have HFi := hide (rffill_any A3 (wordsF L') C3 ml (wideF 0 L') w5 w5.heap.size hrdl (by omega) (by omega))
          clear HRR hrdl
          go_wp2_with fail
          refine HFi.out.mono ?_
          rintro e6 w6 ⟨V6, rfl, hown6, hb6⟩
          obtain ⟨A6, C6, rfl⟩ := len_own hown6
          have HF6 := hide (HF5.out.below hb6)
          have HL6 := hide (orow_mono hown6 hz5)
          have HS6 := hide (orow_below HS5.out hb6)
          have hz6 := HF6.out.bel.size
          clear hown6 hb6 HFi HF5 HO5 HS5
          have hba := (Below.refl w6.heap.size w6).alloc (Nat.le_refl _) (.cells #[.slice A6 ml C6, .slice A5 (wordsF (m.stack.map (nameF ps))) C5] 42)
          have HF7 := hide (HF6.out.below hba)
          have HL7 := hide (orow_below HL6.out hba)
          have HS7 := hide (orow_below HS6.out hba)
          clear hba
          go_wp2_with (first
            | (at_builtin; refine wpList_append_many w6 rfl (.tmp 106) (.tmp 112) 38 rfl w.heap.size 42 i0 _ 48 2 (by omega) Try.underlying38 hi0 iz0 iz1 iz2 rfl u13 X.length (rfcells X) rfl HF6.out.fs [.slice A6 ml C6, .slice A5 (wordsF (m.stack.map (nameF ps))) C5] rfl _ rfl rfl rfl (by unfold maxLen; omega) (by omega) hz6 ?_; intro v7 w7 hown7 hg7; have HF8 := hide (RB.fsMore (x := (frOf ps at_ L' m, .slice A6 ml C6, .slice A5 (wordsF (m.stack.map (nameF ps))) C5)) HF6.out hown7 hg7 HL6.out HS6.out); have hz8 := HF8.out.bel.size; clear hown7 hg7)
            | (at_builtin; refine wpList_append_many w7 rfl (.tmp 114) (.tmp 116) 35 rfl w.heap.size 3 j0 _ 8 1 (by omega) Try.underlying35 hj0 jz0 jz1 jz2 rfl u14 X.length (ats X) rfl HF8.out.us [.int .i64 (at_ + 1 + m.delta)] rfl _ rfl rfl rfl (by unfold maxLen; omega) (by omega) hz8 ?_; intro v8 w8 hown8 hg8; have HF9 := hide (RB.usMore (x := (frOf ps at_ L' m, .slice A6 ml C6, .slice A5 (wordsF (m.stack.map (nameF ps))) C5)) HF8.out hown8 hg8); clear hown8 hg8))
          go_roundw
          case rel => exact ⟨j + 1, X ++ [(frOf ps at_ L' m, .slice A6 ml C6, .slice A5 (wordsF (m.stack.map (nameF ps))) C5)], L', at_ + 1 + m.delta, A', c', by omega, by simp [hX], by have := wordsF_ge L'; omega, by omega, by omega, by omega, by go_num, rfl, rfl, hLc', HF9.out, by rw [HS2.out]; simp⟩
          case measure => simp [intOf]; omega
    · obtain rfl : j = nm := by omega
      go_wp2_with fail
      go_ret3
      have hR := HRR.out
      rw [List.drop_of_length_le (by simp; omega)] at hR
      subst hR
      exact ⟨⟨_, _, X, rfl, by simp, HF.out.fs, HF.out.us, HF.out.rows⟩, HF.out.bel⟩
end Go.Proofs.Ytlgknednfgpgfaa
