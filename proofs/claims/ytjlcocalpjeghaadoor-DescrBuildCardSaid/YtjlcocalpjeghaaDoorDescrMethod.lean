/- A method's descriptor, by the code. Nothing is claimed here. -/
import Derived.Test.YtjlcocalpjeghaaDoorDescrMem
namespace Go.Proofs.YtjlcocalpjeghaaDoor
open Go.RowKit

theorem typeinfo : (Tryd.prog.info? 25).map (fun i => (i.zero, i.size, i.bytes)) = some (some (.agg #[.int .u8 0, .string ⟨#[]⟩, .int .i64 0, .int .u8 0]), 4, 40) := by kernel_rfl
/-- What a method's descriptor is told as. -/
def SigTold (o : Option (List Ty × Ty)) (w : World) (e : Ending) (w' : World) : Prop :=
  Below w.heap.size w w' ∧ ((o = none ∧ e = .returned (.tuple #[.slice none 0 0, noTy.val, .bool false])) ∨
    ∃ ts t A c, o = some (ts, t) ∧ e = .returned (.tuple #[.slice A ts.length c, t.val, .bool true]) ∧ RdT w' w'.heap.size A ts.length ts ∧ ts.length ≤ c ∧ c ≤ maxLen)
theorem SigTold.no {o : Option (List Ty × Ty)} {w w' : World} {e : Ending} (ho : o = none) (he : e = .returned (.tuple #[.slice none 0 0, noTy.val, .bool false])) (hb : Below w.heap.size w w') : SigTold o w e w' := ⟨hb, .inl ⟨ho, he⟩⟩

theorem sig_open {l : List Int} (h : l.head? = some 40) : sig l = (args (l.drop 1)).bind fun x => (retL x.2).map fun t => (x.1, t) := by
  unfold sig
  rw [if_pos h]
  cases args (l.drop 1) <;> rfl
theorem own_rd' {w : World} {base : Nat} {e : TypeId} {A : Option Addr} {n c : Nat} {ts : List Ty} (h : w.ownsRow base e 4 (.slice A n c) n (tcells ts)) : RdT w w.heap.size A n ts := by
  obtain ⟨A', c', he, hr, _⟩ := own_rd h
  cases he
  exact hr

set_option maxHeartbeats 4000000 in
set_option maxRecDepth 100000 in
theorem method4_any (s : ByteArray) (w : World) (hm : s.size ≤ 1000000) (hw : Maxed w) : Calls Tryd.prog 15 #[.string s] w (SigTold (sig (nums s)) w) := by
  obtain ⟨i0, hi0, iz0, iz1, iz2⟩ := info_parts typeinfo
  obtain ⟨D, hD⟩ : ∃ D, sig (nums s) = D := ⟨_, rfl⟩
  rw [hD]
  have HP : Hid (∀ (x : ByteArray) (W : World), Calls Tryd.prog 25 #[.string x, .string ⟨#[41]⟩] W fun e w' => e = .returned (.bool (decide ((nums x).head? = some 41))) ∧ w' = W) := hide fun x W => by
    have := Tryd.strings_HasPrefix x ⟨#[41]⟩ W
    rwa [show (⟨#[41]⟩ : ByteArray).data.toList = [41] from rfl, prefix_head] at this
  have HF : Hid (∀ (x : ByteArray) (W : World), x.size ≤ 1000000 → Maxed W → Calls Tryd.prog 19 #[.string x] W fun e w' => e = .returned (restV x (front (nums x))) ∧ Below W.heap.size W w') := hide fun x W hx hW => dfirst_any x W hx hW
  have HR : Hid (∀ (x : ByteArray) (W : World), x.size ≤ 1000000 → Maxed W → Calls Tryd.prog 26 #[.string x] W fun e w' => e = .returned (fieldV (retL (nums x))) ∧ Below W.heap.size W w') := hide fun x W hx hW => returned_any x W hx hW
  have HM : Hid (∀ w', Below w.heap.size w w' → Maxed w') := hide fun w' hb => hw.below hb
  by_cases h40 : (nums s).head? = some 40
  · have HC : Hid (∀ W, Calls Tryd.prog 24 #[.string s, .string ⟨#[40]⟩] W fun e w' => e = .returned (.tuple #[.string (s.extract 1 s.size), .bool true]) ∧ W = w') := hide fun W => by
      have := cutPrefix_any s W hm true (by rw [prefix_head]; simpa using h40)
      simpa using this
    have hs1 : 1 ≤ s.size := by
      rw [← nums_len]
      cases h : nums s with
      | nil => rw [h] at h40; cases h40
      | cons a r => simp
    have HD : Hid (D = (args ((nums s).drop 1)).bind fun x => (retL x.2).map fun t => (x.1, t)) := hide (by rw [← hD, sig_open h40])
    have HE := hide (show ∀ k, k ≤ s.size → nums (s.extract k s.size) = (nums s).drop k ∧ (s.extract k s.size).size = s.size - k from fun k hk => ⟨nums_from s k, by rw [← nums_len, nums_from, List.length_drop, nums_len]⟩)
    clear hD h40 hw
    go_enter Tryd.func15, Tryd.ntmps15
    go_wp2_with fail
    refine (HC.out _).mono ?_
    rintro e w1 ⟨rfl, rfl⟩
    go_wp2_with fail
    go_loopw [5, 7] (fun rv av wr => ∃ (k : Nat) (acc : List Ty), k ≤ s.size ∧ 1 ≤ k ∧ rv = .string (s.extract k s.size) ∧ acc.length ≤ k ∧ wr.ownsRow (w.heap.size + 1) 25 4 av acc.length (tcells acc) ∧
      At wr w.heap.size 25 [.int .u8 0, .string ⟨#[]⟩, .int .i64 0, .int .u8 0] ∧ Below w.heap.size w wr ∧ w.heap.size < wr.heap.size ∧
      args ((nums s).drop 1) = (args ((nums s).drop k)).map fun x => (acc ++ x.1, x.2)) (fun rv _ _ => szOf rv)
    case atStart =>
      exact ⟨1, [], hs1, Nat.le_refl _, rfl, Nat.zero_le _, World.ownsRow_nil _ _ _ _, At.new _ _ _, (Below.refl _ w).alloc (Nat.le_refl _) _, by simp, by cases args ((nums s).drop 1) <;> rfl⟩
    case round =>
      obtain ⟨k, acc, hk, hk1, rfl, hal, hown, hat, hb, hlt, hargs⟩ := hrel
      have Hown := hide hown
      have HA := hide hat
      have HB := hide hb
      have HG := hide hargs
      obtain ⟨hen, hez⟩ := HE.out k hk
      clear hown hat hb hargs
      obtain ⟨q, hq⟩ : ∃ q, q = s.extract k s.size := ⟨_, rfl⟩
      rw [← hq] at hen hez ⊢
      have hrest : ∀ n, q.extract n q.size = s.extract (k + n) s.size := fun n => by
        apply nums_inj
        rw [nums_from, hen, nums_from, List.drop_drop]
      by_cases h41 : (nums q).head? = some 41
      · have HP1 : Hid (∀ W, Calls Tryd.prog 25 #[.string q, .string ⟨#[41]⟩] W fun e w' => e = .returned (.bool true) ∧ w' = W) := hide fun W => by
          have := HP.out q W
          rwa [decide_eq_true h41] at this
        have hq1 : (1 : Int) ≤ (q.size : Int) := by
          have : 0 < (nums q).length := by
            cases h : nums q with
            | nil => rw [h] at h41; cases h41
            | cons a r => simp
          rw [nums_len] at this; omega
        have HD2 : Hid (D = (retL (nums (q.extract 1 q.size))).map fun t => (acc, t)) := hide (by
          rw [HD.out, HG.out, ← hen, args_stop h41, nums_from]
          simp)
        have hqz : (q.extract 1 q.size).size ≤ 1000000 := by rw [← nums_len, nums_from, List.length_drop, nums_len]; omega
        have HR1 := hide (fun W hW => HR.out (q.extract 1 q.size) W hqz hW)
        clear hq hen hez hrest h41 hqz HE HG HD
        go_wp2_with fail
        refine (HP1.out _).mono ?_
        rintro e w1 ⟨rfl, rfl⟩
        go_wp2_with fail
        refine (HR1.out _ (HM.out _ HB.out)).mono ?_
        rintro e w2 ⟨rfl, hb2⟩
        have ha := HA.out.below hb2 (by omega)
        have HO2 := hide (own_below Hown.out hb2)
        have HB2 := hide (HB.out.trans (hb2.mono (by omega)))
        have hz2 : w.heap.size < w2.heap.size := by have := hb2.size; omega
        obtain ⟨z0, z1, z2, z3, g0, g1, g2, g3⟩ := ha.c4
        clear hb2 ha HA Hown HB
        generalize retL (nums (q.extract 1 q.size)) = rt at *
        cases rt with
        | none =>
          have HV : Hid (D = none) := hide (by rw [HD2.out]; rfl)
          have hfv : fieldV none = .tuple #[.agg #[.int .u8 0, .string ⟨#[]⟩, .int .i64 0, .int .u8 0], .bool false] := rfl
          rw [hfv]
          clear HD2 hfv
          go_wp2_with fail
          refine bodyPost_ret (v := .tuple #[.slice none 0 0, .agg #[.int .u8 0, .string ⟨#[]⟩, .int .i64 0, .int .u8 0], .bool false]) ?_ rfl (SigTold.no HV.out rfl ?_)
          · simp [results, Tryd.results15, go_sem, World.cell?_setCell_other, hz2, z0, z1, z2, z3]
          · repeat (first | with_reducible exact HB2.out | with_reducible refine Below.drew ?_ | with_reducible refine below_drewN ?_ _ | ((with_reducible refine Below.setCell ?_ ?hp _); case hp => simp) | ((with_reducible refine Below.alloc ?_ ?hp _); case hp => first | omega | (simp; done) | (simp; omega)))
        | some t =>
          obtain ⟨kk, nm, dd, x⟩ := t
          have HV : Hid (D = some (acc, ⟨kk, nm, dd, x⟩)) := hide (by rw [HD2.out]; rfl)
          have hfv : fieldV (some ⟨kk, nm, dd, x⟩) = .tuple #[.agg #[.int .u8 kk, .string (strOfNums nm), .int .i64 dd, .int .u8 x], .bool true] := rfl
          rw [hfv]
          clear HD2 hfv
          obtain ⟨nq, hnq⟩ : ∃ nq, strOfNums nm = nq := ⟨_, rfl⟩
          have HN := hide hnq
          rw [hnq]
          clear hnq
          obtain ⟨A, c, rfl, _, hc1, hc2, _⟩ := own_rd HO2.out
          go_wp2_with fail
          try go_region
          all_goals go_wp2_with fail
          all_goals
            refine bodyPost_ret (v := .tuple #[.slice A acc.length c, .agg #[.int .u8 kk, .string nq, .int .i64 dd, .int .u8 x], .bool true]) ?_ rfl ⟨?_, .inr ⟨acc, ⟨kk, nm, dd, x⟩, A, c, HV.out, by rw [Ty.val_mk, HN.out], own_rd' (base := w.heap.size + 1) (e := 25) (c := c) ?_, hc1, hc2⟩⟩
            · simp [results, Tryd.results15, go_sem, World.cell?_setCell_other, hz2, z0, z1, z2, z3]
            · repeat (first | with_reducible exact HB2.out | with_reducible refine Below.drew ?_ | with_reducible refine below_drewN ?_ _ | ((with_reducible refine Below.setCell ?_ ?hp _); case hp => simp) | ((with_reducible refine Below.alloc ?_ ?hp _); case hp => first | omega | (simp; done) | (simp; omega)))
            · repeat (first | with_reducible exact HO2.out | with_reducible refine World.ownsRow.drew ?_ | with_reducible refine World.ownsRow.alloc ?_ _ | ((with_reducible refine ownsRow_setCell_below ?_ ?hp _); case hp => simp))
      · have HP1 : Hid (∀ W, Calls Tryd.prog 25 #[.string q, .string ⟨#[41]⟩] W fun e w' => e = .returned (.bool false) ∧ w' = W) := hide fun W => by
          have := HP.out q W
          rwa [decide_eq_false h41] at this
        have HF1 := hide (fun W hW => HF.out q W (by omega) hW)
        have hlen := fun t n (h : front (nums q) = some (t, n)) => front_len h
        rw [nums_len] at hlen
        have hstep := fun t n (h : front (nums q) = some (t, n)) => args_some h41 h
        have hnone := fun (h : front (nums q) = none) => args_none h41 h
        clear h41
        generalize front (nums q) = sg at *
        cases sg with
        | none =>
          have HV : Hid (D = none) := hide (by rw [HD.out, HG.out, ← hen, hnone rfl]; rfl)
          rw [restV_none] at HF1
          clear hq hen hez hrest hlen hstep hnone HE HG HD
          go_wp2_with fail
          refine (HP1.out _).mono ?_
          rintro e w1 ⟨rfl, rfl⟩
          go_wp2_with fail
          refine (HF1.out _ (HM.out _ HB.out)).mono ?_
          rintro e w2 ⟨rfl, hb2⟩
          have ha := HA.out.below hb2 (by omega)
          have HB2 := hide (HB.out.trans (hb2.mono (by omega)))
          have hz2 : w.heap.size < w2.heap.size := by have := hb2.size; omega
          obtain ⟨z0, z1, z2, z3, g0, g1, g2, g3⟩ := ha.c4
          clear hb2 ha HA Hown HB
          go_wp2_with fail
          refine bodyPost_ret (v := .tuple #[.slice none 0 0, .agg #[.int .u8 0, .string ⟨#[]⟩, .int .i64 0, .int .u8 0], .bool false]) ?_ rfl (SigTold.no HV.out rfl ?_)
          · simp [results, Tryd.results15, go_sem, World.cell?_setCell_other, hz2, z0, z1, z2, z3]
          · repeat (first | with_reducible exact HB2.out | with_reducible refine Below.drew ?_ | with_reducible refine below_drewN ?_ _ | ((with_reducible refine Below.setCell ?_ ?hp _); case hp => simp) | ((with_reducible refine Below.alloc ?_ ?hp _); case hp => first | omega | (simp; done) | (simp; omega)))
        | some y =>
          obtain ⟨⟨kk, nm, dd, x⟩, n⟩ := y
          have hn := hlen _ _ rfl
          have HS := hide (hstep _ _ rfl)
          have hr : restV q (some (⟨kk, nm, dd, x⟩, n)) = .tuple #[.agg #[.int .u8 kk, .string (strOfNums nm), .int .i64 dd, .int .u8 x], .string (q.extract n q.size), .bool true] := rfl
          rw [hr, hrest] at HF1
          have HEN := hide hen
          obtain ⟨nq, hnq⟩ : ∃ nq, strOfNums nm = nq := ⟨_, rfl⟩
          have HN := hide hnq
          rw [hnq] at HF1
          have HEZ := hide (HE.out (k + n) (by omega)).2
          have HQZ := hide hez
          clear hq hen hez hrest hlen hstep hnone hnq hr
          go_wp2_with fail
          refine (HP1.out _).mono ?_
          rintro e w1 ⟨rfl, rfl⟩
          go_wp2_with fail
          refine (HF1.out _ (HM.out _ HB.out)).mono ?_
          rintro e w2 ⟨rfl, hb2⟩
          have HA2 := hide (HA.out.below hb2 (by omega))
          have HO2 := hide (World.ownsRow.alloc (own_below Hown.out hb2) (.cells #[.int .u8 kk, .string nq, .int .i64 dd, .int .u8 x] 25))
          have HB2 := hide (HB.out.trans (hb2.mono (by omega)))
          have hz2 : w.heap.size < w2.heap.size := by have := hb2.size; omega
          clear hb2 HA Hown HB
          go_wp2_with (at_builtin; go_loud (refine wpList_append_four _ rfl (.tmp 32) (.tmp 34) 32 rfl (w.heap.size + 1) 25 i0 _ 40 Tryd.underlying32 hi0 iz0 iz1 iz2 rfl _ _ _ rfl HO2.out [.int .u8 kk, .string nq, .int .i64 dd, .int .u8 x] rfl _ (by simp) rfl rfl (by unfold maxLen; omega) (by omega) (by simp; omega) ?_); intro v2 w3 hown3 hg3)
          have HA3 := hide ((HA2.out.alloc (.cells #[.int .u8 kk, .string nq, .int .i64 dd, .int .u8 x] 25)).grown hg3 (own_far HO2.out (by omega)))
          have HB3 := hide (below_own4 (B := w.heap.size) (HB2.out.alloc (by omega) (.cells #[.int .u8 kk, .string nq, .int .i64 dd, .int .u8 x] 25)) HO2.out hg3 (by simp; omega) (by omega))
          have HO3 := hide hown3
          have hz3 : w.heap.size < w3.heap.size := by have := hg3.size; simp at this; omega
          have HG3 : Hid (args ((nums s).drop 1) = (args ((nums s).drop (k + n))).map fun x' => ((acc ++ [⟨kk, nm, dd, x⟩]) ++ x'.1, x'.2)) := hide (by
            rw [HG.out, ← HEN.out, HS.out, HEN.out, List.drop_drop, Option.map_map]
            congr 1
            funext y
            simp)
          have HT : Hid (tcells (acc ++ [⟨kk, nm, dd, x⟩]) = tcells acc ++ [.int .u8 kk, .string nq, .int .i64 dd, .int .u8 x]) := hide (by
            rw [tcells_snoc, Ty.cells, HN.out])
          clear hown3 hg3 HA2 HB2 HO2 HS HG
          go_roundw
          case rel =>
            have hqz := HQZ.out
            refine ⟨k + n, acc ++ [⟨kk, nm, dd, x⟩], by omega, by omega, rfl, by simp; omega, ?_, HA3.out, HB3.out, hz3, HG3.out⟩
            rw [HT.out, List.length_append]
            exact HO3.out
          case measure =>
            show (s.extract (k + n) s.size).size < q.size
            have hqz := HQZ.out
            rw [HEZ.out]; omega
  · have HC : Hid (∀ W, Calls Tryd.prog 24 #[.string s, .string ⟨#[40]⟩] W fun e w' => e = .returned (.tuple #[.string s, .bool false]) ∧ W = w') := hide fun W => by
      have := cutPrefix_any s W hm false (by rw [prefix_head]; simpa using h40)
      simpa using this
    have HV : Hid (D = none) := hide (by rw [← hD, sig, if_neg h40])
    clear hD h40 hw HP HF HR HM
    go_enter Tryd.func15, Tryd.ntmps15
    go_wp2_with fail
    refine (HC.out _).mono ?_
    rintro e w1 ⟨rfl, rfl⟩
    go_wp2_with fail
    refine bodyPost_ret (v := .tuple #[.slice none 0 0, .agg #[.int .u8 0, .string ⟨#[]⟩, .int .i64 0, .int .u8 0], .bool false]) ?_ rfl (SigTold.no HV.out rfl ?_)
    · simp [results, Tryd.results15, go_sem]
    · repeat (first | with_reducible exact Below.refl _ _ | with_reducible refine Below.drew ?_ | with_reducible refine below_drewN ?_ _ | ((with_reducible refine Below.setCell ?_ ?hp _); case hp => simp) | ((with_reducible refine Below.alloc ?_ ?hp _); case hp => first | omega | (simp; done) | (simp; omega)))
end Go.Proofs.YtjlcocalpjeghaaDoor
