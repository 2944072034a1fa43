/- The document's answer for the type at a text's beginning. Nothing is claimed here. -/
import Derived.Test.YtjlcocalpjeghaaDoorDescrRef
namespace Go.Proofs.YtjlcocalpjeghaaDoor
open Go.RowKit

theorem tw_step {p : Int → Bool} {l : List Int} : ∀ {k : Nat}, k < l.length → p (l.getD k 0) = true → k ≤ (l.takeWhile p).length → k + 1 ≤ (l.takeWhile p).length := by
  induction l with
  | nil => intro k h; simp at h
  | cons a r ih =>
    intro k h hp hk
    by_cases ha : p a = true
    · simp only [List.takeWhile_cons, ha, if_true, List.length_cons] at hk ⊢
      cases k with
      | zero => omega
      | succ k =>
        have := ih (k := k) (by simpa using h) (by simpa using hp) (by omega)
        omega
    · simp only [List.takeWhile_cons, ha, Bool.false_eq_true, if_false, List.length_nil] at hk
      obtain rfl : k = 0 := by omega
      simp at hp
      exact absurd hp ha
theorem tw_stop {p : Int → Bool} {l : List Int} : ∀ {k : Nat}, k < l.length → p (l.getD k 0) = false → k ≤ (l.takeWhile p).length → (l.takeWhile p).length = k := by
  induction l with
  | nil => intro k h; simp at h
  | cons a r ih =>
    intro k h hp hk
    by_cases ha : p a = true
    · simp only [List.takeWhile_cons, ha, if_true, List.length_cons] at hk ⊢
      cases k with
      | zero => simp at hp; rw [hp] at ha; cases ha
      | succ k =>
        have := ih (k := k) (by simpa using h) (by simpa using hp) (by omega)
        omega
    · simp only [List.takeWhile_cons, ha, Bool.false_eq_true, if_false, List.length_nil] at hk ⊢
      omega
theorem tw_all {p : Int → Bool} {l : List Int} (h : l.length ≤ (l.takeWhile p).length) : l.takeWhile p = l :=
  (List.takeWhile_prefix (l := l) p).eq_of_length_le h
theorem At.c4 {w : World} {g : Nat} {t : TypeId} {a b c d : Value} (h : At w g t [a, b, c, d]) :
    w.cell? ⟨g, 0, none⟩ = some a ∧ w.cell? ⟨g, 1, none⟩ = some b ∧ w.cell? ⟨g, 2, none⟩ = some c ∧ w.cell? ⟨g, 3, none⟩ = some d ∧
    w.frozen? ⟨g, 0, none⟩ = false ∧ w.frozen? ⟨g, 1, none⟩ = false ∧ w.frozen? ⟨g, 2, none⟩ = false ∧ w.frozen? ⟨g, 3, none⟩ = false :=
  ⟨h.cell 0, h.cell 1, h.cell 2, h.cell 3, h.free 0, h.free 1, h.free 2, h.free 3⟩

/-- What the type at a beginning is told as. -/
def frontV : Option (Ty × Nat) → Value
  | some (t, n) => .tuple #[t.val, .int .i64 n]
  | none => .tuple #[noTy.val, .int .i64 0]

set_option maxHeartbeats 6000000 in
set_option maxRecDepth 100000 in
theorem rfront_any (s : ByteArray) (w : World) (hm : s.size ≤ 1000000) : Calls Tryd.prog 20 #[.string s] w fun e w' => e = .returned (frontV (front (nums s))) ∧ Below w.heap.size w w' := by
  have HR : Hid (∀ (t : ByteArray) (W : World), t.size ≤ 1000000 → Calls Tryd.prog 29 #[.string t] W (Tells (classB (nums t)) W)) := hide fun t W h => rclass_any t W h
  obtain ⟨D, hD⟩ : ∃ D, front (nums s) = D := ⟨_, rfl⟩
  rw [hD]
  have HD := hide hD
  clear hD
  go_enter Tryd.func20, Tryd.ntmps20
  go_wp2_with fail
  go_loopw [4] (fun iv wr => ∃ k : Nat, k ≤ dimsL (nums s) ∧ iv = .int .i64 k ∧ At wr w.heap.size 25 [.int .u8 0, .string ByteArray.empty, .int .i64 0, .int .u8 0] ∧ wr.heap.size = w.heap.size + 1 ∧ Below w.heap.size w wr) (fun iv _ => s.size - (intOf iv).toNat)
  case atStart => exact ⟨0, Nat.zero_le _, rfl, At.new _ _ _, by simp, (Below.refl _ w).alloc (Nat.le_refl _) _⟩
  case round =>
    obtain ⟨k, hk, rfl, hat, hz, hb⟩ := hrel
    obtain ⟨z0, z1, z2, z3, g0, g1, g2, g3⟩ := hat.c4
    by_cases hlt : k < s.size
    · have hn := getD_at s k hlt
      by_cases hc : (s[k].toNat : Int) = 91
      · have HK := hide (tw_step (p := (· == 91)) (l := nums s) (k := k) (by rw [nums_len]; exact hlt) (by rw [hn, hc]; rfl) hk)
        have hc' : ((s[k].toNat : Int) == 91) = true := by simpa using hc
        have HA := hide hat
        have HB := hide hb
        clear hn hk hat hb
        go_wp2_with fail
        go_roundw
        case rel => exact ⟨k + 1, HK.out, by go_num, HA.out, hz, HB.out⟩
        case measure => simp [intOf]; omega
      · have hd := tw_stop (p := (· == 91)) (l := nums s) (k := k) (by rw [nums_len]; exact hlt) (by rw [hn]; simpa using hc) hk
        have hc' : ((s[k].toNat : Int) == 91) = false := by simpa using hc
        have hf : front (nums s) = if 255 < k then none else (single ((nums s).drop k)).map fun x => (x.1.arr k, k + x.2) := by
          unfold front dimsL
          rw [hd]
        by_cases h255 : 255 < k
        · have HV : Hid (D = none) := hide (by rw [← HD.out, hf, if_pos h255])
          have HB := hide hb
          clear hn hk hd hf hat hb
          go_wp2_with fail
          refine bodyPost_ret (v := .tuple #[.agg #[.int .u8 0, .string ⟨#[]⟩, .int .i64 0, .int .u8 0], .int .i64 0]) (by simp [results, Tryd.results20, go_sem, World.cell?_setCell_other, z0, z1, z2, z3]) rfl ⟨?_, ?_⟩
          · rw [HV.out]; rfl
          · repeat (first | with_reducible exact HB.out | ((with_reducible refine Below.setCell ?_ ?hp _); case hp => simp) | ((with_reducible refine Below.alloc ?_ ?hp _); case hp => (simp; omega)))
        · have HF : Hid (D = (single ((s[k].toNat : Int) :: (nums s).drop (k + 1))).map fun x => (x.1.arr k, k + x.2)) := hide (by
            rw [← HD.out, hf, if_neg h255, List.drop_eq_getElem_cons (by rw [nums_len]; exact hlt)]
            have : (nums s)[k]'(by rw [nums_len]; exact hlt) = (s[k].toNat : Int) := by rw [← hn]; simp [List.getD, nums_len, hlt]
            rw [this])
          have HB := hide hb
          have HA := hide hat
          clear hn hk hd hf hb hat
          by_cases hbase : baseB (s[k].toNat : Int) = true
          · have HBase := hide (baseB_cases hbase)
            by_cases hk0 : 0 < k
            · have HV : Hid (D = some (⟨91, [], k, (s[k].toNat : Int)⟩, k + 1)) := hide (by rw [HF.out, single_cons, if_pos hbase, Option.map_some, Ty.arr, if_neg (by omega)])
              clear hbase HF
              go_wp2_with fail
              all_goals first
                | (exfalso; have := HBase.out; simp only [beq_eq_false_iff_ne, beq_iff_eq, ne_eq] at *; omega)
                | (refine bodyPost_ret (v := .tuple #[.agg #[.int .u8 91, .string ⟨#[]⟩, .int .i64 k, .int .u8 s[k].toNat], .int .i64 (k + 1)]) ?_ rfl ⟨by rw [HV.out]; rfl, ?_⟩
                   · simp [results, Tryd.results20, go_sem, World.cell?_setCell_other, hz, z0, z1, z2, z3]
                   · repeat (first | with_reducible exact HB.out | ((with_reducible refine Below.setCell ?_ ?hp _); case hp => simp) | ((with_reducible refine Below.alloc ?_ ?hp _); case hp => (simp; omega))))
            · have HV : Hid (D = some (⟨(s[k].toNat : Int), [], 0, 0⟩, k + 1)) := hide (by rw [HF.out, single_cons, if_pos hbase, Option.map_some, Ty.arr, if_pos (by omega)])
              clear hbase HF
              go_wp2_with fail
              all_goals first
                | (exfalso; have := HBase.out; simp only [beq_eq_false_iff_ne, beq_iff_eq, ne_eq] at *; omega)
                | (refine bodyPost_ret (v := .tuple #[.agg #[.int .u8 s[k].toNat, .string ⟨#[]⟩, .int .i64 0, .int .u8 0], .int .i64 (k + 1)]) ?_ rfl ⟨by rw [HV.out]; rfl, ?_⟩
                   · simp [results, Tryd.results20, go_sem, World.cell?_setCell_other, hz, z0, z1, z2, z3]
                   · repeat (first | with_reducible exact HB.out | ((with_reducible refine Below.setCell ?_ ?hp _); case hp => simp) | ((with_reducible refine Below.alloc ?_ ?hp _); case hp => (simp; omega))))
          · have b66 : ((s[k].toNat : Int) == 66) = false := by simp [baseB] at hbase ⊢; omega
            have b67 : ((s[k].toNat : Int) == 67) = false := by simp [baseB] at hbase ⊢; omega
            have b73 : ((s[k].toNat : Int) == 73) = false := by simp [baseB] at hbase ⊢; omega
            have b74 : ((s[k].toNat : Int) == 74) = false := by simp [baseB] at hbase ⊢; omega
            have b83 : ((s[k].toNat : Int) == 83) = false := by simp [baseB] at hbase ⊢; omega
            have b90 : ((s[k].toNat : Int) == 90) = false := by simp [baseB] at hbase ⊢; omega
            by_cases h76 : (s[k].toNat : Int) = 76
            · have b76 : ((s[k].toNat : Int) == 76) = true := by simpa using h76
              obtain ⟨r, hr⟩ : ∃ r, r = (nums s).drop (k + 1) := ⟨_, rfl⟩
              have hrl : r.length = s.size - (k + 1) := by rw [hr, List.length_drop, nums_len]
              have HG := hide (show ∀ j, k + 1 + j < s.size → (nums s).getD (k + 1 + j) 0 = r.getD j 0 from fun j hj => by rw [hr]; simp [List.getD, List.getElem?_drop])
              have HE := hide (show ∀ j, k + 1 + j ≤ s.size → nums (s.extract (k + 1) (k + 1 + j)) = r.take j from fun j hj => by rw [nums_cut, hr, Nat.add_sub_cancel_left])
              have HF2 : Hid (D = (if (59 : Int) ∈ r ∧ classB (r.takeWhile (· != 59)) = true then some (((⟨76, r.takeWhile (· != 59), 0, 0⟩ : Ty).arr k), k + ((r.takeWhile (· != 59)).length + 2)) else none)) := hide (by
                rw [HF.out, single_cons, if_neg hbase, ← hr]
                by_cases hx : (59 : Int) ∈ r ∧ classB (r.takeWhile (· != 59)) = true
                · rw [if_pos ⟨h76, hx⟩, if_pos hx]; rfl
                · rw [if_neg (fun h => hx h.2), if_neg hx]; rfl)
              have htl := (List.takeWhile_prefix (l := r) (· != 59)).length_le
              have hlt' : (s[k].toNat : Int) = 76 := h76
              have q1 : decide (s.size ≤ k) = false := by simp; omega
              have q2 : decide ((255 : Int) < (k : Int)) = false := by simp; omega
              clear hbase HF hr h76
              go_wp2_with fail
              go_loopw [6] (fun nv wx => ∃ j : Nat, j ≤ (r.takeWhile (· != 59)).length ∧ nv = .int .i64 (k + 1 + j) ∧ At wx w.heap.size 25 [.int .u8 0, .string ByteArray.empty, .int .i64 0, .int .u8 0] ∧
                At wx (w.heap.size + 1) 25 [.int .u8 76, .string ⟨#[]⟩, .int .i64 0, .int .u8 0] ∧ wx.heap.size = w.heap.size + 2 ∧ Below w.heap.size w wx) (fun nv _ => s.size - (intOf nv).toNat)
              case atStart => exact ⟨0, Nat.zero_le _, by go_num, HA.out.alloc _, by rw [← hz]; exact At.new _ _ _, by simp [hz], HB.out.alloc (by omega) _⟩
              case round =>
                clear HA HB z0 z1 z2 z3 g0 g1 g2 g3 hz
                obtain ⟨j, hj, rfl, ha, hb, hz, hB⟩ := hrel
                obtain ⟨z0, z1, z2, z3, g0, g1, g2, g3⟩ := ha.c4
                obtain ⟨y0, y1, y2, y3, f0, f1, f2, f3⟩ := hb.c4
                have HA := hide ha
                have HY := hide hb
                have HB := hide hB
                clear ha hb hB
                by_cases hn : k + 1 + j < s.size
                · have hg := getD_at s (k + 1 + j) hn
                  rw [HG.out j hn] at hg
                  by_cases h59 : (s[k + 1 + j].toNat : Int) = 59
                  · have hw := tw_stop (p := (· != 59)) (l := r) (k := j) (by omega) (by rw [hg, h59]; rfl) hj
                    have h59' : ((s[k + 1 + j].toNat : Int) != 59) = false := by simpa using h59
                    have hm : (59 : Int) ∈ r := by
                      have hjr : j < r.length := by omega
                      have h1 : r[j]'hjr = 59 := by rw [← h59, ← hg]; simp [List.getD, hjr]
                      rw [← h1]; exact List.getElem_mem _
                    have hx : r.takeWhile (· != 59) = nums (s.extract (k + 1) (k + 1 + j)) := by
                      rw [HE.out j (by omega), ← hw]
                      exact List.prefix_iff_eq_take.1 (List.takeWhile_prefix _)
                    have HT : Hid ((s.extract (k + 1) (k + 1 + j)).size ≤ 1000000) := hide (by rw [← nums_len, ← hx]; omega)
                    have HF3 : Hid (D = (if classB (nums (s.extract (k + 1) (k + 1 + j))) = true then some (((⟨76, nums (s.extract (k + 1) (k + 1 + j)), 0, 0⟩ : Ty).arr k), k + (j + 2)) else none)) := hide (by
                      rw [HF2.out, hx]
                      rw [hx] at hw
                      rw [hw]
                      by_cases hcl : classB (nums (s.extract (k + 1) (k + 1 + j))) = true
                      · rw [if_pos ⟨hm, hcl⟩, if_pos hcl]
                      · rw [if_neg (fun h => hcl h.2), if_neg hcl])
                    clear hw hx hm HF2 HE HG hg hj htl hrl h59
                    go_wp2_with fail
                    refine (HR.out _ _ HT.out).mono ?_
                    rintro e w3 ⟨rfl, hb3⟩
                    have HA3 := hide (HA.out.below hb3 HA.out.lt)
                    have HY3 := hide (HY.out.below hb3 HY.out.lt)
                    have HB3 := hide (HB.out.trans (hb3.mono (by omega)))
                    have hz3 : w.heap.size + 2 ≤ w3.heap.size := by have := hb3.size; omega
                    clear hb3 HA HY HB z0 z1 z2 z3 g0 g1 g2 g3 y0 y1 y2 y3 f0 f1 f2 f3 hz
                    obtain ⟨z0, z1, z2, z3, g0, g1, g2, g3⟩ := HA3.out.c4
                    obtain ⟨y0, y1, y2, y3, f0, f1, f2, f3⟩ := HY3.out.c4
                    cases hcl : classB (nums (s.extract (k + 1) (k + 1 + j)))
                    · have HV : Hid (D = none) := hide (by rw [HF3.out, hcl]; rfl)
                      clear hcl HF3
                      go_wp2_with fail
                      refine bodyPost_ret (v := .tuple #[.agg #[.int .u8 0, .string ⟨#[]⟩, .int .i64 0, .int .u8 0], .int .i64 0]) (by simp [results, Tryd.results20, go_sem, World.cell?_setCell_other, z0, z1, z2, z3]) rfl ⟨?_, ?_⟩
                      · rw [HV.out]; rfl
                      · repeat (first | with_reducible exact HB3.out | ((with_reducible refine Below.setCell ?_ ?hp _); case hp => simp) | ((with_reducible refine Below.alloc ?_ ?hp _); case hp => (simp; omega)))
                    · have HS := hide (of_nums (s.extract (k + 1) (k + 1 + j)))
                      by_cases hk0 : 0 < k
                      · have HV : Hid (D = some (⟨91, nums (s.extract (k + 1) (k + 1 + j)), k, 76⟩, k + 1 + j + 1)) := hide (by
                          rw [HF3.out, hcl, if_pos rfl, Ty.arr, if_neg (by omega)]
                          simp only [Option.some.injEq, Prod.mk.injEq, true_and]; omega)
                        clear hcl HF3
                        generalize hS : s.extract (k + 1) (k + 1 + j) = nm at *
                        go_wp2_with fail
                        refine bodyPost_ret (v := .tuple #[.agg #[.int .u8 91, .string nm, .int .i64 k, .int .u8 76], .int .i64 (k + 1 + j + 1)]) ?_ rfl ⟨by rw [HV.out, frontV, Ty.val, HS.out]; rfl, ?_⟩
                        · simp [results, Tryd.results20, go_sem, World.cell?_setCell_other, z0, z1, z2, z3]
                        · repeat (first | with_reducible exact HB3.out | ((with_reducible refine Below.setCell ?_ ?hp _); case hp => simp) | ((with_reducible refine Below.alloc ?_ ?hp _); case hp => (simp; omega)))
                      · have HV : Hid (D = some (⟨76, nums (s.extract (k + 1) (k + 1 + j)), 0, 0⟩, k + 1 + j + 1)) := hide (by
                          rw [HF3.out, hcl, if_pos rfl, Ty.arr, if_pos (by omega)]
                          simp only [Option.some.injEq, Prod.mk.injEq, true_and]; omega)
                        clear hcl HF3
                        generalize hS : s.extract (k + 1) (k + 1 + j) = nm at *
                        go_wp2_with fail
                        refine bodyPost_ret (v := .tuple #[.agg #[.int .u8 76, .string nm, .int .i64 0, .int .u8 0], .int .i64 (k + 1 + j + 1)]) ?_ rfl ⟨by rw [HV.out, frontV, Ty.val, HS.out]; rfl, ?_⟩
                        · simp [results, Tryd.results20, go_sem, World.cell?_setCell_other, z0, z1, z2, z3]
                        · repeat (first | with_reducible exact HB3.out | ((with_reducible refine Below.setCell ?_ ?hp _); case hp => simp) | ((with_reducible refine Below.alloc ?_ ?hp _); case hp => (simp; omega)))
                  · have hw := hide (tw_step (p := (· != 59)) (l := r) (k := j) (by omega) (by rw [hg]; simpa using h59) hj)
                    have h59' : ((s[k + 1 + j].toNat : Int) != 59) = true := by simpa using h59
                    clear hg
                    go_wp2_with fail
                    go_roundw
                    case rel =>
 first
                      | exact ⟨j + 1, hw.out, by go_num, HA.out, HY.out, hz, HB.out⟩
                      | (repeat apply Exists.intro
                         exact ⟨⟨j + 1, hw.out, by go_num, HA.out, HY.out, hz, HB.out⟩, rfl⟩)
                    case measure => simp [intOf]; omega
                · have hw : r.takeWhile (· != 59) = r := tw_all (by omega)
                  have HV : Hid (D = none) := hide (by
                    rw [HF2.out, if_neg]
                    rintro ⟨h, _⟩
                    rw [← hw] at h
                    exact take_no _ _ h)
                  clear hw HF2 HE HG
                  go_wp2_with fail
                  refine bodyPost_ret (v := .tuple #[.agg #[.int .u8 0, .string ⟨#[]⟩, .int .i64 0, .int .u8 0], .int .i64 0]) (by simp [results, Tryd.results20, go_sem, World.cell?_setCell_other, z0, z1, z2, z3]) rfl ⟨?_, ?_⟩
                  · rw [HV.out]; rfl
                  · repeat (first | with_reducible exact HB.out | ((with_reducible refine Below.setCell ?_ ?hp _); case hp => simp) | ((with_reducible refine Below.alloc ?_ ?hp _); case hp => (simp; omega)))
            · have b76 : ((s[k].toNat : Int) == 76) = false := by simpa using h76
              have HV : Hid (D = none) := hide (by rw [HF.out, single_cons, if_neg hbase, if_neg (fun h => h76 h.1)]; rfl)
              clear hbase HF h76
              go_wp2_with fail
              refine bodyPost_ret (v := .tuple #[.agg #[.int .u8 0, .string ⟨#[]⟩, .int .i64 0, .int .u8 0], .int .i64 0]) (by simp [results, Tryd.results20, go_sem, World.cell?_setCell_other, hz, z0, z1, z2, z3]) rfl ⟨?_, ?_⟩
              · rw [HV.out]; rfl
              · repeat (first | with_reducible exact HB.out | ((with_reducible refine Below.setCell ?_ ?hp _); case hp => simp) | ((with_reducible refine Below.alloc ?_ ?hp _); case hp => (simp; omega)))
    · have HV : Hid (D = none) := hide (by
        rw [← HD.out]
        refine front_none ?_
        rw [List.drop_eq_nil_of_le (by rw [nums_len]; omega)]; rfl)
      have HB := hide hb
      clear hk hat hb
      go_wp2_with fail
      refine bodyPost_ret (v := .tuple #[.agg #[.int .u8 0, .string ⟨#[]⟩, .int .i64 0, .int .u8 0], .int .i64 0]) (by simp [results, Tryd.results20, go_sem, World.cell?_setCell_other, z0, z1, z2, z3]) rfl ⟨?_, ?_⟩
      · rw [HV.out]; rfl
      · repeat (first | with_reducible exact HB.out | ((with_reducible refine Below.setCell ?_ ?hp _); case hp => simp) | ((with_reducible refine Below.alloc ?_ ?hp _); case hp => (simp; omega)))
end Go.Proofs.YtjlcocalpjeghaaDoor
