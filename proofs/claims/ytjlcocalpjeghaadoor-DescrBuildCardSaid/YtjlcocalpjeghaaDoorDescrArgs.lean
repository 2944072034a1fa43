/- How many words the arguments take, by the code and by the document. Nothing is claimed here. -/
import Derived.Test.YtjlcocalpjeghaaDoorDescrSig
namespace Go.Proofs.YtjlcocalpjeghaaDoor
open Go.RowKit

theorem single_kind {l : List Int} {t : Ty} {n : Nat} (h : single l = some (t, n)) : (baseB t.kind = true ∨ t.kind = 76) := by
  cases l with
  | nil => cases h
  | cons c r =>
    rw [single_cons] at h
    split at h
    · rename_i hb
      cases h; exact .inl hb
    · split at h
      · cases h; exact .inr rfl
      · cases h
theorem base_range {c : Int} (h : baseB c = true) : 0 ≤ c ∧ c < 256 := by
  rcases baseB_cases h with h | h | h | h | h | h <;> subst h <;> decide
theorem front_kind {l : List Int} {t : Ty} {n : Nat} (h : front l = some (t, n)) : 0 ≤ t.kind ∧ t.kind < 256 := by
  unfold front at h
  split at h
  · cases h
  · cases hs : single (l.drop (dimsL l)) with
    | none => rw [hs] at h; cases h
    | some x =>
      obtain ⟨u, m⟩ := x
      rw [hs] at h
      simp only [Option.map_some, Option.some.injEq, Prod.mk.injEq] at h
      obtain ⟨rfl, rfl⟩ := h
      unfold Ty.arr
      split
      · rcases single_kind hs with h | h
        · exact base_range h
        · rw [h]; decide
      · exact ⟨show (0 : Int) ≤ 91 by decide, show (91 : Int) < 256 by decide⟩
theorem args_kind (n : Nat) : ∀ (l : List Int) (ts : List Ty) (r : List Int), l.length ≤ n → args l = some (ts, r) → ∀ t ∈ ts, 0 ≤ t.kind ∧ t.kind < 256 := by
  induction n with
  | zero =>
    intro l ts r hl h
    have : l = [] := List.eq_nil_of_length_eq_zero (by omega)
    subst this
    rw [args_none (by simp) (front_none rfl)] at h
    cases h
  | succ n ih =>
    intro l ts r hl h
    by_cases h1 : l.head? = some 41
    · rw [args_stop h1] at h
      cases h
      intro t ht; cases ht
    · cases hf : front l with
      | none => rw [args_none h1 hf] at h; cases h
      | some x =>
        obtain ⟨t, k⟩ := x
        have := front_len hf
        rw [args_some h1 hf] at h
        cases ha : args (l.drop k) with
        | none => rw [ha] at h; cases h
        | some y =>
          rw [ha] at h
          simp only [Option.map_some, Option.some.injEq, Prod.mk.injEq] at h
          obtain ⟨rfl, rfl⟩ := h
          intro u hu
          rcases List.mem_cons.1 hu with rfl | hu
          · exact front_kind hf
          · exact ih (l.drop k) y.1 y.2 (by simp; omega) ha u hu
theorem sig_facts {l : List Int} {ts : List Ty} {t : Ty} (h : sig l = some (ts, t)) : ts.length ≤ l.length ∧ ∀ t ∈ ts, 0 ≤ t.kind ∧ t.kind < 256 := by
  by_cases h40 : l.head? = some 40
  · rw [sig_open h40] at h
    cases ha : args (l.drop 1) with
    | none => rw [ha] at h; cases h
    | some y =>
      rw [ha] at h
      have h2 : ((retL y.2).map fun t => (y.1, t)) = some (ts, t) := h
      cases hr : retL y.2 with
      | none => rw [hr] at h2; cases h2
      | some u =>
        rw [hr] at h2
        cases h2
        have h3 := (args_len _ _ _ _ (Nat.le_refl _) ha).1
        simp at h3
        exact ⟨by omega, args_kind _ _ _ _ (Nat.le_refl _) ha⟩
  · rw [sig_not h40] at h; cases h
theorem words_range (k : Int) : 0 ≤ words k ∧ words k ≤ 2 := by unfold words; split <;> (try split) <;> decide
theorem sumW_take (ts : List Ty) : ∀ j, j < ts.length → sumW (ts.take (j + 1)) = sumW (ts.take j) + words (ts.getD j noTy).kind := by
  intro j hj
  rw [List.take_succ_eq_append_getElem hj]
  unfold sumW
  rw [List.map_append, List.sum_append]
  simp [List.getD, hj]
theorem sumW_range (ts : List Ty) : 0 ≤ sumW ts ∧ sumW ts ≤ 2 * ts.length := by
  induction ts with
  | nil => exact ⟨Int.le_refl 0, Int.le_refl 0⟩
  | cons t r ih =>
    have := words_range t.kind
    unfold sumW at ih ⊢
    simp only [List.map_cons, List.sum_cons, List.length_cons]
    omega
theorem RdT.cells4 {w : World} {B : Nat} {A : Option Addr} {n : Nat} {ts : List Ty} (h : RdT w B A n ts) {j : Nat} (hj : j < n) : ∃ g o, A = some ⟨g, o, none⟩ ∧ g < B ∧
    w.cell? ⟨g, o + j * 4, none⟩ = some (.int .u8 (ts.getD j noTy).kind) ∧ w.cell? ⟨g, o + j * 4 + 1, none⟩ = some (.string (strOfNums (ts.getD j noTy).name)) ∧
    w.cell? ⟨g, o + j * 4 + 2, none⟩ = some (.int .i64 (ts.getD j noTy).dims) ∧ w.cell? ⟨g, o + j * 4 + 3, none⟩ = some (.int .u8 (ts.getD j noTy).elem) := by
  obtain ⟨g, o, h1, h2, c0, c1, c2, c3⟩ := h.at hj
  simp only [← Nat.add_assoc, Nat.add_zero] at c0 c1 c2 c3
  exact ⟨g, o, h1, h2, c0, c1, c2, c3⟩

set_option maxHeartbeats 4000000 in
set_option maxRecDepth 100000 in
theorem dargs_any (s : ByteArray) (w : World) (hm : s.size ≤ 1000000) (hw : Maxed w) : Calls Tryd.prog 17 #[.string s] w fun e w' => e = .returned (.int .i64 (argsW (nums s))) ∧ Below w.heap.size w w' := by
  have HM : Hid (Calls Tryd.prog 15 #[.string s] w (SigTold (sig (nums s)) w)) := hide (method4_any s w hm hw)
  have hfacts := fun ts t (h : sig (nums s) = some (ts, t)) => sig_facts h
  rw [nums_len] at hfacts
  have HW : Hid (∀ (t : Ty) (W : World), 0 ≤ t.kind → t.kind < 256 → Calls Tryd.prog 12 #[t.val] W fun e w' => e = .returned (.int .i64 (words t.kind)) ∧ Below W.heap.size W w') := hide words_any
  obtain ⟨D, hD⟩ : ∃ D, argsW (nums s) = D := ⟨_, rfl⟩
  rw [hD]
  unfold argsW at hD
  generalize sig (nums s) = sg at *
  go_enter Tryd.func17, Tryd.ntmps17
  go_wp2_with fail
  refine HM.out.mono ?_
  rintro e w2 ⟨hb2, ⟨rfl, rfl⟩ | ⟨ts, t, A, c, rfl, rfl, hrd, hc1, hc2⟩⟩
  · have HV : Hid (D = -1) := hide hD.symm
    have HB2 := hide hb2
    have hz2 := hb2.size
    clear hb2 hD hfacts
    rw [noTy_val]
    go_wp2_with fail
    go_ret
    refine ⟨ret_int HV.out.symm, ?_⟩
    repeat (first | with_reducible exact HB2.out | with_reducible refine Below.drew ?_ | with_reducible refine below_drewN ?_ _ | ((with_reducible refine Below.setCell ?_ ?hp _); case hp => simp) | ((with_reducible refine Below.alloc ?_ ?hp _); case hp => first | omega | (simp; done) | (simp; omega)))
  · have HV : Hid (D = sumW ts) := hide hD.symm
    obtain ⟨hln, hkd⟩ := hfacts _ _ rfl
    have HK := hide hkd
    have HB2 := hide hb2
    have hz2 := hb2.size
    have HR := hide hrd
    obtain ⟨kk, nm, dd, x⟩ := t
    rw [Ty.val_mk]
    clear hb2 hD hfacts hkd hrd
    unfold maxLen at hc2
    go_wp2_with fail
    go_loopw [6, 19] (fun sv iv wr => ∃ j : Nat, j ≤ ts.length ∧ iv = .int .i64 j ∧ sv = .int .i64 (sumW (ts.take j)) ∧ Below w2.heap.size w2 wr ∧ Below w.heap.size w wr) (fun _ iv _ => ts.length - (intOf iv).toNat)
    case atStart =>
      refine ⟨0, Nat.zero_le _, rfl, rfl, ?_, ?_⟩
      · repeat (first | with_reducible exact Below.refl _ _ | with_reducible refine Below.drew ?_ | with_reducible refine below_drewN ?_ _ | ((with_reducible refine Below.setCell ?_ ?hp _); case hp => simp) | ((with_reducible refine Below.alloc ?_ ?hp _); case hp => first | omega | (simp; done) | (simp; omega)))
      · repeat (first | with_reducible exact HB2.out | with_reducible refine Below.drew ?_ | with_reducible refine below_drewN ?_ _ | ((with_reducible refine Below.setCell ?_ ?hp _); case hp => simp) | ((with_reducible refine Below.alloc ?_ ?hp _); case hp => first | omega | (simp; done) | (simp; omega)))
    case round =>
      obtain ⟨j, hj, rfl, rfl, hb3, hb4⟩ := hrel
      have HB3 := hide hb3
      have HB4 := hide hb4
      have hz3 := hb3.size
      by_cases hlt : j < ts.length
      · obtain ⟨g, o, rfl, hg, c0, c1, c2, c3⟩ := (HR.out.below hb3).cells4 hlt
        have hsum := sumW_range (ts.take j)
        have hl : (ts.take j).length = j := by rw [List.length_take]; omega
        rw [hl] at hsum
        have HS := hide (sumW_take ts j hlt)
        have hkr := HK.out (ts.getD j noTy) (by simp [List.getD, hlt])
        have hwr := words_range (ts.getD j noTy).kind
        generalize ts.getD j noTy = u at *
        obtain ⟨kk2, nm2, dd2, x2⟩ := u
        have HW1 := hide (fun W => HW.out ⟨kk2, nm2, dd2, x2⟩ W hkr.1 hkr.2)
        rw [Ty.val_mk] at HW1
        simp only at c0 c1 c2 c3 hwr HS HW1
        generalize strOfNums nm2 = nq2 at *
        generalize words kk2 = wd at *
        generalize sumW (ts.take j) = sm at *
        clear hb3 hb4 hkr hl
        go_wp2_with fail
        refine (HW1.out _).mono ?_
        rintro e w3 ⟨rfl, hb5⟩
        have HB5 := hide ((HB3.out.alloc (by omega) _).trans (hb5.mono (by simp; omega)))
        have HB6 := hide ((HB4.out.alloc (by omega) _).trans (hb5.mono (by simp; omega)))
        clear hb5
        go_wp2_with fail
        go_roundw
        case rel => exact ⟨j + 1, by omega, by go_num, by rw [HS.out], HB5.out, HB6.out⟩
        case measure => simp [intOf]; omega
      · obtain rfl : j = ts.length := by omega
        have HT : Hid (sumW (ts.take ts.length) = D) := hide (by rw [HV.out, List.take_of_length_le (Nat.le_refl _)])
        clear hb3 hb4
        go_wp2_with fail
        go_ret
        exact ⟨ret_int HT.out, HB4.out⟩

set_option maxHeartbeats 4000000 in
set_option maxRecDepth 100000 in
theorem rargs_any (s : ByteArray) (w : World) (hm : s.size ≤ 1000000) : Calls Tryd.prog 18 #[.string s] w fun e w' => e = .returned (.int .i64 (argsW (nums s))) ∧ Below w.heap.size w w' := by
  have HM : Hid (Calls Tryd.prog 16 #[.string s] w (SigTold (sig (nums s)) w)) := hide (rsig_any s w hm)
  have hfacts := fun ts t (h : sig (nums s) = some (ts, t)) => sig_facts h
  rw [nums_len] at hfacts
  have HW : Hid (∀ (t : Ty) (W : World), Calls Tryd.prog 13 #[t.val] W fun e w' => e = .returned (.int .i64 (words t.kind)) ∧ Below W.heap.size W w') := hide rwords_any
  obtain ⟨D, hD⟩ : ∃ D, argsW (nums s) = D := ⟨_, rfl⟩
  rw [hD]
  unfold argsW at hD
  generalize sig (nums s) = sg at *
  go_enter Tryd.func18, Tryd.ntmps18
  go_wp2_with fail
  refine HM.out.mono ?_
  rintro e w2 ⟨hb2, ⟨rfl, rfl⟩ | ⟨ts, t, A, c, rfl, rfl, hrd, hc1, hc2⟩⟩
  · have HV : Hid (D = -1) := hide hD.symm
    have HB2 := hide hb2
    have hz2 := hb2.size
    clear hb2 hD hfacts
    rw [noTy_val]
    go_wp2_with fail
    go_ret
    refine ⟨ret_int HV.out.symm, ?_⟩
    repeat (first | with_reducible exact HB2.out | with_reducible refine Below.drew ?_ | with_reducible refine below_drewN ?_ _ | ((with_reducible refine Below.setCell ?_ ?hp _); case hp => simp) | ((with_reducible refine Below.alloc ?_ ?hp _); case hp => first | omega | (simp; done) | (simp; omega)))
  · have HV : Hid (D = sumW ts) := hide hD.symm
    obtain ⟨hln, hkd⟩ := hfacts _ _ rfl
    have HK := hide hkd
    have HB2 := hide hb2
    have hz2 := hb2.size
    have HR := hide hrd
    obtain ⟨kk, nm, dd, x⟩ := t
    rw [Ty.val_mk]
    clear hb2 hD hfacts hkd hrd
    unfold maxLen at hc2
    go_wp2_with fail
    go_loopw [6, 7] (fun sv iv wr => ∃ j : Nat, j ≤ ts.length ∧ iv = .int .i64 j ∧ sv = .int .i64 (sumW (ts.take j)) ∧ Below w2.heap.size w2 wr ∧ Below w.heap.size w wr) (fun _ iv _ => ts.length - (intOf iv).toNat)
    case atStart =>
      refine ⟨0, Nat.zero_le _, rfl, rfl, ?_, ?_⟩
      · repeat (first | with_reducible exact Below.refl _ _ | with_reducible refine Below.drew ?_ | with_reducible refine below_drewN ?_ _ | ((with_reducible refine Below.setCell ?_ ?hp _); case hp => simp) | ((with_reducible refine Below.alloc ?_ ?hp _); case hp => first | omega | (simp; done) | (simp; omega)))
      · repeat (first | with_reducible exact HB2.out | with_reducible refine Below.drew ?_ | with_reducible refine below_drewN ?_ _ | ((with_reducible refine Below.setCell ?_ ?hp _); case hp => simp) | ((with_reducible refine Below.alloc ?_ ?hp _); case hp => first | omega | (simp; done) | (simp; omega)))
    case round =>
      obtain ⟨j, hj, rfl, rfl, hb3, hb4⟩ := hrel
      have HB3 := hide hb3
      have HB4 := hide hb4
      have hz3 := hb3.size
      by_cases hlt : j < ts.length
      · obtain ⟨g, o, rfl, hg, c0, c1, c2, c3⟩ := (HR.out.below hb3).cells4 hlt
        have hsum := sumW_range (ts.take j)
        have hl : (ts.take j).length = j := by rw [List.length_take]; omega
        rw [hl] at hsum
        have HS := hide (sumW_take ts j hlt)
        have hkr := HK.out (ts.getD j noTy) (by simp [List.getD, hlt])
        have hwr := words_range (ts.getD j noTy).kind
        generalize ts.getD j noTy = u at *
        obtain ⟨kk2, nm2, dd2, x2⟩ := u
        have HW1 := hide (fun W => HW.out ⟨kk2, nm2, dd2, x2⟩ W)
        rw [Ty.val_mk] at HW1
        simp only at c0 c1 c2 c3 hwr HS HW1
        generalize strOfNums nm2 = nq2 at *
        generalize words kk2 = wd at *
        generalize sumW (ts.take j) = sm at *
        clear hb3 hb4 hkr hl
        go_wp2_with fail
        refine (HW1.out _).mono ?_
        rintro e w3 ⟨rfl, hb5⟩
        have HB5 := hide (HB3.out.trans (hb5.mono (by omega)))
        have HB6 := hide (HB4.out.trans (hb5.mono (by omega)))
        clear hb5
        go_wp2_with fail
        go_roundw
        case rel => exact ⟨j + 1, by omega, by go_num, by rw [HS.out], HB5.out, HB6.out⟩
        case measure => simp [intOf]; omega
      · obtain rfl : j = ts.length := by omega
        have HT : Hid (sumW (ts.take ts.length) = D) := hide (by rw [HV.out, List.take_of_length_le (Nat.le_refl _)])
        clear hb3 hb4
        go_wp2_with fail
        go_ret
        exact ⟨ret_int HT.out, HB4.out⟩
end Go.Proofs.YtjlcocalpjeghaaDoor
