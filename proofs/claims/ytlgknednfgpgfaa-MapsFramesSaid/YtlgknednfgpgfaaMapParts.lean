/- How package stackmap reads an entry's parts: the offset, how many types there are, the types. Nothing is claimed here. -/
import Derived.Test.YtlgknednfgpgfaaMapNext
namespace Go.Proofs.Ytlgknednfgpgfaa
open Go.RowKit

/-- What is told of a number that was read. -/
def NumR (r : Int × St) (g gb : Nat) (xs : List Int) (w : World) (e : Ending) (w' : World) : Prop :=
  w.grownBy w' (some g) ∧ Cur w' g gb xs r.2.1 r.2.2 ∧ e = .returned (.int .i64 r.1)

set_option maxRecDepth 100000 in
theorem smoffset_any (g gb B : Nat) (A : Option Addr) (n c : Nat) (xs : List Int) (ps : List Cst) (s : St) (t : Int) (ht : 0 ≤ t ∧ t < 256) (w : World) (h : Rdr w B g gb A n c xs ps s) :
    Calls Try.prog 34 #[.agg #[.pointer (some ⟨g, 0, none⟩), .slice A n c], .int .i64 t] w (NumR (deltaS xs t s) g gb xs w) := by
  have HU : Hid (∀ W, Below w.heap.size w W → Calls Try.prog 15 #[.pointer (some ⟨g, 0, none⟩)] W fun e w' => e = .returned (.int .i64 (rdN xs s 2)) ∧ Cur w' g gb xs (rdS xs s 2).1 (rdS xs s 2).2 ∧ W.grownBy w' (some g)) := hide fun W hW => u2_s (h.cur.below hW)
  have HC := hide h.cur
  obtain ⟨R, hR⟩ : ∃ R, deltaS xs t s = R := ⟨_, rfl⟩
  rw [hR]
  unfold deltaS at hR
  clear h
  by_cases h1 : t ≤ 63
  · rw [if_pos h1] at hR
    subst hR
    go_enter Try.func34, Try.ntmps34
    go_wp2_with fail
    go_ret
    exact ⟨grown_below (by repeat (first | with_reducible exact Below.refl _ _ | with_reducible refine Below.drew ?_ | with_reducible refine below_drewN ?_ _ | ((with_reducible refine Below.setCell ?_ ?hp _); case hp => simp) | ((with_reducible refine Below.alloc ?_ ?hp _); case hp => first | omega | (simp; done) | (simp; omega)))) _, HC.out.below (by repeat (first | with_reducible exact Below.refl _ _ | with_reducible refine Below.drew ?_ | with_reducible refine below_drewN ?_ _ | ((with_reducible refine Below.setCell ?_ ?hp _); case hp => simp) | ((with_reducible refine Below.alloc ?_ ?hp _); case hp => first | omega | (simp; done) | (simp; omega)))), rfl⟩
  rw [if_neg h1] at hR
  by_cases h2 : t ≤ 127
  · rw [if_pos h2] at hR
    subst hR
    go_enter Try.func34, Try.ntmps34
    go_wp2_with fail
    go_ret
    exact ⟨grown_below (by repeat (first | with_reducible exact Below.refl _ _ | with_reducible refine Below.drew ?_ | with_reducible refine below_drewN ?_ _ | ((with_reducible refine Below.setCell ?_ ?hp _); case hp => simp) | ((with_reducible refine Below.alloc ?_ ?hp _); case hp => first | omega | (simp; done) | (simp; omega)))) _, HC.out.below (by repeat (first | with_reducible exact Below.refl _ _ | with_reducible refine Below.drew ?_ | with_reducible refine below_drewN ?_ _ | ((with_reducible refine Below.setCell ?_ ?hp _); case hp => simp) | ((with_reducible refine Below.alloc ?_ ?hp _); case hp => first | omega | (simp; done) | (simp; omega)))), ret_int (by simp only; omega)⟩
  rw [if_neg h2] at hR
  have HR := hide hR
  generalize rdN xs s 2 = a at *
  generalize rdS xs s 2 = s2 at *
  clear hR
  go_enter Try.func34, Try.ntmps34
  go_wp2_with fail
  refine (HU.out _ ?_).mono ?_
  · repeat (first | with_reducible exact Below.refl _ _ | with_reducible refine Below.drew ?_ | with_reducible refine below_drewN ?_ _ | ((with_reducible refine Below.setCell ?_ ?hp _); case hp => simp) | ((with_reducible refine Below.alloc ?_ ?hp _); case hp => first | omega | (simp; done) | (simp; omega)))
  rintro e w1 ⟨rfl, hc1, hg1⟩
  go_wp2_with fail
  go_ret
  rw [← HR.out]
  exact ⟨grown_trans (grown_below (by repeat (first | with_reducible exact Below.refl _ _ | with_reducible refine Below.drew ?_ | with_reducible refine below_drewN ?_ _ | ((with_reducible refine Below.setCell ?_ ?hp _); case hp => simp) | ((with_reducible refine Below.alloc ?_ ?hp _); case hp => first | omega | (simp; done) | (simp; omega)))) _) hg1, hc1, rfl⟩

set_option maxRecDepth 100000 in
theorem smlocals_any (g gb B : Nat) (A : Option Addr) (n c : Nat) (xs : List Int) (ps : List Cst) (s : St) (t : Int) (ht : 0 ≤ t ∧ t < 256) (w : World) (h : Rdr w B g gb A n c xs ps s) :
    Calls Try.prog 36 #[.agg #[.pointer (some ⟨g, 0, none⟩), .slice A n c], .int .i64 t] w (NumR (localsS xs t s) g gb xs w) := by
  have HU : Hid (∀ W, Below w.heap.size w W → Calls Try.prog 15 #[.pointer (some ⟨g, 0, none⟩)] W fun e w' => e = .returned (.int .i64 (rdN xs s 2)) ∧ Cur w' g gb xs (rdS xs s 2).1 (rdS xs s 2).2 ∧ W.grownBy w' (some g)) := hide fun W hW => u2_s (h.cur.below hW)
  have HC := hide h.cur
  obtain ⟨R, hR⟩ : ∃ R, localsS xs t s = R := ⟨_, rfl⟩
  rw [hR]
  unfold localsS at hR
  clear h
  by_cases h1 : 252 ≤ t ∧ t ≤ 254
  · rw [if_pos h1] at hR
    subst hR
    obtain ⟨h1, h2⟩ := h1
    go_enter Try.func36, Try.ntmps36
    go_wp2_with fail
    go_ret
    exact ⟨grown_below (by repeat (first | with_reducible exact Below.refl _ _ | with_reducible refine Below.drew ?_ | with_reducible refine below_drewN ?_ _ | ((with_reducible refine Below.setCell ?_ ?hp _); case hp => simp) | ((with_reducible refine Below.alloc ?_ ?hp _); case hp => first | omega | (simp; done) | (simp; omega)))) _, HC.out.below (by repeat (first | with_reducible exact Below.refl _ _ | with_reducible refine Below.drew ?_ | with_reducible refine below_drewN ?_ _ | ((with_reducible refine Below.setCell ?_ ?hp _); case hp => simp) | ((with_reducible refine Below.alloc ?_ ?hp _); case hp => first | omega | (simp; done) | (simp; omega)))), ret_int (by simp only; omega)⟩
  rw [if_neg h1] at hR
  by_cases h2 : t = 255
  · rw [if_pos h2] at hR
    subst h2
    have HR := hide hR
    generalize rdN xs s 2 = a at *
    generalize rdS xs s 2 = s2 at *
    clear hR
    go_enter Try.func36, Try.ntmps36
    go_wp2_with fail
    refine (HU.out _ ?_).mono ?_
    · repeat (first | with_reducible exact Below.refl _ _ | with_reducible refine Below.drew ?_ | with_reducible refine below_drewN ?_ _ | ((with_reducible refine Below.setCell ?_ ?hp _); case hp => simp) | ((with_reducible refine Below.alloc ?_ ?hp _); case hp => first | omega | (simp; done) | (simp; omega)))
    rintro e w1 ⟨rfl, hc1, hg1⟩
    go_wp2_with fail
    go_ret
    rw [← HR.out]
    exact ⟨grown_trans (grown_below (by repeat (first | with_reducible exact Below.refl _ _ | with_reducible refine Below.drew ?_ | with_reducible refine below_drewN ?_ _ | ((with_reducible refine Below.setCell ?_ ?hp _); case hp => simp) | ((with_reducible refine Below.alloc ?_ ?hp _); case hp => first | omega | (simp; done) | (simp; omega)))) _) hg1, hc1, rfl⟩
  · rw [if_neg h2] at hR
    subst hR
    have h3 : t < 252 := by omega
    have h4 : (t == 255) = false := by simpa using h2
    go_enter Try.func36, Try.ntmps36
    go_wp2_with fail
    go_ret
    exact ⟨grown_below (by repeat (first | with_reducible exact Below.refl _ _ | with_reducible refine Below.drew ?_ | with_reducible refine below_drewN ?_ _ | ((with_reducible refine Below.setCell ?_ ?hp _); case hp => simp) | ((with_reducible refine Below.alloc ?_ ?hp _); case hp => first | omega | (simp; done) | (simp; omega)))) _, HC.out.below (by repeat (first | with_reducible exact Below.refl _ _ | with_reducible refine Below.drew ?_ | with_reducible refine below_drewN ?_ _ | ((with_reducible refine Below.setCell ?_ ?hp _); case hp => simp) | ((with_reducible refine Below.alloc ?_ ?hp _); case hp => first | omega | (simp; done) | (simp; omega)))), rfl⟩

set_option maxRecDepth 100000 in
theorem smoperands_any (g gb B : Nat) (A : Option Addr) (n c : Nat) (xs : List Int) (ps : List Cst) (s : St) (t : Int) (ht : 0 ≤ t ∧ t < 256) (w : World) (h : Rdr w B g gb A n c xs ps s) :
    Calls Try.prog 37 #[.agg #[.pointer (some ⟨g, 0, none⟩), .slice A n c], .int .i64 t] w (NumR (operandsS xs t s) g gb xs w) := by
  have HU : Hid (∀ W, Below w.heap.size w W → Calls Try.prog 15 #[.pointer (some ⟨g, 0, none⟩)] W fun e w' => e = .returned (.int .i64 (rdN xs s 2)) ∧ Cur w' g gb xs (rdS xs s 2).1 (rdS xs s 2).2 ∧ W.grownBy w' (some g)) := hide fun W hW => u2_s (h.cur.below hW)
  have HC := hide h.cur
  obtain ⟨R, hR⟩ : ∃ R, operandsS xs t s = R := ⟨_, rfl⟩
  rw [hR]
  unfold operandsS at hR
  clear h
  by_cases h1 : (63 < t ∧ t ≤ 127) ∨ t = 247
  · rw [if_pos h1] at hR
    subst hR
    rcases h1 with ⟨h1, h2⟩ | h1
    · go_enter Try.func37, Try.ntmps37
      go_wp2_with fail
      go_ret
      exact ⟨grown_below (by repeat (first | with_reducible exact Below.refl _ _ | with_reducible refine Below.drew ?_ | with_reducible refine below_drewN ?_ _ | ((with_reducible refine Below.setCell ?_ ?hp _); case hp => simp) | ((with_reducible refine Below.alloc ?_ ?hp _); case hp => first | omega | (simp; done) | (simp; omega)))) _, HC.out.below (by repeat (first | with_reducible exact Below.refl _ _ | with_reducible refine Below.drew ?_ | with_reducible refine below_drewN ?_ _ | ((with_reducible refine Below.setCell ?_ ?hp _); case hp => simp) | ((with_reducible refine Below.alloc ?_ ?hp _); case hp => first | omega | (simp; done) | (simp; omega)))), rfl⟩
    · subst h1
      go_enter Try.func37, Try.ntmps37
      go_wp2_with fail
      go_ret
      exact ⟨grown_below (by repeat (first | with_reducible exact Below.refl _ _ | with_reducible refine Below.drew ?_ | with_reducible refine below_drewN ?_ _ | ((with_reducible refine Below.setCell ?_ ?hp _); case hp => simp) | ((with_reducible refine Below.alloc ?_ ?hp _); case hp => first | omega | (simp; done) | (simp; omega)))) _, HC.out.below (by repeat (first | with_reducible exact Below.refl _ _ | with_reducible refine Below.drew ?_ | with_reducible refine below_drewN ?_ _ | ((with_reducible refine Below.setCell ?_ ?hp _); case hp => simp) | ((with_reducible refine Below.alloc ?_ ?hp _); case hp => first | omega | (simp; done) | (simp; omega)))), rfl⟩
  rw [if_neg h1] at hR
  by_cases h2 : t = 255
  · rw [if_pos h2] at hR
    subst h2
    have HR := hide hR
    generalize rdN xs s 2 = a at *
    generalize rdS xs s 2 = s2 at *
    clear hR
    go_enter Try.func37, Try.ntmps37
    go_wp2_with fail
    refine (HU.out _ ?_).mono ?_
    · repeat (first | with_reducible exact Below.refl _ _ | with_reducible refine Below.drew ?_ | with_reducible refine below_drewN ?_ _ | ((with_reducible refine Below.setCell ?_ ?hp _); case hp => simp) | ((with_reducible refine Below.alloc ?_ ?hp _); case hp => first | omega | (simp; done) | (simp; omega)))
    rintro e w1 ⟨rfl, hc1, hg1⟩
    go_wp2_with fail
    go_ret
    rw [← HR.out]
    exact ⟨grown_trans (grown_below (by repeat (first | with_reducible exact Below.refl _ _ | with_reducible refine Below.drew ?_ | with_reducible refine below_drewN ?_ _ | ((with_reducible refine Below.setCell ?_ ?hp _); case hp => simp) | ((with_reducible refine Below.alloc ?_ ?hp _); case hp => first | omega | (simp; done) | (simp; omega)))) _) hg1, hc1, rfl⟩
  · rw [if_neg h2] at hR
    subst hR
    have h4 : (t == 255) = false := by simpa using h2
    have h5 : (t == 247) = false := by simp; omega
    by_cases h3 : 63 < t
    · have h6 : ¬ t ≤ 127 := by omega
      go_enter Try.func37, Try.ntmps37
      go_wp2_with fail
      go_ret
      exact ⟨grown_below (by repeat (first | with_reducible exact Below.refl _ _ | with_reducible refine Below.drew ?_ | with_reducible refine below_drewN ?_ _ | ((with_reducible refine Below.setCell ?_ ?hp _); case hp => simp) | ((with_reducible refine Below.alloc ?_ ?hp _); case hp => first | omega | (simp; done) | (simp; omega)))) _, HC.out.below (by repeat (first | with_reducible exact Below.refl _ _ | with_reducible refine Below.drew ?_ | with_reducible refine below_drewN ?_ _ | ((with_reducible refine Below.setCell ?_ ?hp _); case hp => simp) | ((with_reducible refine Below.alloc ?_ ?hp _); case hp => first | omega | (simp; done) | (simp; omega)))), rfl⟩
    · go_enter Try.func37, Try.ntmps37
      go_wp2_with fail
      go_ret
      exact ⟨grown_below (by repeat (first | with_reducible exact Below.refl _ _ | with_reducible refine Below.drew ?_ | with_reducible refine below_drewN ?_ _ | ((with_reducible refine Below.setCell ?_ ?hp _); case hp => simp) | ((with_reducible refine Below.alloc ?_ ?hp _); case hp => first | omega | (simp; done) | (simp; omega)))) _, HC.out.below (by repeat (first | with_reducible exact Below.refl _ _ | with_reducible refine Below.drew ?_ | with_reducible refine below_drewN ?_ _ | ((with_reducible refine Below.setCell ?_ ?hp _); case hp => simp) | ((with_reducible refine Below.alloc ?_ ?hp _); case hp => first | omega | (simp; done) | (simp; omega)))), rfl⟩
end Go.Proofs.Ytlgknednfgpgfaa
