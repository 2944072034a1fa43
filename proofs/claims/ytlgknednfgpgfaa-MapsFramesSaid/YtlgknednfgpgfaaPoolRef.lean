/- The documents' answers for entries of a pool: tags, texts, classes, members. Nothing is claimed here. -/
import Derived.Test.YtlgknednfgpgfaaPoolSpec
import Derived.Test.YtlgknednfgpgfaaProg
namespace Go.Proofs.Ytlgknednfgpgfaa
open Go.RowKit

/-- The slice with address A and length n reads as the entries ps, in blocks ahead of B. -/
def RdC (w : World) (B : Nat) (A : Option Addr) (n : Nat) (ps : List Cst) : Prop :=
  ps.length = n ∧ (0 < n → ∃ g o, A = some ⟨g, o, none⟩ ∧ g < B ∧ ∀ j u, (ccells ps)[j]? = some u → w.cell? ⟨g, o + j, none⟩ = some u)
section
variable {w w' : World} {B : Nat} {A : Option Addr} {n : Nat} {ps : List Cst}
theorem RdC.below (h : RdC w B A n ps) (hb : Below B w w') : RdC w' B A n ps :=
  ⟨h.1, fun hn => by
    obtain ⟨g, o, ha, hg, hc⟩ := h.2 hn
    exact ⟨g, o, ha, hg, fun j u hu => by rw [hb.cell (p := ⟨g, o + j, none⟩) hg]; exact hc j u hu⟩⟩
theorem RdC.mono {B' : Nat} (h : RdC w B A n ps) (hB : B ≤ B') : RdC w B' A n ps :=
  ⟨h.1, fun hn => by
    obtain ⟨g, o, ha, hg, hc⟩ := h.2 hn
    exact ⟨g, o, ha, by omega, hc⟩⟩
theorem RdC.drewN (h : RdC w B A n ps) (k : Nat) : RdC (w.drewN k) B A n ps := h
theorem RdC.cells5 (h : RdC w B A n ps) {j : Nat} (hj : j < n) : ∃ g o, A = some ⟨g, o, none⟩ ∧ g < B ∧
    w.cell? ⟨g, o + j * 5, none⟩ = some (.int .i64 (ps.getD j noC).tag) ∧ w.cell? ⟨g, o + j * 5 + 1, none⟩ = some (.string (strOfNums (ps.getD j noC).text)) ∧
    w.cell? ⟨g, o + j * 5 + 2, none⟩ = some (.int .i64 (ps.getD j noC).num) ∧ w.cell? ⟨g, o + j * 5 + 3, none⟩ = some (.int .i64 (ps.getD j noC).a) ∧ w.cell? ⟨g, o + j * 5 + 4, none⟩ = some (.int .i64 (ps.getD j noC).b) := by
  obtain ⟨g, o, ha, hg, hc⟩ := h.2 (by omega)
  have hl := h.1
  refine ⟨g, o, ha, hg, ?_, ?_, ?_, ?_, ?_⟩
  · exact hc _ _ (by have := ccells_at ps j 0 (by omega) (by omega); rw [Nat.add_zero] at this; rw [this]; rfl)
  · rw [Nat.add_assoc]; exact hc _ _ (by rw [ccells_at ps j 1 (by omega) (by omega)]; rfl)
  · rw [Nat.add_assoc]; exact hc _ _ (by rw [ccells_at ps j 2 (by omega) (by omega)]; rfl)
  · rw [Nat.add_assoc]; exact hc _ _ (by rw [ccells_at ps j 3 (by omega) (by omega)]; rfl)
  · rw [Nat.add_assoc]; exact hc _ _ (by rw [ccells_at ps j 4 (by omega) (by omega)]; rfl)
theorem atC_in (hl : ps.length = n) {j : Nat} (hj : j < n) : atC ps (j : Int) = ps.getD j noC := by
  unfold atC
  rw [if_pos (by omega), Int.toNat_natCast]
theorem atC_out (hl : ps.length = n) {i : Int} (h : i < 0 ∨ (n : Int) ≤ i) : atC ps i = noC := by
  unfold atC
  rw [if_neg (by omega)]
end
/-- A text, or none. -/
def textV : Option (List Int) → Value
  | some t => .tuple #[.string (strOfNums t), .bool true]
  | none => .tuple #[.string ⟨#[]⟩, .bool false]

theorem rtag_any (A : Option Addr) (n c : Nat) (ps : List Cst) (B : Nat) (i : Int) (w : World) (h : RdC w B A n ps) :
    Calls Try.prog 46 #[.slice A n c, .int .i64 i] w fun e w' => e = .returned (.int .i64 (atC ps i).tag) ∧ w = w' := by
  by_cases hi : 0 ≤ i ∧ i < (n : Int)
  · obtain ⟨j, rfl⟩ : ∃ j : Nat, i = j := ⟨i.toNat, by omega⟩
    have hj : j < n := by omega
    have hji : (j : Int) < (n : Int) := hi.2
    obtain ⟨g, o, rfl, _, c0, _⟩ := h.cells5 hj
    rw [atC_in h.1 hj]
    generalize (ps.getD j noC).tag = t at *
    clear h hi
    go_enter Try.func46, Try.ntmps46
    go_wp2_with fail
    go_ret
    exact ⟨rfl, rfl⟩
  · rw [atC_out h.1 (by omega)]
    clear h
    rcases (by omega : i < 0 ∨ (0 ≤ i ∧ (n : Int) ≤ i)) with h1 | ⟨h1, h2⟩
    all_goals
      clear hi
      go_enter Try.func46, Try.ntmps46
      go_wp2_with fail
      go_ret
      exact ⟨rfl, rfl⟩

theorem rtext5_any (A : Option Addr) (n c : Nat) (ps : List Cst) (B : Nat) (i : Int) (w : World) (h : RdC w B A n ps) :
    Calls Try.prog 47 #[.slice A n c, .int .i64 i] w fun e w' => e = .returned (textV (textAt ps i)) ∧ w = w' := by
  have HT := hide (rtag_any A n c ps B i w h)
  by_cases ht : (atC ps i).tag = 1
  · have hv : textV (textAt ps i) = .tuple #[.string (strOfNums (atC ps i).text), .bool true] := by unfold textAt; rw [if_pos ht]; rfl
    rw [hv]
    have hi : 0 ≤ i ∧ i < (n : Int) := by
      rcases Int.lt_or_le i 0 with h1 | h1
      · rw [atC_out h.1 (.inl h1)] at ht; cases ht
      · rcases Int.lt_or_le i n with h2 | h2
        · exact ⟨h1, h2⟩
        · rw [atC_out h.1 (.inr h2)] at ht; cases ht
    obtain ⟨j, rfl⟩ : ∃ j : Nat, i = j := ⟨i.toNat, by omega⟩
    have hj : j < n := by omega
    have hji : (j : Int) < (n : Int) := hi.2
    obtain ⟨g, o, rfl, _, _, c1, _⟩ := h.cells5 hj
    rw [ht] at HT
    rw [atC_in h.1 hj]
    generalize strOfNums (ps.getD j noC).text = t at *
    clear h hi ht hv
    go_enter Try.func47, Try.ntmps47
    go_wp2_with fail
    refine HT.out.mono ?_
    rintro e w1 ⟨rfl, rfl⟩
    go_wp2_with fail
    go_ret2
    exact ⟨rfl, rfl⟩
  · have hv : textV (textAt ps i) = .tuple #[.string ⟨#[]⟩, .bool false] := by unfold textAt; rw [if_neg ht]; rfl
    rw [hv]
    have hb : ((atC ps i).tag != 1) = true := by simpa using ht
    generalize (atC ps i).tag = t at *
    clear h ht hv
    go_enter Try.func47, Try.ntmps47
    go_wp2_with fail
    refine HT.out.mono ?_
    rintro e w1 ⟨rfl, rfl⟩
    go_wp2_with fail
    go_ret2
    exact ⟨rfl, rfl⟩

theorem rclass5_any (A : Option Addr) (n c : Nat) (ps : List Cst) (B : Nat) (i : Int) (w : World) (h : RdC w B A n ps) :
    Calls Try.prog 38 #[.slice A n c, .int .i64 i] w fun e w' => e = .returned (textV (classAt ps i)) ∧ w = w' := by
  have HT := hide (rtag_any A n c ps B i w h)
  by_cases ht : (atC ps i).tag = 7
  · have hv : classAt ps i = textAt ps (atC ps i).a := if_pos ht
    rw [hv]
    have hi : 0 ≤ i ∧ i < (n : Int) := by
      rcases Int.lt_or_le i 0 with h1 | h1
      · rw [atC_out h.1 (.inl h1)] at ht; cases ht
      · rcases Int.lt_or_le i n with h2 | h2
        · exact ⟨h1, h2⟩
        · rw [atC_out h.1 (.inr h2)] at ht; cases ht
    obtain ⟨j, rfl⟩ : ∃ j : Nat, i = j := ⟨i.toNat, by omega⟩
    have hj : j < n := by omega
    have hji : (j : Int) < (n : Int) := hi.2
    have HX := hide (fun x => rtext5_any A n c ps B x w h)
    obtain ⟨g, o, rfl, _, _, _, _, c3, _⟩ := h.cells5 hj
    rw [ht] at HT
    rw [atC_in h.1 hj]
    generalize (ps.getD j noC).a = x at *
    have HX1 := hide (HX.out x)
    obtain ⟨t, b, htv⟩ : ∃ t b, textV (textAt ps x) = .tuple #[.string t, .bool b] := by
      cases textAt ps x with
      | none => exact ⟨_, _, rfl⟩
      | some t => exact ⟨_, _, rfl⟩
    rw [htv] at HX1 ⊢
    clear h hi ht hv HX htv
    go_enter Try.func38, Try.ntmps38
    go_wp2_with fail
    refine HT.out.mono ?_
    rintro e w1 ⟨rfl, rfl⟩
    go_wp2_with fail
    refine HX1.out.mono ?_
    rintro e w1 ⟨rfl, rfl⟩
    go_wp2_with fail
    go_ret2
    exact ⟨rfl, rfl⟩
  · have hv : classAt ps i = none := if_neg ht
    rw [hv]
    have hb : ((atC ps i).tag != 7) = true := by simpa using ht
    generalize (atC ps i).tag = t at *
    clear h ht hv
    go_enter Try.func38, Try.ntmps38
    go_wp2_with fail
    refine HT.out.mono ?_
    rintro e w1 ⟨rfl, rfl⟩
    go_wp2_with fail
    go_ret2
    exact ⟨rfl, rfl⟩

theorem textV_split (o : Option (List Int)) : (o = none ∧ textV o = .tuple #[.string ⟨#[]⟩, .bool false]) ∨ ∃ t, o = some t ∧ textV o = .tuple #[.string (strOfNums t), .bool true] := by
  cases o with
  | none => exact .inl ⟨rfl, rfl⟩
  | some t => exact .inr ⟨t, rfl, rfl⟩
/-- A member's class, name and descriptor, or none. -/
def memberV : Option (List Int × List Int × List Int) → Value
  | some (c, n, d) => .tuple #[.string (strOfNums c), .string (strOfNums n), .string (strOfNums d), .bool true]
  | none => .tuple #[.string ⟨#[]⟩, .string ⟨#[]⟩, .string ⟨#[]⟩, .bool false]
theorem tag_in {ps : List Cst} {n : Nat} {i : Int} (hl : ps.length = n) (h : (atC ps i).tag ≠ 0) : ∃ j : Nat, i = j ∧ j < n := by
  rcases Int.lt_or_le i 0 with h1 | h1
  · rw [atC_out hl (.inl h1)] at h; exact absurd rfl h
  · rcases Int.lt_or_le i n with h2 | h2
    · exact ⟨i.toNat, by omega, by omega⟩
    · rw [atC_out hl (.inr h2)] at h; exact absurd rfl h
theorem member_no {ps : List Cst} {i : Int} (h : ¬ ((atC ps i).tag = 9 ∨ (atC ps i).tag = 10 ∨ (atC ps i).tag = 11)) : memberAt ps i = none := if_neg h
theorem member_yes {ps : List Cst} {i : Int} (h : (atC ps i).tag = 9 ∨ (atC ps i).tag = 10 ∨ (atC ps i).tag = 11) : memberAt ps i =
    (classAt ps (atC ps i).a).bind fun c => if (atC ps (atC ps i).b).tag = 12 then (textAt ps (atC ps (atC ps i).b).a).bind fun n => (textAt ps (atC ps (atC ps i).b).b).map fun d => (c, n, d) else none := by
  unfold memberAt
  rw [if_pos h]
  cases classAt ps (atC ps i).a with
  | none => rfl
  | some c =>
    simp only [Option.bind_some]
    split
    · cases textAt ps (atC ps (atC ps i).b).a with
      | none => rfl
      | some n =>
        cases textAt ps (atC ps (atC ps i).b).b with
        | none => rfl
        | some d => rfl
    · rfl

end Go.Proofs.Ytlgknednfgpgfaa
