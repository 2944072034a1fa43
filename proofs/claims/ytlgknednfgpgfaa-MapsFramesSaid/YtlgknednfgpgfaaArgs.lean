/- Slices of numbers that came in, and bytes as strings. Nothing is claimed here. -/
import Derived.Test.YtlgknednfgpgfaaStr
import Derived.Test.YtlgknednfgpgfaaProg
namespace Go.Proofs.Ytlgknednfgpgfaa
open Go.RowKit

/-- What a row's walk is told of a slice of numbers that came in: it is nil, or it leads to cap numbers, the first len of them its elements. -/
def Came (k : IntKind) (w : World) (a : Option Addr) (len cap : Nat) (zs : List Int) : Prop :=
  (a = none ∧ len = 0 ∧ cap = 0 ∧ zs = []) ∨
  ∃ x, a = some x ∧ len ≤ cap ∧ cap ≤ maxLen ∧ zs.length = cap ∧ (∀ i, i < zs.length → w.cell? (x.add i) = some (.int k (zs.getD i 0))) ∧ ∀ n ∈ zs, (Lit.int k n).wf = true
theorem came_lens {k : IntKind} {w : World} {a : Option Addr} {len cap : Nat} {zs : List Int} (h : Came k w a len cap zs) : len ≤ cap ∧ cap ≤ maxLen ∧ (a = none → len = 0) := by
  rcases h with ⟨_, rfl, rfl, _⟩ | ⟨x, h, h1, h2, _⟩
  · exact ⟨Nat.le_refl _, Nat.zero_le _, fun _ => rfl⟩
  · exact ⟨h1, h2, fun e => by rw [h] at e; cases e⟩
theorem came_cells {w : World} {a : Option Addr} {len cap : Nat} {zs : List Int} {k : IntKind} (h : Came k w a len cap zs) (m : Nat) (hm : m ≤ len) :
    Rd w w.heap.size a m (cells k (zs.take m)) := by
  rcases h with ⟨rfl, rfl, rfl, rfl⟩ | ⟨x, rfl, hl, _, hz, hc, _⟩
  · obtain rfl : m = 0 := by omega
    exact Rd.nil _ _ _
  · refine ⟨by simp [cells]; omega, fun hp => ?_⟩
    obtain ⟨g, o, spot⟩ := x
    have h0 := hc 0 (by omega)
    have hs : spot = none := by simpa [Addr.add] using World.cell?_spot h0
    subst hs
    refine ⟨g, o, rfl, World.block_lt_of_cell? w _ (by simpa [add_none] using h0), fun j u hu => ?_⟩
    have hj : j < m := by
      have := (List.getElem?_eq_some_iff.1 hu).1
      simp [cells] at this; omega
    have := hc j (by omega)
    rw [add_none] at this
    rw [this]
    simp only [cells, List.getElem?_map, List.getElem?_take, if_pos hj] at hu
    rw [← hu]
    simp [List.getD, show j < zs.length by omega]
theorem came_wf {k : IntKind} {w : World} {a : Option Addr} {len cap : Nat} {zs : List Int} (h : Came k w a len cap zs) : ∀ x ∈ zs, (Lit.int k x).wf = true := by
  rcases h with ⟨_, _, _, rfl⟩ | ⟨x, _, _, _, _, _, hw⟩
  · intro x hx; cases hx
  · exact hw

theorem str_of {w : World} {B : Nat} {A : Option Addr} {n c : Nat} {xs : List Int} (h : Rd w B A n (cells .u8 xs)) :
    (convert 22 9 (.slice A n c)).run Try.prog w = .ok (.string (strOfNums xs)) w := by
  have hl := h.1
  rw [cells_len] at hl
  rcases Nat.eq_zero_or_pos n with h0 | h0
  · subst h0
    obtain rfl : xs = [] := List.eq_nil_of_length_eq_zero hl
    rw [run_convert_bytes_string w 22 9 5 A 0 c Try.underlying22 Try.underlying5 Try.underlying9]
    rcases A with _ | x
    · simp [Conv.bytesToString, strOfNums]; rfl
    · rw [run_bytesToString w x 0 c [] (by simp [loadCells, loadCellsFrom])]
      rfl
  · obtain ⟨g, o, rfl, _, hc⟩ := h.2 h0
    exact run_convert_bytes_arg w 22 5 Try.underlying22 Try.underlying5 g o n c xs hl (fun i hi => by
      rw [hc i _ (by simp [cells, show i < xs.length by omega]; rfl)]; simp [List.getD, show i < xs.length by omega]) 9 Try.underlying9
end Go.Proofs.Ytlgknednfgpgfaa
