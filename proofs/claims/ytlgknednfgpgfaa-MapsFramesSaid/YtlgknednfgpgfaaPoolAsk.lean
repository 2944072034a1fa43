/- What is told of a pool's entries: entry, Text, Class, Member. Nothing is claimed here. -/
import Derived.Test.YtlgknednfgpgfaaPoolRef
namespace Go.Proofs.Ytlgknednfgpgfaa
open Go.RowKit

set_option maxRecDepth 100000 in
theorem index_any (A : Option Addr) (n c : Nat) (xs : List Int) (x : Int) (B : Nat) (w : World) (h : Rd w B A n (cells .i64 xs)) (hn : n ≤ 1000000) :
    Calls Try.prog 53 #[.slice A n c, .int .i64 x] w fun e w' => ∃ r : Int, e = .returned (.int .i64 r) ∧ decide (0 ≤ r) = xs.contains x ∧ w = w' := by
  have hl := h.1
  rw [cells_len] at hl
  have H := hide h
  have Hl := hide hl
  clear h
  go_enter Try.func53, Try.ntmps53
  go_wp2_with fail
  go_loopw [8] (fun iv wr => ∃ k : Nat, k ≤ n ∧ iv = .int .i64 k ∧ wr = w ∧ (xs.take k).contains x = false) (fun iv _ => n - (intOf iv).toNat)
  case atStart => exact ⟨0, Nat.zero_le _, rfl, rfl, rfl⟩
  case round =>
    obtain ⟨k, hk, rfl, rfl, hno⟩ := hrel
    have Hno := hide hno
    clear hno
    by_cases hlt : k < n
    · obtain ⟨g, o, rfl, hc⟩ := cells_at H.out hlt
      have hlt' : (k : Int) < (n : Int) := by omega
      have hst : Hid (xs.take (k + 1) = xs.take k ++ [xs.getD k 0]) := hide (by
        rw [List.take_succ_eq_append_getElem (by omega)]; simp [List.getD, show k < xs.length by omega])
      have hmem : Hid (xs.getD k 0 ∈ xs) := hide (by simp [List.getD, show k < xs.length by omega])
      generalize xs.getD k 0 = y at *
      by_cases hy : x = y
      · subst hy
        have HY : Hid (xs.contains x = true) := hide (by simpa using hmem.out)
        clear hmem hst
        go_wp2_with fail
        go_ret
        exact ⟨k, rfl, by rw [HY.out]; simp, rfl⟩
      · have HY : Hid ((xs.take (k + 1)).contains x = false) := hide (by rw [hst.out, List.contains_append, Hno.out]; simpa using hy)
        have hyb : (x == y) = false := by simpa using hy
        clear hmem hst
        go_wp2_with fail
        go_roundw
        case rel => exact ⟨k + 1, by omega, by go_num, trivial, HY.out⟩
        case measure => simp [intOf]; omega
    · obtain rfl : k = n := by omega
      have HY : Hid (xs.contains x = false) := hide (by have := Hno.out; rwa [List.take_of_length_le (by have := Hl.out; omega)] at this)
      go_wp2_with fail
      go_ret
      exact ⟨-1, rfl, by rw [HY.out]; rfl, rfl⟩

theorem contains_is (A : Option Addr) (n c : Nat) (xs : List Int) (x : Int) (B : Nat) (w : World) (h : Rd w B A n (cells .i64 xs)) (hn : n ≤ 1000000) :
    Calls Try.prog 52 #[.slice A n c, .int .i64 x] w fun e w' => e = .returned (.bool (xs.contains x)) ∧ w = w' := by
  have H := hide (index_any A n c xs x B w h hn)
  generalize xs.contains x = D at *
  clear h
  go_enter Try.func52, Try.ntmps52
  go_wp2_with fail
  refine H.out.mono ?_
  rintro e w1 ⟨r, rfl, hr, rfl⟩
  have Hr := hide hr
  clear hr
  go_wp2_with fail
  go_ret
  exact ⟨ret_bool Hr.out, rfl⟩

/-- An entry of one of the tags, or none. -/
def entryV : Option Cst → Value
  | some x => .tuple #[.agg x.cells.toArray, .bool true]
  | none => .tuple #[.agg noC.cells.toArray, .bool false]
def entryAt (ps : List Cst) (i : Int) (tags : List Int) : Option Cst := if 0 ≤ i ∧ i < ps.length ∧ tags.contains (atC ps i).tag = true then some (atC ps i) else none

/-- The zero entry's cells, written out. -/
abbrev zC : Array Value := #[.int .i64 0, .string ⟨#[]⟩, .int .i64 0, .int .i64 0, .int .i64 0]

set_option maxHeartbeats 4000000 in
set_option maxRecDepth 100000 in
theorem entry_any (A : Option Addr) (n c : Nat) (ps : List Cst) (B : Nat) (i : Int) (T : Option Addr) (m d : Nat) (ts : List Int) (B' : Nat) (w : World) (h : RdC w B A n ps) (hB : B ≤ w.heap.size) (ht : Rd w B' T m (cells .i64 ts)) (hB' : B' ≤ w.heap.size) (hm : m ≤ 1000000) :
    Calls Try.prog 50 #[.slice A n c, .int .i64 i, .slice T m d] w fun e w' => e = .returned (entryV (entryAt ps i ts)) ∧ Below w.heap.size w w' := by
  have HT : Hid (∀ (x : Int) W, Below w.heap.size w W → Calls Try.prog 52 #[.slice T m d, .int .i64 x] W fun e w' => e = .returned (.bool (ts.contains x)) ∧ W = w') := hide fun x W hb => contains_is T m d ts x B' W (ht.below (hb.mono hB')) hm
  obtain ⟨D, hD⟩ : ∃ D, entryV (entryAt ps i ts) = D := ⟨_, rfl⟩
  rw [hD]
  have hl := h.1
  by_cases hi : 0 ≤ i ∧ i < (n : Int)
  · obtain ⟨j, rfl⟩ : ∃ j : Nat, i = j := ⟨i.toNat, by omega⟩
    have hj : j < n := by omega
    have hji : (j : Int) < (n : Int) := hi.2
    have hb0 : Below w.heap.size w (w.alloc (.cells #[.int .i64 0, .string ⟨#[]⟩, .int .i64 0, .int .i64 0, .int .i64 0] 58)) := (Below.refl _ w).alloc (Nat.le_refl _) _
    obtain ⟨g, o, rfl, hg, c0, c1, c2, c3, c4⟩ := h.cells5 hj
    have HD : Hid (D = entryV (if ts.contains (ps.getD j noC).tag = true then some (ps.getD j noC) else none)) := hide (by
      rw [← hD]; unfold entryAt; rw [atC_in hl hj]
      by_cases hc : ts.contains (ps.getD j noC).tag = true
      · rw [if_pos hc, if_pos ⟨by omega, by omega, hc⟩]
      · rw [if_neg hc, if_neg (fun h => hc h.2.2)])
    generalize (ps.getD j noC) = x at *
    obtain ⟨x0, x1, x2, x3, x4⟩ := x
    simp only at HD c0 c1 c2 c3 c4
    have HT0 := hide (HT.out x0 _ hb0)
    have d0 := (hb0.cell (p := ⟨g, o + j * 5, none⟩) (Nat.lt_of_lt_of_le hg hB)).trans c0
    have d1 := (hb0.cell (p := ⟨g, o + j * 5 + 1, none⟩) (Nat.lt_of_lt_of_le hg hB)).trans c1
    have d2 := (hb0.cell (p := ⟨g, o + j * 5 + 2, none⟩) (Nat.lt_of_lt_of_le hg hB)).trans c2
    have d3 := (hb0.cell (p := ⟨g, o + j * 5 + 3, none⟩) (Nat.lt_of_lt_of_le hg hB)).trans c3
    have d4 := (hb0.cell (p := ⟨g, o + j * 5 + 4, none⟩) (Nat.lt_of_lt_of_le hg hB)).trans c4
    cases hc : ts.contains x0
    · rw [hc] at HT0 HD
      have HD2 : Hid (D = .tuple #[.agg #[.int .i64 0, .string ⟨#[]⟩, .int .i64 0, .int .i64 0, .int .i64 0], .bool false]) := hide (by rw [HD.out]; rfl)
      clear HD hD hc HT h ht
      go_enter Try.func50, Try.ntmps50
      go_wp2_with fail
      refine HT0.out.mono ?_
      rintro e w1 ⟨rfl, rfl⟩
      go_wp2_with fail
      refine bodyPost_ret (v := .tuple #[.agg #[.int .i64 0, .string ⟨#[]⟩, .int .i64 0, .int .i64 0, .int .i64 0], .bool false]) ?_ rfl ⟨by rw [HD2.out], ?_⟩
      · simp [results, Try.results50, go_sem]
      · repeat (first | with_reducible exact (Below.refl _ _) | with_reducible refine Below.drew ?_ | with_reducible refine below_drewN ?_ _ | ((with_reducible refine Below.setCell ?_ ?hp _); case hp => simp) | ((with_reducible refine Below.alloc ?_ ?hp _); case hp => first | omega | (simp; done) | (simp; omega)))
    · rw [hc] at HT0 HD
      have HD2 : Hid (D = .tuple #[.agg #[.int .i64 x0, .string (strOfNums x1), .int .i64 x2, .int .i64 x3, .int .i64 x4], .bool true]) := hide (by rw [HD.out]; rfl)
      generalize strOfNums x1 = q1 at *
      clear HD hD hc HT h ht
      go_enter Try.func50, Try.ntmps50
      go_wp2_with fail
      refine HT0.out.mono ?_
      rintro e w1 ⟨rfl, rfl⟩
      go_wp2_with fail
      refine bodyPost_ret (v := .tuple #[.agg #[.int .i64 x0, .string q1, .int .i64 x2, .int .i64 x3, .int .i64 x4], .bool true]) ?_ rfl ⟨by rw [HD2.out], ?_⟩
      · simp [results, Try.results50, go_sem]
      · repeat (first | with_reducible exact (Below.refl _ _) | with_reducible refine Below.drew ?_ | with_reducible refine below_drewN ?_ _ | ((with_reducible refine Below.setCell ?_ ?hp _); case hp => simp) | ((with_reducible refine Below.alloc ?_ ?hp _); case hp => first | omega | (simp; done) | (simp; omega)))
  · have HD2 : Hid (D = .tuple #[.agg #[.int .i64 0, .string ⟨#[]⟩, .int .i64 0, .int .i64 0, .int .i64 0], .bool false]) := hide (by
      rw [← hD, entryAt, if_neg (by omega)]; rfl)
    clear hD HT h ht
    rcases (by omega : i < 0 ∨ (¬ i < 0 ∧ (n : Int) ≤ i)) with h1 | ⟨h1, h2⟩
    all_goals
      clear hi
      go_enter Try.func50, Try.ntmps50
      go_wp2_with fail
      refine bodyPost_ret (v := .tuple #[.agg #[.int .i64 0, .string ⟨#[]⟩, .int .i64 0, .int .i64 0, .int .i64 0], .bool false]) ?_ rfl ⟨by rw [HD2.out], ?_⟩
      · simp [results, Try.results50, go_sem]
      · repeat (first | with_reducible exact (Below.refl _ _) | with_reducible refine Below.drew ?_ | with_reducible refine below_drewN ?_ _ | ((with_reducible refine Below.setCell ?_ ?hp _); case hp => simp) | ((with_reducible refine Below.alloc ?_ ?hp _); case hp => first | omega | (simp; done) | (simp; omega)))
/-- Of tags that are not nought. -/
theorem entryAt_of {ps : List Cst} {i : Int} {ts : List Int} (h0 : ts.contains 0 = false) : entryAt ps i ts = if ts.contains (atC ps i).tag = true then some (atC ps i) else none := by
  unfold entryAt
  by_cases hi : 0 ≤ i ∧ i < ps.length
  · by_cases hc : ts.contains (atC ps i).tag = true
    · rw [if_pos hc, if_pos ⟨hi.1, hi.2, hc⟩]
    · rw [if_neg hc, if_neg (fun h => hc h.2.2)]
  · have : (atC ps i).tag = 0 := by unfold atC; rw [if_neg hi]; rfl
    rw [if_neg (by omega), this, if_neg (by rw [h0]; decide)]
end Go.Proofs.Ytlgknednfgpgfaa
