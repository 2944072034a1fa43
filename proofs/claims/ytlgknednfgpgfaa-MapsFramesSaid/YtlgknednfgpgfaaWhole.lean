/- CursorWhole: bytes read one by one, in twos, in fours, or at once are the same bytes. -/
import Derived.Test.YtlgknednfgpgfaaNone
import Derived.Test.YtlgknednfgpgfaaArgs
namespace Go.Proofs.Ytlgknednfgpgfaa
open Go.RowKit

theorem came_rd {w : World} {a : Option Addr} {len cap : Nat} {zs : List Int} {k : IntKind} (h : Came k w a len cap zs) (m : Nat) (hm : m ≤ len) :
    Rd w w.heap.size a m ((zs.take m).map (.int k)) := by
  rcases h with ⟨rfl, rfl, rfl, rfl⟩ | ⟨x, rfl, hl, _, hz, hc, _⟩
  · obtain rfl : m = 0 := by omega
    exact Rd.nil _ _ _
  · refine ⟨by simp; omega, fun hp => ?_⟩
    obtain ⟨g, o, spot⟩ := x
    have h0 := hc 0 (by omega)
    have hs : spot = none := by simpa [Addr.add] using World.cell?_spot h0
    subst hs
    refine ⟨g, o, rfl, World.block_lt_of_cell? w _ (by simpa [add_none] using h0), fun j u hu => ?_⟩
    have hj : j < m := by
      have := (List.getElem?_eq_some_iff.1 hu).1
      simp at this; omega
    have := hc j (by omega)
    rw [add_none] at this
    rw [this]
    simp only [List.getElem?_map, List.getElem?_take, if_pos hj] at hu
    rw [← hu]
    simp [List.getD, show j < zs.length by omega]
theorem came_bytes {w : World} {a : Option Addr} {len cap : Nat} {zs : List Int} (h : Came .u8 w a len cap zs) : IsBytes zs := by
  rcases h with ⟨_, _, _, rfl⟩ | ⟨x, _, _, _, _, _, hw⟩
  · intro x hx; cases hx
  · intro x hx
    have := hw x hx
    have h2 : 0 ≤ x ∧ x ≤ 255 := by simpa [Lit.wf, IntKind.min, IntKind.max, IntKind.signed, IntKind.bits] using this
    omega

theorem short_any (a : Option Addr) (len cap : Nat) (n : Int) (w : World) (hl : len ≤ cap) (ha : a = none → len = 0) (h0 : 0 ≤ n) (_hm : cap ≤ maxLen) :
    Calls Try.prog 6 #[.slice a len cap, .int .i64 n] w fun e w' => e = .returned (.slice a (min len n.toNat) cap) ∧ w = w' := by
  obtain ⟨n, rfl⟩ := Int.eq_ofNat_of_zero_le h0
  rw [Int.toNat_natCast]
  unfold maxLen at _hm
  by_cases hlt : n < len
  · have hne : a ≠ none := fun e => by have := ha e; omega
    obtain ⟨x, rfl⟩ : ∃ x, a = some x := by cases a with | none => exact absurd rfl hne | some x => exact ⟨x, rfl⟩
    clear ha hne
    have Hmin := hide (show min len n = n by omega)
    go_enter Try.func6, Try.ntmps6
    go_wp2
    go_ret
    exact ⟨by rw [Hmin.out]; rfl, rfl⟩
  · have Hmin := hide (show min len n = len by omega)
    clear ha
    go_enter Try.func6, Try.ntmps6
    go_wp2
    go_ret
    exact ⟨by rw [Hmin.out]; rfl, rfl⟩
theorem str_rd {w : World} {B : Nat} {A : Option Addr} {n c : Nat} {xs : List Int} (h : Rd w B A n (bys xs)) :
    (convert 22 9 (.slice A n c)).run Try.prog w = .ok (.string (strOfNums xs)) w := by
  have hl := h.1
  rw [bys_len] at hl
  rcases Nat.eq_zero_or_pos n with h0 | h0
  · subst h0
    obtain rfl : xs = [] := List.eq_nil_of_length_eq_zero hl
    rw [run_convert_bytes_string w 22 9 5 A 0 c Try.underlying22 Try.underlying5 Try.underlying9]
    rcases A with _ | x
    · simp [Conv.bytesToString, strOfNums]; rfl
    · rw [run_bytesToString w x 0 c [] (by simp [loadCells, loadCellsFrom])]
      rfl
  · obtain ⟨g, o, rfl, _, hc⟩ := h.2 h0
    exact run_convert_bytes_arg w 22 5 Try.underlying22 Try.underlying5 g o n c xs hl (fun i hi => by
      rw [hc i _ (by simp [bys, show i < xs.length by omega]; rfl)]; simp [List.getD, show i < xs.length by omega]) 9 Try.underlying9

theorem okd_of {xs : List Int} {k n : Nat} (h : k + n ≤ xs.length) : okd xs k false (n : Int) = true := by simp [okd]; omega
theorem got_of {xs : List Int} {k n : Nat} (h : k + n ≤ xs.length) : got xs k false (n : Int) = (xs.drop k).take n := by simp [got, okd_of h]
theorem went_of {xs : List Int} {k n : Nat} (h : k + n ≤ xs.length) : went xs k false (n : Int) = k + n := by simp [went, okd_of h]

theorem be_one (l : List Int) (h : 0 < l.length) : be (l.take 1) = l.getD 0 0 := by
  cases l with
  | nil => simp at h
  | cons a t => simp [be]
theorem be_four (l : List Int) (h : 4 ≤ l.length) : be (l.take 2) * 65536 + be ((l.drop 2).take 2) = be (l.take 4) := by
  match l, h with
  | a :: b :: c :: d :: t, _ => simp [be]; omega

theorem step_one (xs : List Int) (k c : Nat) (h : k + c < xs.length) : be ((xs.drop (k + c)).take 1) = (xs.drop k).getD c 0 := by
  rw [be_one _ (by simp; omega)]
  simp [List.getD]
theorem int_eq {k : IntKind} {a b : Int} (h : a = b) : Value.int k a = Value.int k b := by rw [h]

/-- Three cursors over the same bytes, each in blocks of its own from B on. -/
structure Three (B : Nat) (w : World) (g1 b1 g2 b2 g3 b3 : Nat) (xs : List Int) (k1 k2 k3 : Nat) : Prop where
  c1 : Cur w g1 b1 xs k1 false
  c2 : Cur w g2 b2 xs k2 false
  c3 : Cur w g3 b3 xs k3 false
  l1 : B ≤ g1
  l2 : B ≤ g2
  l3 : B ≤ g3
  n12 : g1 ≠ g2
  n13 : g1 ≠ g3
  n23 : g2 ≠ g3

theorem Cur.other {w w' : World} {g gb : Nat} {xs : List Int} {k : Nat} {bad : Bool} {g' gb' : Nat} {xs' : List Int} {k' : Nat} {bad' : Bool} (h : Cur w g gb xs k bad) (h' : Cur w g' gb' xs' k' bad') (hb : w.grownBy w' (some g')) (hn : g ≠ g') : Cur w' g gb xs k bad :=
  h.grown hb (by simpa using hn) (by simpa using (h'.1.ne h.2.1 (by decide)).symm)

section
variable {B : Nat} {w w' : World} {g1 b1 g2 b2 g3 b3 : Nat} {xs : List Int} {k1 k2 k3 k' : Nat}
theorem Three.turn1 (h : Three B w g1 b1 g2 b2 g3 b3 xs k1 k2 k3) (hc : Cur w' g1 b1 xs k' false) (hg : w.grownBy w' (some g1)) : Three B w' g1 b1 g2 b2 g3 b3 xs k' k2 k3 :=
  ⟨hc, h.c2.other h.c1 hg h.n12.symm, h.c3.other h.c1 hg h.n13.symm, h.l1, h.l2, h.l3, h.n12, h.n13, h.n23⟩
theorem Three.turn2 (h : Three B w g1 b1 g2 b2 g3 b3 xs k1 k2 k3) (hc : Cur w' g2 b2 xs k' false) (hg : w.grownBy w' (some g2)) : Three B w' g1 b1 g2 b2 g3 b3 xs k1 k' k3 :=
  ⟨h.c1.other h.c2 hg h.n12, hc, h.c3.other h.c2 hg h.n23.symm, h.l1, h.l2, h.l3, h.n12, h.n13, h.n23⟩
theorem Three.turn3 (h : Three B w g1 b1 g2 b2 g3 b3 xs k1 k2 k3) (hc : Cur w' g3 b3 xs k' false) (hg : w.grownBy w' (some g3)) : Three B w' g1 b1 g2 b2 g3 b3 xs k1 k2 k' :=
  ⟨h.c1.other h.c3 hg h.n13, h.c2.other h.c3 hg h.n23, hc, h.l1, h.l2, h.l3, h.n12, h.n13, h.n23⟩
theorem Three.keep (h : Three B w g1 b1 g2 b2 g3 b3 xs k1 k2 k3) (hg : w.grownBy w' none) : Three B w' g1 b1 g2 b2 g3 b3 xs k1 k2 k3 :=
  ⟨h.c1.grown hg (by simp) (by simp), h.c2.grown hg (by simp) (by simp), h.c3.grown hg (by simp) (by simp), h.l1, h.l2, h.l3, h.n12, h.n13, h.n23⟩
end

theorem u1_yes (g gb : Nat) (xs : List Int) (k : Nat) (w : World) (h : Cur w g gb xs k false) (v : Int) (hk : k + 1 ≤ xs.length) (hv : be ((xs.drop k).take 1) = v) :
    Calls Try.prog 33 #[.pointer (some ⟨g, 0, none⟩)] w fun e w' => e = .returned (.int .i64 v) ∧ Cur w' g gb xs (k + 1) false ∧ w.grownBy w' (some g) :=
  u1_any g gb xs k false w h v (k + 1) false ((congrArg be (got_of hk)).trans hv) (went_of hk) (by rw [show (1 : Int) = ((1 : Nat) : Int) from rfl, okd_of hk]; rfl)
theorem u2_yes (g gb : Nat) (xs : List Int) (k : Nat) (w : World) (h : Cur w g gb xs k false) (v : Int) (hk : k + 2 ≤ xs.length) (hv : be ((xs.drop k).take 2) = v) :
    Calls Try.prog 15 #[.pointer (some ⟨g, 0, none⟩)] w fun e w' => e = .returned (.int .i64 v) ∧ Cur w' g gb xs (k + 2) false ∧ w.grownBy w' (some g) :=
  u2_any g gb xs k false w h v (k + 2) false ((congrArg be (got_of hk)).trans hv) (went_of hk) (by rw [show (2 : Int) = ((2 : Nat) : Int) from rfl, okd_of hk]; rfl)
end Go.Proofs.Ytlgknednfgpgfaa
