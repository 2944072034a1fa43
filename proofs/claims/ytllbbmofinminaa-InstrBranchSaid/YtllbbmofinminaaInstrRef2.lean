/- The document's opcodes: which are kept, which have a local in their name, which fall through. Nothing is claimed here. -/
import Derived.Test.YtllbbmofinminaaInstrRef
namespace Go.Proofs.Ytllbbmofinminaa
open Go.RowKit

def btw (n a b : Int) : Bool := decide (a ≤ n) && decide (n ≤ b)
theorem btw_true {n a b : Int} (h : btw n a b = true) : a ≤ n ∧ n ≤ b := by simpa [btw] using h
theorem btw_false {n a b : Int} (h : btw n a b = false) : ¬ (a ≤ n ∧ n ≤ b) := by
  intro h2
  simp [btw] at h
  have := h h2.1
  omega

theorem rbetween_any (n a b : Int) (w : World) :
    Calls Try.prog 20 #[.int .i64 n, .int .i64 a, .int .i64 b] w fun e w' => e = .returned (.bool (btw n a b)) ∧ w = w' := by
  obtain ⟨v, hv⟩ : ∃ v, btw n a b = v := ⟨_, rfl⟩
  rw [hv]
  unfold btw at hv
  by_cases h1 : a ≤ n
  · by_cases h2 : n ≤ b
    · obtain rfl : true = v := by simpa [h1, h2] using hv
      clear hv
      go_enter Try.func20, Try.ntmps20
      go_wp2
      go_ret
      exact ⟨rfl, rfl⟩
    · obtain rfl : false = v := by simpa [h1, h2] using hv
      clear hv
      go_enter Try.func20, Try.ntmps20
      go_wp2
      go_ret
      exact ⟨rfl, rfl⟩
  · obtain rfl : false = v := by simpa [h1] using hv
    clear hv
    go_enter Try.func20, Try.ntmps20
    go_wp2
    go_ret
    exact ⟨rfl, rfl⟩

/-- The local in the name; -1: none. -/
def shortOf (op : Int) : Int :=
  if btw op 26 33 || btw op 42 45 then (op - 26) % 4 else if btw op 59 66 || btw op 75 78 then (op - 59) % 4 else -1
theorem rshort_any (op : Int) (w : World) :
    Calls Try.prog 23 #[.int .i64 op] w fun e w' => e = .returned (.int .i64 (shortOf op)) ∧ w = w' := by
  have C1 := hide (rbetween_any op 26 33)
  have C2 := hide (rbetween_any op 42 45)
  have C3 := hide (rbetween_any op 59 66)
  have C4 := hide (rbetween_any op 75 78)
  have t1 := @btw_true op 26 33
  have t2 := @btw_true op 42 45
  have t3 := @btw_true op 59 66
  have t4 := @btw_true op 75 78
  unfold shortOf
  generalize btw op 26 33 = b1 at *
  generalize btw op 42 45 = b2 at *
  generalize btw op 59 66 = b3 at *
  generalize btw op 75 78 = b4 at *
  have ha : b1 = true ∨ (b1 = false ∧ b2 = true) → 26 ≤ op ∧ op ≤ 45 := by rintro (h | ⟨_, h⟩); (have := t1 h; omega); (have := t2 h; omega)
  have hb : b3 = true ∨ (b3 = false ∧ b4 = true) → 59 ≤ op ∧ op ≤ 78 := by rintro (h | ⟨_, h⟩); (have := t3 h; omega); (have := t4 h; omega)
  clear t1 t2 t3 t4
  cases b1
  · cases b2
    · cases b3
      · cases b4
        · clear ha hb
          go_enter Try.func23, Try.ntmps23
          go_wp2_with fail
          refine (C1.out w).mono ?_
          rintro e w2 ⟨rfl, rfl⟩
          go_wp2_with fail
          refine (C2.out w).mono ?_
          rintro e w2 ⟨rfl, rfl⟩
          go_wp2_with fail
          refine (C3.out w).mono ?_
          rintro e w2 ⟨rfl, rfl⟩
          go_wp2_with fail
          refine (C4.out w).mono ?_
          rintro e w2 ⟨rfl, rfl⟩
          go_wp2_with fail
          go_ret
          exact ⟨rfl, rfl⟩
        · have hr := hb (.inr ⟨rfl, rfl⟩)
          clear ha hb
          go_enter Try.func23, Try.ntmps23
          go_wp2_with fail
          refine (C1.out w).mono ?_
          rintro e w2 ⟨rfl, rfl⟩
          go_wp2_with fail
          refine (C2.out w).mono ?_
          rintro e w2 ⟨rfl, rfl⟩
          go_wp2_with fail
          refine (C3.out w).mono ?_
          rintro e w2 ⟨rfl, rfl⟩
          go_wp2_with fail
          refine (C4.out w).mono ?_
          rintro e w2 ⟨rfl, rfl⟩
          go_wp2_with fail
          go_ret
          exact ⟨rfl, rfl⟩
      · have hr := hb (.inl rfl)
        clear ha hb
        go_enter Try.func23, Try.ntmps23
        go_wp2_with fail
        refine (C1.out w).mono ?_
        rintro e w2 ⟨rfl, rfl⟩
        go_wp2_with fail
        refine (C2.out w).mono ?_
        rintro e w2 ⟨rfl, rfl⟩
        go_wp2_with fail
        refine (C3.out w).mono ?_
        rintro e w2 ⟨rfl, rfl⟩
        go_wp2_with fail
        go_ret
        exact ⟨rfl, rfl⟩
    · have hr := ha (.inr ⟨rfl, rfl⟩)
      clear ha hb
      go_enter Try.func23, Try.ntmps23
      go_wp2_with fail
      refine (C1.out w).mono ?_
      rintro e w2 ⟨rfl, rfl⟩
      go_wp2_with fail
      refine (C2.out w).mono ?_
      rintro e w2 ⟨rfl, rfl⟩
      go_wp2_with fail
      go_ret
      exact ⟨rfl, rfl⟩
  · have hr := ha (.inl rfl)
    clear ha hb
    go_enter Try.func23, Try.ntmps23
    go_wp2_with fail
    refine (C1.out w).mono ?_
    rintro e w2 ⟨rfl, rfl⟩
    go_wp2_with fail
    go_ret
    exact ⟨rfl, rfl⟩

def spans : List (Int × Int) := [(0, 10), (16, 22), (25, 33), (42, 47), (50, 55), (58, 66), (75, 80), (83, 97), (100, 101), (104, 105), (108, 109), (112, 113), (116, 117), (120, 133), (136, 136), (145, 148), (153, 167), (170, 173), (176, 185), (187, 200)]
def keptL (op : Int) : List (Int × Int) → Bool
  | [] => false
  | p :: r => if btw op p.1 p.2 then op != 186 else keptL op r
def kept (op : Int) : Bool := keptL op spans
def spanV : List Value := spans.flatMap fun p => [.int .i64 p.1, .int .i64 p.2]

theorem pair_cells (l : List (Int × Int)) : ∀ (j : Nat) (p : Int × Int), l[j]? = some p → (l.flatMap fun p => [Value.int .i64 p.1, Value.int .i64 p.2])[2 * j]? = some (.int .i64 p.1) ∧ (l.flatMap fun p => [Value.int .i64 p.1, Value.int .i64 p.2])[2 * j + 1]? = some (.int .i64 p.2) := by
  induction l with
  | nil => intro j p h; simp at h
  | cons q r ih =>
    intro j p h
    cases j with
    | zero =>
      obtain rfl : q = p := by simpa using h
      exact ⟨rfl, rfl⟩
    | succ j =>
      have := ih j p (by simpa using h)
      rw [List.flatMap_cons, show 2 * (j + 1) = 2 * j + 1 + 1 by omega]
      exact this

theorem quiet_again {P : Program} {f : FuncId} {args : Array Value} {w : World} {a n : Nat} {v : Value} (h : ∀ W, Calls P f args W fun e w' => e = .returned v ∧ W = w') :
    Calls P f args (w.drewN (a + n)) fun e w'' => e = .returned v ∧ ∃ m, w'' = w.drewN (a + m) := (h _).mono fun _ _ hh => ⟨hh.1, n, hh.2.symm⟩

theorem rkept_any (op : Int) (w : World) :
    Calls Try.prog 11 #[.int .i64 op] w fun e w' => e = .returned (.bool (kept op)) ∧ Below w.heap.size w w' := by
  have C := hide (rbetween_any op)
  go_enter Try.func11, Try.ntmps11
  go_wp2_with fail
  have ha := At.new w 3 spanV
  have HB : Hid (Below w.heap.size w (w.alloc (.cells spanV.toArray 3))) := hide ((Below.refl _ _).alloc (Nat.le_refl _) _)
  change Code.wp _ _ _ _ (w.alloc (.cells spanV.toArray 3))
  generalize w.alloc (.cells spanV.toArray 3) = w1 at *
  have HA := hide ha
  clear ha
  have HK : Hid (kept op = keptL op (spans.drop 0)) := rfl
  go_loopw [4] (fun iv wr => ∃ j i q : Nat, j ≤ 20 ∧ i = 2 * j ∧ iv = .int .i64 i ∧ wr = w1.drewN q ∧ kept op = keptL op (spans.drop j)) (fun iv _ => (40 - intOf iv).toNat)
  case atStart => exact ⟨0, 0, 0, by omega, rfl, rfl, rfl, HK.out⟩
  case round =>
    obtain ⟨j, i, q, hj, hi, rfl, rfl, hv⟩ := hrel
    have HV := hide hv
    clear hv
    by_cases hlt : j < 20
    · have hl : spans.length = 20 := rfl
      have hp : spans[j]? = some (spans[j]'(by omega)) := List.getElem?_eq_getElem _
      have hd : spans.drop j = spans[j]'(by omega) :: spans.drop (j + 1) := List.drop_eq_getElem_cons _
      generalize spans[j]'(by omega) = p at *
      obtain ⟨e1, e2⟩ := pair_cells spans j p hp
      rw [← hi] at e1 e2
      have hc1 : w1.cell? ⟨w.heap.size, i, none⟩ = some (.int .i64 p.1) := (HA.out.cell _).trans e1
      have hc2 : w1.cell? ⟨w.heap.size, i + 1, none⟩ = some (.int .i64 p.2) := (HA.out.cell _).trans e2
      rw [hd] at HV
      have HV2 : Hid (kept op = if btw op p.1 p.2 then op != 186 else keptL op (spans.drop (j + 1))) := HV
      obtain ⟨a, b⟩ := p
      have C2 := hide (C.out a b)
      have hi2 : i + 1 < 40 := by omega
      have hwr : IntKind.i64.wrap ((i : Int) + 1) = (i : Int) + 1 := IntWalk.i64_in _ (by omega)
      have hsg : (0 : Int) ≤ (i : Int) + 1 := by omega
      have hl4 : ((i : Int) + 1) < 40 := by omega
      have hl3 : ((i : Int)) < 40 := by omega
      have hnt : ((i : Int) + 1).toNat = i + 1 := by omega
      have Hi := hide hi
      have Hj := hide hlt
      clear e1 e2 hp hd HV hl hi hlt hj
      generalize hbt : btw op a b = t at *
      cases t
      · go_wp2
        go_quiet ((go_at_call 20; exact quiet_again C2.out))
        go_wp2
        go_roundw
        case rel => exact ⟨j + 1, i + 2, _, Nat.succ_le_of_lt Hj.out, by rw [Hi.out]; omega, by go_num, rfl, HV2.out⟩
        case measure => simp [intOf]; omega
      · go_wp2
        go_quiet ((go_at_call 20; exact quiet_again C2.out))
        go_wp2
        go_ret
        exact ⟨by rw [HV2.out]; rfl, below_drewN HB.out _⟩
    · obtain rfl : j = 20 := by omega
      obtain rfl : i = 40 := hi
      go_wp2
      go_ret
      exact ⟨by rw [HV.out]; rfl, below_drewN HB.out _⟩
end Go.Proofs.Ytllbbmofinminaa
