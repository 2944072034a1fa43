/- Instructions read by the document's functions: numbers at a place. Nothing is claimed here. -/
import Derived.Test.YtllbbmofinminaaCursor
import Derived.Test.YtllbbmofinminaaArgs
namespace Go.Proofs.Ytllbbmofinminaa
open Go.RowKit

/-- A number of n bytes at a place, without its sign, and with it; nought where bytes lack. -/
def uv (xs : List Int) (k n : Nat) : Int := if k + n ≤ xs.length then be ((xs.drop k).take n) else 0
def signed (n : Nat) (u : Int) : Int := if (2 : Int) ^ (8 * n - 1) ≤ u then u - (2 : Int) ^ (8 * n) else u
def sv (xs : List Int) (k n : Nat) : Int := signed n (uv xs k n)
/-- Do bytes lack? -/
def lacks (xs : List Int) (k n : Nat) : Bool := decide (xs.length < k + n)

theorem be_lt (xs : List Int) (h : IsBytes xs) : 0 ≤ be xs ∧ be xs < (256 : Int) ^ xs.length := by
  suffices ∀ v : Int, 0 ≤ v → 0 ≤ xs.foldl (fun v b => v * 256 + b) v ∧ xs.foldl (fun v b => v * 256 + b) v < (v + 1) * (256 : Int) ^ xs.length by
    have := this 0 (by omega)
    unfold be
    rw [Int.zero_add, Int.one_mul] at this
    exact this
  intro v hv
  induction xs generalizing v with
  | nil => simp; omega
  | cons x r ih =>
    have hx := h x (by simp)
    have := ih (fun y hy => h y (by simp [hy])) (v * 256 + x) (by omega)
    refine ⟨this.1, Int.lt_of_lt_of_le this.2 ?_⟩
    rw [List.length_cons, Int.pow_succ, Int.mul_comm ((256 : Int) ^ r.length) 256, ← Int.mul_assoc]
    exact Int.mul_le_mul_of_nonneg_right (by omega) (by apply Int.pow_nonneg; omega)

/-- The document's code: the bytes xs; bad: something was refused. -/
def Cd (w : World) (g B : Nat) (A : Option Addr) (c : Nat) (xs : List Int) (bad : Bool) : Prop :=
  At w g 44 [.slice A xs.length c, .bool bad] ∧ Rd w B A xs.length (bys xs) ∧ B ≤ g ∧ IsBytes xs ∧ xs.length ≤ 100000 ∧ xs.length ≤ c

section
variable {w w' : World} {g B : Nat} {A : Option Addr} {c : Nat} {xs : List Int} {bad : Bool}
theorem Cd.drewN (h : Cd w g B A c xs bad) (n : Nat) : Cd (w.drewN n) g B A c xs bad := h
theorem Cd.grown (h : Cd w g B A c xs bad) {row : Option Nat} (hb : w.grownBy w' row) (hne : some g ≠ row) (hr : ∀ r, row = some r → B ≤ r) : Cd w' g B A c xs bad :=
  ⟨h.1.grown hb hne, h.2.1.keep fun b o hlt => by
    have hg := h.1.lt
    unfold World.cell?
    rw [hb.block b (by have := h.2.2.1; omega) (by intro e; have := hr b e.symm; omega)], h.2.2⟩
theorem Cd.own (h : Cd w g B A c xs bad) (hb : w.grownBy w' (some g)) : Rd w' B A xs.length (bys xs) :=
  h.2.1.keep fun b o hlt => by
    have hg := h.1.lt
    unfold World.cell?
    rw [hb.block b (by have := h.2.2.1; omega) (by intro e; cases e; have := h.2.2.1; omega)]
theorem Cd.fail (h : Cd w g B A c xs bad) : Cd (w.setCell ⟨g, 1, none⟩ (.bool true)) g B A c xs true :=
  ⟨by simpa using h.1.set 1 (.bool true), h.own (only_set _), h.2.2⟩
theorem Cd.put (h : Cd w g B A c xs bad) (b : Bool) : Cd (w.setCell ⟨g, 1, none⟩ (.bool b)) g B A c xs b :=
  ⟨by simpa using h.1.set 1 (.bool b), h.own (only_set _), h.2.2⟩
end

theorem int_eq6 {k : IntKind} {a b : Int} (h : a = b) : Value.int k a = Value.int k b := by rw [h]
theorem rd_cell {w : World} {B : Nat} {A : Option Addr} {n : Nat} {xs : List Int} (h : Rd w B A n (bys xs)) {j : Nat} (hj : j < n) :
    ∃ g o, A = some ⟨g, o, none⟩ ∧ w.cell? ⟨g, o + j, none⟩ = some (.int .u8 (xs.getD j 0)) := by
  obtain ⟨g, o, rfl, _, hh⟩ := h.2 (by omega)
  have hl := h.1
  rw [bys_len] at hl
  refine ⟨g, o, rfl, hh j _ ?_⟩
  simp [bys, List.getD, show j < xs.length by omega]

/-- Where bytes lack. -/
theorem cs_none (g B : Nat) (A : Option Addr) (c : Nat) (xs : List Int) (bad : Bool) (k n : Nat) (w : World) (h : Cd w g B A c xs bad) (hk : k ≤ 200000) (hn4 : n = 1 ∨ n = 2 ∨ n = 4) (hn : xs.length < k + n) :
    Calls Try.prog 21 #[.pointer (some ⟨g, 0, none⟩), .int .i64 k, .int .i64 n] w fun e w' => e = .returned (.int .i64 0) ∧ Cd w' g B A c xs true ∧ w.grownBy w' (some g) := by
  have h0 : w.cell? ⟨g, 0, none⟩ = some (.slice A xs.length c) := h.1.cell 0
  have c1 : w.cell? ⟨g, 1, none⟩ = some (.bool bad) := h.1.cell 1
  have f1 := h.1.free 1
  have hl := h.2.2.2.2.1
  have H := hide h
  clear h
  generalize xs.length = l at *
  go_enter Try.func21, Try.ntmps21
  go_wp2
  go_ret
  exact ⟨rfl, H.out.fail, only_set _⟩

theorem cs_some (g B : Nat) (A : Option Addr) (c : Nat) (xs : List Int) (bad : Bool) (k n : Nat) (w : World) (h : Cd w g B A c xs bad) (hn4 : n = 1 ∨ n = 2 ∨ n = 4) (hn : k + n ≤ xs.length) :
    Calls Try.prog 21 #[.pointer (some ⟨g, 0, none⟩), .int .i64 k, .int .i64 n] w fun e w' => e = .returned (.int .i64 (sv xs k n)) ∧ ∃ q, w' = w.drewN q := by
  have c0 : w.cell? ⟨g, 0, none⟩ = some (.slice A xs.length c) := h.1.cell 0
  have hl := h.2.2.2.2.1
  have hlc := h.2.2.2.2.2
  have hb := h.2.2.2.1.drop k
  have hsv : sv xs k n = signed n (be ((xs.drop k).take n)) := by unfold sv uv; rw [if_pos hn]
  rw [hsv]
  clear hsv
  have H := hide h
  obtain ⟨ys, hys⟩ : ∃ ys, ys = xs.drop k := ⟨_, rfl⟩
  rw [← hys] at hb ⊢
  have Hy : Hid (ys = xs.drop k) := hys
  have Hyl : Hid (ys.length = xs.length - k) := by rw [hys]; exact List.length_drop
  have Hb := hide hb
  clear h hys hb
  generalize hL : xs.length = l at *
  have HL := hide hL
  clear hL
  have hnn : n ≤ 4 := by omega
  have H4 := hide hn4
  clear hn4
  go_enter Try.func21, Try.ntmps21
  go_wp2
  go_loopw [7, 8] (fun x i wr => ∃ j q : Nat, j ≤ n ∧ i = .int .i64 j ∧ x = .int .i64 (be (ys.take j)) ∧ wr = w.drewN q) (fun _ i _ => n - (intOf i).toNat)
  case atStart => exact ⟨0, 0, Nat.zero_le _, rfl, rfl, rfl⟩
  case round =>
    obtain ⟨j, q, hj, rfl, rfl, rfl⟩ := hrel
    have hbd := be_bound (ys.take j) (Hb.out.take j) (by simp; omega)
    by_cases hlt : j < n
    · have hjl : j < ys.length := by rw [Hyl.out]; omega
      have hy := Hb.out (ys.getD j 0) (by rw [List.getD, List.getElem?_eq_getElem hjl]; exact List.getElem_mem _)
      have Hst := hide (take_step ys j hjl)
      obtain ⟨r, o, rfl, hcell⟩ := rd_cell H.out.2.1 (j := k + j) (by rw [HL.out]; omega)
      rw [show xs.getD (k + j) 0 = ys.getD j 0 by rw [Hy.out]; simp [List.getD]] at hcell
      generalize ys.getD j 0 = y at *
      generalize be (ys.take j) = v at *
      go_wp2
      go_roundw
      case rel => exact ⟨j + 1, _, by omega, by go_num, int_eq6 Hst.out.symm, rfl⟩
      case measure => simp [intOf]; omega
    · obtain rfl : j = n := by omega
      rcases H4.out with rfl | rfl | rfl
      · by_cases hs : (128 : Int) ≤ be (ys.take 1)
        · have e : signed 1 (be (ys.take 1)) = be (ys.take 1) - 256 := if_pos hs
          have E := hide e
          clear e
          go_wp2
          go_ret
          exact ⟨by rw [E.out]; rfl, _, rfl⟩
        · have e : signed 1 (be (ys.take 1)) = be (ys.take 1) := if_neg hs
          have E := hide e
          clear e
          go_wp2
          go_ret
          exact ⟨by rw [E.out]; rfl, _, rfl⟩
      · by_cases hs : (32768 : Int) ≤ be (ys.take 2)
        · have e : signed 2 (be (ys.take 2)) = be (ys.take 2) - 65536 := if_pos hs
          have E := hide e
          clear e
          go_wp2
          go_ret
          exact ⟨by rw [E.out]; rfl, _, rfl⟩
        · have e : signed 2 (be (ys.take 2)) = be (ys.take 2) := if_neg hs
          have E := hide e
          clear e
          go_wp2
          go_ret
          exact ⟨by rw [E.out]; rfl, _, rfl⟩
      · by_cases hs : (2147483648 : Int) ≤ be (ys.take 4)
        · have e : signed 4 (be (ys.take 4)) = be (ys.take 4) - 4294967296 := if_pos hs
          have E := hide e
          clear e
          go_wp2
          go_ret
          exact ⟨by rw [E.out]; rfl, _, rfl⟩
        · have e : signed 4 (be (ys.take 4)) = be (ys.take 4) := if_neg hs
          have E := hide e
          clear e
          go_wp2
          go_ret
          exact ⟨by rw [E.out]; rfl, _, rfl⟩

theorem cs_any (g B : Nat) (A : Option Addr) (c : Nat) (xs : List Int) (bad : Bool) (k n : Nat) (w : World) (h : Cd w g B A c xs bad) (hk : k ≤ 200000) (hn4 : n = 1 ∨ n = 2 ∨ n = 4) :
    Calls Try.prog 21 #[.pointer (some ⟨g, 0, none⟩), .int .i64 k, .int .i64 n] w fun e w' => e = .returned (.int .i64 (sv xs k n)) ∧ Cd w' g B A c xs (bad || lacks xs k n) ∧ w.grownBy w' (some g) := by
  by_cases hn : k + n ≤ xs.length
  · refine (cs_some g B A c xs bad k n w h hn4 hn).mono ?_
    rintro e w' ⟨rfl, q, rfl⟩
    have : lacks xs k n = false := by simp [lacks]; omega
    rw [this, Bool.or_false]
    exact ⟨rfl, h.drewN q, grown_drewN (grown_refl w _) q⟩
  · refine (cs_none g B A c xs bad k n w h hk hn4 (by omega)).mono ?_
    rintro e w' ⟨rfl, h1, h2⟩
    have : lacks xs k n = true := by simp [lacks]; omega
    rw [this, Bool.or_true]
    refine ⟨?_, h1, h2⟩
    have : uv xs k n = 0 := if_neg hn
    unfold sv signed
    rw [this]
    rcases hn4 with rfl | rfl | rfl <;> rfl

theorem uv_bound (xs : List Int) (hb : IsBytes xs) (k n : Nat) : 0 ≤ uv xs k n ∧ uv xs k n < (256 : Int) ^ n := by
  unfold uv
  split
  · have h := be_lt ((xs.drop k).take n) ((hb.drop k).take n)
    have hl : ((xs.drop k).take n).length = n := by simp; omega
    rwa [hl] at h
  · exact ⟨Int.le_refl _, by apply Int.pow_pos; omega⟩

theorem uv_sv (xs : List Int) (hb : IsBytes xs) (k n : Nat) (hn4 : n = 1 ∨ n = 2 ∨ n = 4) : uv xs k n = if sv xs k n < 0 then sv xs k n + (2 : Int) ^ (8 * n) else sv xs k n := by
  have h := uv_bound xs hb k n
  unfold sv signed
  rcases hn4 with rfl | rfl | rfl <;> simp only [Nat.reduceMul, Nat.reduceSub, Int.reducePow] at h ⊢ <;> split <;> split <;> omega

theorem cu_any (g B : Nat) (A : Option Addr) (c : Nat) (xs : List Int) (bad : Bool) (k n : Nat) (w : World) (h : Cd w g B A c xs bad) (hk : k ≤ 200000) (hn4 : n = 1 ∨ n = 2 ∨ n = 4) :
    Calls Try.prog 22 #[.pointer (some ⟨g, 0, none⟩), .int .i64 k, .int .i64 n] w fun e w' => e = .returned (.int .i64 (uv xs k n)) ∧ Cd w' g B A c xs (bad || lacks xs k n) ∧ w.grownBy w' (some g) := by
  rw [uv_sv xs h.2.2.2.1 k n hn4]
  have HS := hide (cs_any g B A c xs bad k n w h hk hn4)
  have hbd : -4294967296 ≤ sv xs k n ∧ sv xs k n ≤ 4294967296 := by
    have h := uv_bound xs h.2.2.2.1 k n
    unfold sv signed
    rcases hn4 with rfl | rfl | rfl <;> simp only [Nat.reduceMul, Nat.reduceSub, Int.reducePow] at h ⊢ <;> split <;> omega
  generalize sv xs k n = v at *
  generalize lacks xs k n = b at *
  clear h
  by_cases hv : v < 0
  · rw [if_pos hv]
    rcases hn4 with rfl | rfl | rfl
    all_goals
      go_enter Try.func22, Try.ntmps22
      go_wp2_with fail
      refine HS.out.mono ?_
      rintro e w2 ⟨rfl, h1, h2⟩
      have H1 := hide h1
      have H2 := hide h2
      clear h1 h2 HS
      go_wp2_with fail
      go_ret
      exact ⟨rfl, H1.out, H2.out⟩
  · rw [if_neg hv]
    go_enter Try.func22, Try.ntmps22
    go_wp2_with fail
    refine HS.out.mono ?_
    rintro e w2 ⟨rfl, h1, h2⟩
    have H1 := hide h1
    have H2 := hide h2
    clear h1 h2 HS
    go_wp2_with fail
    go_ret
    exact ⟨rfl, H1.out, H2.out⟩
end Go.Proofs.Ytllbbmofinminaa
