/- Numbers at the beginning of bytes, as package instr reads them. Nothing is claimed here. -/
import Derived.Test.YtllbbmofinminaaInstrShape
import Derived.BigQuiet
import Derived.Deep.QuietTactic
namespace Go.Proofs.Ytllbbmofinminaa
open Go.RowKit

/-- A byte at a place, two, four; n bits with their sign. -/
def b1 (xs : List Int) (k : Nat) : Int := xs.getD k 0
def b2 (xs : List Int) (k : Nat) : Int := b1 xs k * 256 + b1 xs (k + 1)
def b4 (xs : List Int) (k : Nat) : Int := b2 xs k * 65536 + b2 xs (k + 2)
def sg (n : Nat) (u : Int) : Int := if (2 : Int) ^ (n - 1) ≤ u then u - (2 : Int) ^ n else u

theorem b1_bd {xs : List Int} (h : IsBytes xs) (k : Nat) : 0 ≤ b1 xs k ∧ b1 xs k < 256 := by
  unfold b1
  rcases Nat.lt_or_ge k xs.length with hk | hk
  · rw [List.getD, List.getElem?_eq_getElem hk]; exact h _ (List.getElem_mem _)
  · rw [List.getD, List.getElem?_eq_none hk]; exact ⟨Int.le_refl _, by decide⟩
theorem b2_bd {xs : List Int} (h : IsBytes xs) (k : Nat) : 0 ≤ b2 xs k ∧ b2 xs k < 65536 := by
  have := b1_bd h k; have := b1_bd h (k + 1); unfold b2; omega
theorem b4_bd {xs : List Int} (h : IsBytes xs) (k : Nat) : 0 ≤ b4 xs k ∧ b4 xs k < 4294967296 := by
  have := b2_bd h k; have := b2_bd h (k + 2); unfold b4; omega
theorem b1_drop (xs : List Int) (m k : Nat) : b1 (xs.drop m) k = b1 xs (m + k) := by unfold b1; simp [List.getD]
theorem b2_drop (xs : List Int) (m k : Nat) : b2 (xs.drop m) k = b2 xs (m + k) := by unfold b2; rw [b1_drop, b1_drop, Nat.add_assoc]
theorem b4_drop (xs : List Int) (m k : Nat) : b4 (xs.drop m) k = b4 xs (m + k) := by unfold b4; rw [b2_drop, b2_drop, Nat.add_assoc]
theorem b1_take (xs : List Int) (m k : Nat) (h : k < m) : b1 (xs.take m) k = b1 xs k := by unfold b1; simp [List.getD, h]
theorem b2_take (xs : List Int) (m k : Nat) (h : k + 1 < m) : b2 (xs.take m) k = b2 xs k := by unfold b2; rw [b1_take _ _ _ (by omega), b1_take _ _ _ (by omega)]
theorem b4_take (xs : List Int) (m k : Nat) (h : k + 3 < m) : b4 (xs.take m) k = b4 xs k := by unfold b4; rw [b2_take _ _ _ (by omega), b2_take _ _ _ (by omega)]

theorem or_byte (x y : Int) (h0 : 0 ≤ x) (h1 : x < 1099511627776) (h2 : 0 ≤ y) (h3 : y < 256) : bits .or .i64 (x * 256) y = x * 256 + y :=
  bits_join .i64 63 (by decide) (fun n _ _ => IntWalk.i64_in _ (by omega)) 8 _ _ (by omega) (by omega) (by omega) h2 (by omega) (by omega)


theorem rd_b1 {w : World} {B : Nat} {A : Option Addr} {n : Nat} {ys : List Int} (h : Rd w B A n (bys ys)) {j : Nat} (hj : j < n) :
    ∃ g o, A = some ⟨g, o, none⟩ ∧ w.cell? ⟨g, o + j, none⟩ = some (.int .u8 (b1 ys j)) := rd_cell h hj
theorem sg8 {x : Int} (h : 0 ≤ x ∧ x < 256) : IntKind.i8.wrap x = sg 8 x := by
  simp only [IntKind.wrap, IntKind.bits, IntKind.signed, sg]; simp; split <;> split <;> omega
theorem sg16 {x : Int} (h : 0 ≤ x ∧ x < 65536) : IntKind.i16.wrap x = sg 16 x := by
  simp only [IntKind.wrap, IntKind.bits, IntKind.signed, sg]; simp; split <;> split <;> omega
theorem sg32 {x : Int} (h : 0 ≤ x ∧ x < 4294967296) : IntKind.i32.wrap x = sg 32 x := by
  simp only [IntKind.wrap, IntKind.bits, IntKind.signed, sg]; simp; split <;> split <;> omega
theorem sg8_bd {x : Int} (h : 0 ≤ x ∧ x < 256) : -128 ≤ sg 8 x ∧ sg 8 x < 128 := by simp only [sg]; simp; split <;> omega
theorem sg16_bd {x : Int} (h : 0 ≤ x ∧ x < 65536) : -32768 ≤ sg 16 x ∧ sg 16 x < 32768 := by simp only [sg]; simp; split <;> omega
theorem sg32_bd {x : Int} (h : 0 ≤ x ∧ x < 4294967296) : -2147483648 ≤ sg 32 x ∧ sg 32 x < 2147483648 := by simp only [sg]; simp; split <;> omega

theorem iu1_any (B : Nat) (A : Option Addr) (n c : Nat) (ys : List Int) (w : World) (h : Rd w B A n (bys ys)) (h1 : 1 ≤ n) (hb : IsBytes ys) :
    Calls Try.prog 34 #[.slice A n c] w fun e w' => e = .returned (.int .i64 (b1 ys 0)) ∧ w = w' := by
  obtain ⟨g, o, rfl, c0⟩ := rd_b1 h (show 0 < n by omega)
  rw [Nat.add_zero] at c0
  have hx := b1_bd hb 0
  generalize b1 ys 0 = x at *
  have hn : (0 : Int) < n := by omega
  clear h
  go_enter Try.func34, Try.ntmps34
  go_wp2
  go_ret
  exact ⟨rfl, rfl⟩

theorem is1_any (B : Nat) (A : Option Addr) (n c : Nat) (ys : List Int) (w : World) (h : Rd w B A n (bys ys)) (h1 : 1 ≤ n) (hb : IsBytes ys) :
    Calls Try.prog 33 #[.slice A n c] w fun e w' => e = .returned (.int .i64 (sg 8 (b1 ys 0))) ∧ w = w' := by
  obtain ⟨g, o, rfl, c0⟩ := rd_b1 h (show 0 < n by omega)
  rw [Nat.add_zero] at c0
  have hx := b1_bd hb 0
  generalize b1 ys 0 = x at *
  have hn : (0 : Int) < n := by omega
  have hw := sg8 hx
  have hbd := sg8_bd hx
  generalize sg 8 x = z at *
  clear h hb
  go_enter Try.func33, Try.ntmps33
  go_wp2
  go_ret
  exact ⟨rfl, rfl⟩

theorem iu2_any (B : Nat) (A : Option Addr) (n c : Nat) (ys : List Int) (w : World) (h : Rd w B A n (bys ys)) (h1 : 2 ≤ n) (hb : IsBytes ys) :
    Calls Try.prog 28 #[.slice A n c] w fun e w' => e = .returned (.int .i64 (b2 ys 0)) ∧ ∃ q, w' = w.drewN q := by
  obtain ⟨g, o, rfl, c0⟩ := rd_b1 h (show 0 < n by omega)
  obtain ⟨g', o', he, c1⟩ := rd_b1 h (show 1 < n by omega)
  cases he
  rw [Nat.add_zero] at c0
  have hx := b1_bd hb 0
  have hy := b1_bd hb 1
  have e : b2 ys 0 = b1 ys 0 * 256 + b1 ys 1 := rfl
  rw [e]
  have Hor := hide (or_byte (b1 ys 0) (b1 ys 1) hx.1 (by omega) hy.1 hy.2)
  generalize b1 ys 0 = x at *
  generalize b1 ys 1 = y at *
  have hn : (0 : Int) < n := by omega
  have hn1 : (1 : Int) < n := by omega
  clear h hb e
  go_enter Try.func28, Try.ntmps28
  go_wp2
  go_quiet (fail)
  go_wp2
  go_ret
  exact ⟨by rw [← Hor.out]; rfl, _, rfl⟩

theorem is2_any (B : Nat) (A : Option Addr) (n c : Nat) (ys : List Int) (w : World) (h : Rd w B A n (bys ys)) (h1 : 2 ≤ n) (hb : IsBytes ys) :
    Calls Try.prog 29 #[.slice A n c] w fun e w' => e = .returned (.int .i64 (sg 16 (b2 ys 0))) ∧ ∃ q, w' = w.drewN q := by
  have C := hide (iu2_any B A n c ys w h h1 hb)
  have hx := b2_bd hb 0
  generalize b2 ys 0 = x at *
  have hw := sg16 hx
  have hbd := sg16_bd hx
  generalize sg 16 x = z at *
  clear h hb
  go_enter Try.func29, Try.ntmps29
  go_wp2_with fail
  refine C.out.mono ?_
  rintro e w1 ⟨rfl, q, rfl⟩
  go_wp2_with fail
  go_ret
  exact ⟨rfl, q, rfl⟩

theorem sgn4 {x : Int} (h : 0 ≤ x ∧ x < 4294967296) : wrap64 (wrap32 x) = sg 32 x := by
  unfold wrap64 wrap32; simp only [sg]; simp; split <;> omega
theorem or16_64 (x y : Int) (h0 : 0 ≤ x) (h1 : x < 65536) (h2 : 0 ≤ y) (h3 : y < 65536) : bits .or .i64 (x * 65536) y = x * 65536 + y :=
  bits_join .i64 63 (by decide) (fun n _ _ => IntWalk.i64_in _ (by omega)) 16 _ _ (by omega) (by omega) (by omega) h2 (by omega) (by omega)
theorem is4_any (B : Nat) (A : Option Addr) (n c : Nat) (ys : List Int) (w : World) (h : Rd w B A n (bys ys)) (h1 : 4 ≤ n) (hc : n ≤ c) (hb : IsBytes ys) :
    Calls Try.prog 31 #[.slice A n c] w fun e w' => e = .returned (.int .i64 (sg 32 (b4 ys 0))) ∧ ∃ q, w' = w.drewN q := by
  obtain ⟨g, o, rfl, hh⟩ : ∃ g o, A = some ⟨g, o, none⟩ ∧ ∀ W, Rd W B (some ⟨g, o, none⟩) n (bys ys) → Rd W B (some ⟨g, o + 2, none⟩) (n - 2) (bys (ys.drop 2)) := by
    obtain ⟨g, o, rfl, _, _⟩ := h.2 (by omega)
    refine ⟨g, o, rfl, fun W hW => ?_⟩
    obtain ⟨g', o', he, hlt, hc⟩ := hW.2 (by omega)
    cases he
    have hl := hW.1
    rw [bys_len] at hl
    refine ⟨by rw [bys_len, List.length_drop, hl], fun hn => ⟨g, o + 2, rfl, hlt, fun j u hu => ?_⟩⟩
    have := hc (2 + j) u (by rw [bys] at hu ⊢; rw [List.map_drop] at hu; simpa using hu)
    rw [← Nat.add_assoc] at this
    exact this
  have C1 : Hid (∀ q, Calls Try.prog 28 #[.slice (some ⟨g, o, none⟩) n c] (w.drewN q) fun e w' => e = .returned (.int .i64 (b2 ys 0)) ∧ ∃ q, w' = w.drewN q) := hide fun q => (iu2_any B _ n c ys (w.drewN q) h (by omega) hb).mono fun e w' hh => by
    obtain ⟨a, b, rfl⟩ := hh
    exact ⟨a, q + b, by rw [World.drewN_drewN]⟩
  have C2 : Hid (∀ q, Calls Try.prog 28 #[.slice (some ⟨g, o + 2, none⟩) (n - 2 : Nat) (c - 2 : Nat)] (w.drewN q) fun e w' => e = .returned (.int .i64 (b2 ys 2)) ∧ ∃ q, w' = w.drewN q) := hide fun q => (iu2_any B _ (n - 2) (c - 2) (ys.drop 2) (w.drewN q) (hh _ h) (by omega) (hb.drop 2)).mono fun e w' hh => by
    obtain ⟨a, b, rfl⟩ := hh
    exact ⟨by rw [a, b2_drop], q + b, by rw [World.drewN_drewN]⟩
  have hx := b2_bd hb 0
  have hy := b2_bd hb 2
  have e : b4 ys 0 = b2 ys 0 * 65536 + b2 ys 2 := rfl
  have Hor := hide (or16_64 (b2 ys 0) (b2 ys 2) hx.1 hx.2 hy.1 hy.2)
  have Hw := hide (sgn4 (b4_bd hb 0))
  rw [e] at Hw ⊢
  generalize b2 ys 0 = x at *
  generalize b2 ys 2 = y at *
  have hn2 : (2 : Int) ≤ n := by omega
  have hc2 : c ≠ 2 := by omega
  clear h hb hh e
  go_enter Try.func31, Try.ntmps31
  go_wp2
  go_quiet ((first | (go_at_call 28; with_reducible exact C1.out _) | (go_at_call 28; with_reducible exact C2.out _)))
  go_wp2
  go_ret
  exact ⟨by rw [← Hw.out, ← Hor.out]; rfl, _, rfl⟩
end Go.Proofs.Ytllbbmofinminaa
