/- Texts of one stage, merged. Nothing is claimed here. -/
import Derived.Test.YtbdbcalmjbmflaaGreatDoorPackA
import Derived.BigQuiet
import Derived.Deep.QuietTactic
import Derived.RegionTactic
import Derived.StillTailTactics
import Derived.Laws.MakeOwn
namespace Go.Proofs.YtbdbcalmjbmflaaGreatDoor
open Go.RowKit

/-- A number of n bytes at a place, without its sign, and with it; nought where bytes lack. -/
def uv (xs : List Int) (k n : Nat) : Int := if k + n ≤ xs.length then be ((xs.drop k).take n) else 0
def signed (n : Nat) (u : Int) : Int := if (2 : Int) ^ (8 * n - 1) ≤ u then u - (2 : Int) ^ (8 * n) else u
def sv (xs : List Int) (k n : Nat) : Int := signed n (uv xs k n)
/-- Do bytes lack? -/
def lacks (xs : List Int) (k n : Nat) : Bool := decide (xs.length < k + n)

theorem be_lt (xs : List Int) (h : IsBytes xs) : 0 ≤ be xs ∧ be xs < (256 : Int) ^ xs.length := by
  suffices ∀ v : Int, 0 ≤ v → 0 ≤ xs.foldl (fun v b => v * 256 + b) v ∧ xs.foldl (fun v b => v * 256 + b) v < (v + 1) * (256 : Int) ^ xs.length by
    have := this 0 (by omega)
    unfold be
    rw [Int.zero_add, Int.one_mul] at this
    exact this
  intro v hv
  induction xs generalizing v with
  | nil => simp; omega
  | cons x r ih =>
    have hx := h x (by simp)
    have := ih (fun y hy => h y (by simp [hy])) (v * 256 + x) (by omega)
    refine ⟨this.1, Int.lt_of_lt_of_le this.2 ?_⟩
    rw [List.length_cons, Int.pow_succ, Int.mul_comm ((256 : Int) ^ r.length) 256, ← Int.mul_assoc]
    exact Int.mul_le_mul_of_nonneg_right (by omega) (by apply Int.pow_nonneg; omega)

section
variable {w w' : World} {g B : Nat} {A : Option Addr} {c : Nat} {xs : List Int} {bad : Bool}
end

theorem int_eq6 {k : IntKind} {a b : Int} (h : a = b) : Value.int k a = Value.int k b := by rw [h]
theorem rd_cell6 {w : World} {B : Nat} {A : Option Addr} {n : Nat} {xs : List Int} (h : Rd w B A n (bys xs)) {j : Nat} (hj : j < n) :
    ∃ g o, A = some ⟨g, o, none⟩ ∧ w.cell? ⟨g, o + j, none⟩ = some (.int .u8 (xs.getD j 0)) := by
  obtain ⟨g, o, rfl, _, hh⟩ := h.2 (by omega)
  have hl := h.1
  rw [bys_len] at hl
  refine ⟨g, o, rfl, hh j _ ?_⟩
  simp [bys, List.getD, show j < xs.length by omega]

theorem uv_bound (xs : List Int) (hb : IsBytes xs) (k n : Nat) : 0 ≤ uv xs k n ∧ uv xs k n < (256 : Int) ^ n := by
  unfold uv
  split
  · have h := be_lt ((xs.drop k).take n) ((hb.drop k).take n)
    have hl : ((xs.drop k).take n).length = n := by simp; omega
    rwa [hl] at h
  · exact ⟨Int.le_refl _, by apply Int.pow_pos; omega⟩

theorem uv_sv (xs : List Int) (hb : IsBytes xs) (k n : Nat) (hn4 : n = 1 ∨ n = 2 ∨ n = 4) : uv xs k n = if sv xs k n < 0 then sv xs k n + (2 : Int) ^ (8 * n) else sv xs k n := by
  have h := uv_bound xs hb k n
  unfold sv signed
  rcases hn4 with rfl | rfl | rfl <;> simp only [Nat.reduceMul, Nat.reduceSub, Int.reducePow] at h ⊢ <;> split <;> split <;> omega

end Go.Proofs.YtbdbcalmjbmflaaGreatDoor
namespace Go.Proofs.YtbdbcalmjbmflaaGreatDoor
open Go.RowKit

/-- The opcodes of each shape. -/
def bareOps : List Int := [0, 1, 46, 47, 50, 51, 52, 53, 79, 80, 83, 84, 85, 86, 87, 88, 89, 90, 91, 92, 93, 94, 95, 96, 97, 100, 101, 104, 105, 108, 109, 112, 113, 116, 117, 120, 121, 122, 123, 124, 125, 126, 127, 128, 129, 130, 131, 133, 136, 145, 146, 147, 148, 172, 173, 176, 177, 190, 191, 194, 195]
def namedOps : List Int := [2, 3, 4, 5, 6, 7, 8, 9, 10, 26, 27, 28, 29, 30, 31, 32, 33, 42, 43, 44, 45, 59, 60, 61, 62, 63, 64, 65, 66, 75, 76, 77, 78]
def smallOps : List Int := [18, 21, 22, 25, 54, 55, 58, 188]
def entryOps : List Int := [19, 20, 178, 179, 180, 181, 182, 183, 184, 187, 189, 192, 193]
def branchOps : List Int := [153, 154, 155, 156, 157, 158, 159, 160, 161, 162, 163, 164, 165, 166, 167, 198, 199]
def shapeT (op : Int) : Int :=
  if bareOps.contains op then 1 else if namedOps.contains op then 2 else if op == 16 then 3 else if op == 17 then 4
  else if smallOps.contains op then 5 else if entryOps.contains op then 6 else if op == 132 then 7 else if branchOps.contains op then 8
  else if op == 200 then 9 else if op == 197 then 10 else if op == 185 then 11 else if op == 170 then 12 else if op == 171 then 13 else if op == 196 then 14 else 0

theorem beq_int {a b : Int} (h : (a == b) = true) : a = b := by simpa using h

set_option maxHeartbeats 4000000 in
set_option maxRecDepth 100000 in
theorem shape_any (op : Int) (w : World) :
    Calls Tryz.prog 140 #[.int .i64 op] w fun e w' => e = .returned (.int .i64 (shapeT op)) ∧ w = w' := by
  go_enter Tryz.func140, Tryz.ntmps140
  go_wp2
  all_goals go_ret
  all_goals first
    | (have h := beq_int (by assumption); subst h; exact ⟨rfl, rfl⟩)
    | (refine ⟨?_, rfl⟩; simp only [shapeT, bareOps, namedOps, smallOps, entryOps, branchOps, List.contains_cons, List.contains_nil, Bool.or_false, *]; rfl)
end Go.Proofs.YtbdbcalmjbmflaaGreatDoor
namespace Go.Proofs.YtbdbcalmjbmflaaGreatDoor
open Go.RowKit

/-- A byte at a place, two, four; n bits with their sign. -/
def b1 (xs : List Int) (k : Nat) : Int := xs.getD k 0
def b2 (xs : List Int) (k : Nat) : Int := b1 xs k * 256 + b1 xs (k + 1)
def b4 (xs : List Int) (k : Nat) : Int := b2 xs k * 65536 + b2 xs (k + 2)
def sg (n : Nat) (u : Int) : Int := if (2 : Int) ^ (n - 1) ≤ u then u - (2 : Int) ^ n else u

theorem b1_bd {xs : List Int} (h : IsBytes xs) (k : Nat) : 0 ≤ b1 xs k ∧ b1 xs k < 256 := by
  unfold b1
  rcases Nat.lt_or_ge k xs.length with hk | hk
  · rw [List.getD, List.getElem?_eq_getElem hk]; exact h _ (List.getElem_mem _)
  · rw [List.getD, List.getElem?_eq_none hk]; exact ⟨Int.le_refl _, by decide⟩
theorem b2_bd {xs : List Int} (h : IsBytes xs) (k : Nat) : 0 ≤ b2 xs k ∧ b2 xs k < 65536 := by
  have := b1_bd h k; have := b1_bd h (k + 1); unfold b2; omega
theorem b4_bd {xs : List Int} (h : IsBytes xs) (k : Nat) : 0 ≤ b4 xs k ∧ b4 xs k < 4294967296 := by
  have := b2_bd h k; have := b2_bd h (k + 2); unfold b4; omega
theorem b1_drop (xs : List Int) (m k : Nat) : b1 (xs.drop m) k = b1 xs (m + k) := by unfold b1; simp [List.getD]
theorem b2_drop (xs : List Int) (m k : Nat) : b2 (xs.drop m) k = b2 xs (m + k) := by unfold b2; rw [b1_drop, b1_drop, Nat.add_assoc]
theorem b4_drop (xs : List Int) (m k : Nat) : b4 (xs.drop m) k = b4 xs (m + k) := by unfold b4; rw [b2_drop, b2_drop, Nat.add_assoc]
theorem b1_take (xs : List Int) (m k : Nat) (h : k < m) : b1 (xs.take m) k = b1 xs k := by unfold b1; simp [List.getD, h]
theorem b2_take (xs : List Int) (m k : Nat) (h : k + 1 < m) : b2 (xs.take m) k = b2 xs k := by unfold b2; rw [b1_take _ _ _ (by omega), b1_take _ _ _ (by omega)]
theorem b4_take (xs : List Int) (m k : Nat) (h : k + 3 < m) : b4 (xs.take m) k = b4 xs k := by unfold b4; rw [b2_take _ _ _ (by omega), b2_take _ _ _ (by omega)]

theorem or_byte6 (x y : Int) (h0 : 0 ≤ x) (h1 : x < 1099511627776) (h2 : 0 ≤ y) (h3 : y < 256) : bits .or .i64 (x * 256) y = x * 256 + y :=
  bits_join .i64 63 (by decide) (fun n _ _ => IntWalk.i64_in _ (by omega)) 8 _ _ (by omega) (by omega) (by omega) h2 (by omega) (by omega)


theorem rd_b1 {w : World} {B : Nat} {A : Option Addr} {n : Nat} {ys : List Int} (h : Rd w B A n (bys ys)) {j : Nat} (hj : j < n) :
    ∃ g o, A = some ⟨g, o, none⟩ ∧ w.cell? ⟨g, o + j, none⟩ = some (.int .u8 (b1 ys j)) := rd_cell6 h hj
theorem sg8 {x : Int} (h : 0 ≤ x ∧ x < 256) : IntKind.i8.wrap x = sg 8 x := by
  simp only [IntKind.wrap, IntKind.bits, IntKind.signed, sg]; simp; split <;> split <;> omega
theorem sg16 {x : Int} (h : 0 ≤ x ∧ x < 65536) : IntKind.i16.wrap x = sg 16 x := by
  simp only [IntKind.wrap, IntKind.bits, IntKind.signed, sg]; simp; split <;> split <;> omega
theorem sg32 {x : Int} (h : 0 ≤ x ∧ x < 4294967296) : IntKind.i32.wrap x = sg 32 x := by
  simp only [IntKind.wrap, IntKind.bits, IntKind.signed, sg]; simp; split <;> split <;> omega
theorem sg8_bd {x : Int} (h : 0 ≤ x ∧ x < 256) : -128 ≤ sg 8 x ∧ sg 8 x < 128 := by simp only [sg]; simp; split <;> omega
theorem sg16_bd {x : Int} (h : 0 ≤ x ∧ x < 65536) : -32768 ≤ sg 16 x ∧ sg 16 x < 32768 := by simp only [sg]; simp; split <;> omega
theorem sg32_bd {x : Int} (h : 0 ≤ x ∧ x < 4294967296) : -2147483648 ≤ sg 32 x ∧ sg 32 x < 2147483648 := by simp only [sg]; simp; split <;> omega

theorem iu1_any (B : Nat) (A : Option Addr) (n c : Nat) (ys : List Int) (w : World) (h : Rd w B A n (bys ys)) (h1 : 1 ≤ n) (hb : IsBytes ys) :
    Calls Tryz.prog 165 #[.slice A n c] w fun e w' => e = .returned (.int .i64 (b1 ys 0)) ∧ w = w' := by
  obtain ⟨g, o, rfl, c0⟩ := rd_b1 h (show 0 < n by omega)
  rw [Nat.add_zero] at c0
  have hx := b1_bd hb 0
  generalize b1 ys 0 = x at *
  have hn : (0 : Int) < n := by omega
  clear h
  go_enter Tryz.func165, Tryz.ntmps165
  go_wp2
  go_ret
  exact ⟨rfl, rfl⟩

theorem is1_any (B : Nat) (A : Option Addr) (n c : Nat) (ys : List Int) (w : World) (h : Rd w B A n (bys ys)) (h1 : 1 ≤ n) (hb : IsBytes ys) :
    Calls Tryz.prog 164 #[.slice A n c] w fun e w' => e = .returned (.int .i64 (sg 8 (b1 ys 0))) ∧ w = w' := by
  obtain ⟨g, o, rfl, c0⟩ := rd_b1 h (show 0 < n by omega)
  rw [Nat.add_zero] at c0
  have hx := b1_bd hb 0
  generalize b1 ys 0 = x at *
  have hn : (0 : Int) < n := by omega
  have hw := sg8 hx
  have hbd := sg8_bd hx
  generalize sg 8 x = z at *
  clear h hb
  go_enter Tryz.func164, Tryz.ntmps164
  go_wp2
  go_ret
  exact ⟨rfl, rfl⟩

theorem iu2_any (B : Nat) (A : Option Addr) (n c : Nat) (ys : List Int) (w : World) (h : Rd w B A n (bys ys)) (h1 : 2 ≤ n) (hb : IsBytes ys) :
    Calls Tryz.prog 159 #[.slice A n c] w fun e w' => e = .returned (.int .i64 (b2 ys 0)) ∧ ∃ q, w' = w.drewN q := by
  obtain ⟨g, o, rfl, c0⟩ := rd_b1 h (show 0 < n by omega)
  obtain ⟨g', o', he, c1⟩ := rd_b1 h (show 1 < n by omega)
  cases he
  rw [Nat.add_zero] at c0
  have hx := b1_bd hb 0
  have hy := b1_bd hb 1
  have e : b2 ys 0 = b1 ys 0 * 256 + b1 ys 1 := rfl
  rw [e]
  have Hor := hide (or_byte6 (b1 ys 0) (b1 ys 1) hx.1 (by omega) hy.1 hy.2)
  generalize b1 ys 0 = x at *
  generalize b1 ys 1 = y at *
  have hn : (0 : Int) < n := by omega
  have hn1 : (1 : Int) < n := by omega
  clear h hb e
  go_enter Tryz.func159, Tryz.ntmps159
  go_wp2
  go_quiet (fail)
  go_wp2
  go_ret
  exact ⟨by rw [← Hor.out]; rfl, _, rfl⟩

theorem is2_any (B : Nat) (A : Option Addr) (n c : Nat) (ys : List Int) (w : World) (h : Rd w B A n (bys ys)) (h1 : 2 ≤ n) (hb : IsBytes ys) :
    Calls Tryz.prog 160 #[.slice A n c] w fun e w' => e = .returned (.int .i64 (sg 16 (b2 ys 0))) ∧ ∃ q, w' = w.drewN q := by
  have C := hide (iu2_any B A n c ys w h h1 hb)
  have hx := b2_bd hb 0
  generalize b2 ys 0 = x at *
  have hw := sg16 hx
  have hbd := sg16_bd hx
  generalize sg 16 x = z at *
  clear h hb
  go_enter Tryz.func160, Tryz.ntmps160
  go_wp2_with fail
  refine C.out.mono ?_
  rintro e w1 ⟨rfl, q, rfl⟩
  go_wp2_with fail
  go_ret
  exact ⟨rfl, q, rfl⟩

theorem sgn4 {x : Int} (h : 0 ≤ x ∧ x < 4294967296) : wrap64 (wrap32 x) = sg 32 x := by
  unfold wrap64 wrap32; simp only [sg]; simp; split <;> omega
theorem or16_64 (x y : Int) (h0 : 0 ≤ x) (h1 : x < 65536) (h2 : 0 ≤ y) (h3 : y < 65536) : bits .or .i64 (x * 65536) y = x * 65536 + y :=
  bits_join .i64 63 (by decide) (fun n _ _ => IntWalk.i64_in _ (by omega)) 16 _ _ (by omega) (by omega) (by omega) h2 (by omega) (by omega)
theorem is4_any (B : Nat) (A : Option Addr) (n c : Nat) (ys : List Int) (w : World) (h : Rd w B A n (bys ys)) (h1 : 4 ≤ n) (hc : n ≤ c) (hb : IsBytes ys) :
    Calls Tryz.prog 162 #[.slice A n c] w fun e w' => e = .returned (.int .i64 (sg 32 (b4 ys 0))) ∧ ∃ q, w' = w.drewN q := by
  obtain ⟨g, o, rfl, hh⟩ : ∃ g o, A = some ⟨g, o, none⟩ ∧ ∀ W, Rd W B (some ⟨g, o, none⟩) n (bys ys) → Rd W B (some ⟨g, o + 2, none⟩) (n - 2) (bys (ys.drop 2)) := by
    obtain ⟨g, o, rfl, _, _⟩ := h.2 (by omega)
    refine ⟨g, o, rfl, fun W hW => ?_⟩
    obtain ⟨g', o', he, hlt, hc⟩ := hW.2 (by omega)
    cases he
    have hl := hW.1
    rw [bys_len] at hl
    refine ⟨by rw [bys_len, List.length_drop, hl], fun hn => ⟨g, o + 2, rfl, hlt, fun j u hu => ?_⟩⟩
    have := hc (2 + j) u (by rw [bys] at hu ⊢; rw [List.map_drop] at hu; simpa using hu)
    rw [← Nat.add_assoc] at this
    exact this
  have C1 : Hid (∀ q, Calls Tryz.prog 159 #[.slice (some ⟨g, o, none⟩) n c] (w.drewN q) fun e w' => e = .returned (.int .i64 (b2 ys 0)) ∧ ∃ q, w' = w.drewN q) := hide fun q => (iu2_any B _ n c ys (w.drewN q) h (by omega) hb).mono fun e w' hh => by
    obtain ⟨a, b, rfl⟩ := hh
    exact ⟨a, q + b, by rw [World.drewN_drewN]⟩
  have C2 : Hid (∀ q, Calls Tryz.prog 159 #[.slice (some ⟨g, o + 2, none⟩) (n - 2 : Nat) (c - 2 : Nat)] (w.drewN q) fun e w' => e = .returned (.int .i64 (b2 ys 2)) ∧ ∃ q, w' = w.drewN q) := hide fun q => (iu2_any B _ (n - 2) (c - 2) (ys.drop 2) (w.drewN q) (hh _ h) (by omega) (hb.drop 2)).mono fun e w' hh => by
    obtain ⟨a, b, rfl⟩ := hh
    exact ⟨by rw [a, b2_drop], q + b, by rw [World.drewN_drewN]⟩
  have hx := b2_bd hb 0
  have hy := b2_bd hb 2
  have e : b4 ys 0 = b2 ys 0 * 65536 + b2 ys 2 := rfl
  have Hor := hide (or16_64 (b2 ys 0) (b2 ys 2) hx.1 hx.2 hy.1 hy.2)
  have Hw := hide (sgn4 (b4_bd hb 0))
  rw [e] at Hw ⊢
  generalize b2 ys 0 = x at *
  generalize b2 ys 2 = y at *
  have hn2 : (2 : Int) ≤ n := by omega
  have hc2 : c ≠ 2 := by omega
  clear h hb hh e
  go_enter Tryz.func162, Tryz.ntmps162
  go_wp2
  go_quiet ((first | (go_at_call 159; with_reducible exact C1.out _) | (go_at_call 159; with_reducible exact C2.out _)))
  go_wp2
  go_ret
  exact ⟨by rw [← Hw.out, ← Hor.out]; rfl, _, rfl⟩
end Go.Proofs.YtbdbcalmjbmflaaGreatDoor
namespace Go.Proofs.YtbdbcalmjbmflaaGreatDoor
open Go.RowKit

/-- How many bytes stand behind the opcode, by its shape. -/
def opB (s : Int) : Nat := if s == 3 || s == 5 then 1 else if s == 4 || s == 6 || s == 7 || s == 8 then 2 else if s == 10 then 3 else if s == 9 || s == 11 then 4 else 0
theorem ioperand_any (s : Int) (w : World) : Calls Tryz.prog 157 #[.int .i64 s] w fun e w' => e = .returned (.int .i64 (opB s)) ∧ w = w' := by
  go_enter Tryz.func157, Tryz.ntmps157
  go_wp2
  all_goals go_ret
  all_goals first
    | (have h := beq_int (by assumption); subst h; exact ⟨rfl, rfl⟩)
    | (refine ⟨?_, rfl⟩; simp only [opB, Bool.or_false, *]; rfl)

/-- May wide stand ahead? -/
def wideT (op : Int) : Bool := [21, 22, 25, 54, 55, 58, 132].contains op
theorem iwidens_any (op : Int) (w : World) : Calls Tryz.prog 158 #[.int .i64 op] w fun e w' => e = .returned (.bool (wideT op)) ∧ w = w' := by
  go_enter Tryz.func158, Tryz.ntmps158
  go_wp2
  all_goals go_ret
  all_goals first
    | (have h := beq_int (by assumption); subst h; exact ⟨rfl, rfl⟩)
    | (refine ⟨?_, rfl⟩; simp only [wideT, List.contains_cons, List.contains_nil, Bool.or_false, *]; rfl)

/-- The number in a name. -/
def nameT (op : Int) : Int := if op ≤ 8 then op - 3 else if op ≤ 10 then op - 9 else if op ≤ 45 then (op - 26).tmod 4 else (op - 59).tmod 4
theorem iinName_any (op : Int) (w : World) (h0 : 0 ≤ op) (h1 : op < 256) : Calls Tryz.prog 163 #[.int .i64 op] w fun e w' => e = .returned (.int .i64 (nameT op)) ∧ w = w' := by
  go_enter Tryz.func163, Tryz.ntmps163
  go_wp2
  all_goals go_ret
  all_goals (refine ⟨?_, rfl⟩; simp [nameT, *]; try ((repeat' split) <;> first | rfl | omega))

/-! ### stretches of a slice -/
def subA (c i : Nat) (a : Option Addr) : Option Addr := if c = i then a else a.map (·.add i)
theorem slice_sub (a : Option Addr) (len cap i j : Nat) (hi : i ≤ j) (hj : j ≤ cap) (W : World) :
    (Instr.slice 29 (.slice a len cap) (some (.int .i64 (i : Int))) (some (.int .i64 (j : Int))) none).run Tryz.prog W = .ok (.slice (subA cap i a) (j - i) (cap - i)) W := by
  obtain ⟨i0, hi0, hz0, hz1, hz2⟩ := info_parts u8info
  simp [Instr.slice, run_underlying Tryz.underlying29, Instr.sliceBounds, Instr.sliceBound, asIntOf, hi, hj, go_sem, sizeOf, typeInfo, hi0, hz1, subA]
theorem slice_from6 (a : Option Addr) (len cap f : Nat) (hf : f ≤ len) (W : World) :
    (Instr.slice 29 (.slice a len cap) (some (.int .i64 (f : Int))) none none).run Tryz.prog W = .ok (.slice (subA cap f a) (len - f) (cap - f)) W := by
  obtain ⟨i0, hi0, hz0, hz1, hz2⟩ := info_parts u8info
  simp [Instr.slice, run_underlying Tryz.underlying29, Instr.sliceBounds, Instr.sliceBound, asIntOf, hf, go_sem, sizeOf, typeInfo, hi0, hz1, subA]
theorem Rd.sub {w : World} {B : Nat} {A : Option Addr} {n c : Nat} {xs : List Int} (h : Rd w B A n (bys xs)) {i j : Nat} (hi : i ≤ j) (hj : j ≤ n) (hc : n ≤ c) : Rd w B (subA c i A) (j - i) (bys ((xs.drop i).take (j - i))) := by
  have hl := h.1
  rw [bys_len] at hl
  refine ⟨by simp [bys]; omega, fun hp => ?_⟩
  obtain ⟨g, o, rfl, hg, hh⟩ := h.2 (by omega)
  refine ⟨g, o + i, by unfold subA; rw [if_neg (by omega)]; simp [add_none], hg, fun k u hu => ?_⟩
  have h2 : (bys xs)[i + k]? = some u := by
    simp only [bys, List.getElem?_map, List.getElem?_take, List.getElem?_drop] at hu ⊢
    split at hu
    · exact hu
    · cases hu
  have := hh (i + k) u h2
  rwa [← Nat.add_assoc] at this
theorem Rd.from {w : World} {B : Nat} {A : Option Addr} {n c : Nat} {xs : List Int} (h : Rd w B A n (bys xs)) {i : Nat} (hi : i ≤ n) (hc : n ≤ c) : Rd w B (subA c i A) (n - i) (bys (xs.drop i)) := by
  have hl := h.1
  rw [bys_len] at hl
  have := h.sub (i := i) (j := n) hi (Nat.le_refl _) hc
  rwa [List.take_of_length_le (by simp; omega)] at this
end Go.Proofs.YtbdbcalmjbmflaaGreatDoor
namespace Go.Proofs.YtbdbcalmjbmflaaGreatDoor
open Go.RowKit

/-- An instruction without targets; none. -/
def insV (at_ len op : Int) (wide : Bool) (a b : Int) : Value := .agg #[.int .i64 at_, .int .i64 len, .int .i64 op, .bool wide, .int .i64 a, .int .i64 b, .slice none 0 0, .slice none 0 0]
def noV6 : Value := .tuple #[insV 0 0 0 false 0 0, .bool false]
/-- The eight cells of an instruction in a block of its own. -/
def insC (at_ len op : Int) (wide : Bool) (a b : Int) : List Value := [.int .i64 at_, .int .i64 len, .int .i64 op, .bool wide, .int .i64 a, .int .i64 b, .slice none 0 0, .slice none 0 0]
/-- The operands, by the shape: bytes behind the opcode; nothing where they are refused. -/
def operands (s : Int) (op at_ : Int) (ys : List Int) : Option (Int × Int) :=
  if s == 2 then some (nameT op, 0) else if s == 3 then some (sg 8 (b1 ys 0), 0) else if s == 4 then some (sg 16 (b2 ys 0), 0)
  else if s == 5 then some (b1 ys 0, 0) else if s == 6 then some (b2 ys 0, 0) else if s == 7 then some (b1 ys 0, sg 8 (b1 ys 1))
  else if s == 8 then some (at_ + sg 16 (b2 ys 0), 0) else if s == 9 then some (at_ + sg 32 (b4 ys 0), 0) else if s == 10 then some (b2 ys 0, b1 ys 2)
  else if s == 11 then (if b1 ys 3 == 0 then some (b2 ys 0, b1 ys 2) else none) else some (0, 0)
def plainR (s : Int) (xs : List Int) (p : Nat) : Value :=
  if xs.length - p < 1 + opB s then noV6 else
    match operands s (b1 xs p) p ((xs.drop (p + 1)).take (opB s)) with
    | some (a, b) => .tuple #[insV p (1 + opB s) (b1 xs p) false a b, .bool true]
    | none => noV6
theorem opB_le (s : Int) : opB s ≤ 4 := by
  unfold opB
  split
  · omega
  split
  · omega
  split
  · omega
  split <;> omega
theorem cell_alloc {w : World} {g k : Nat} {v : Value} (h : w.cell? ⟨g, k, none⟩ = some v) (hg : g < w.heap.size) (ob : Obj) : (w.alloc ob).cell? ⟨g, k, none⟩ = some v := by
  rw [← h]; exact ((Below.refl w.heap.size w).alloc (Nat.le_refl _) ob).cell hg

theorem plain_short (s : Int) (B : Nat) (A : Option Addr) (n c p : Nat) (xs : List Int) (w : World) (h : Rd w B A n (bys xs)) (hB : B ≤ w.heap.size) (hb : IsBytes xs) (hp : p < n) (hn : n ≤ 140737488355328) (hs : shapeT (b1 xs p) = s) (hl : n - p < 1 + opB s) :
    Calls Tryz.prog 144 #[.slice A n c, .int .i64 p] w fun e w' => e = .returned noV6 ∧ Below w.heap.size w w' := by
  obtain ⟨g, o, rfl, hg, _⟩ := h.2 (by omega)
  obtain ⟨_, _, he, c0⟩ := rd_b1 h hp
  cases he
  have ca := cell_alloc c0 (by omega)
  have HS : Hid (∀ W, Calls Tryz.prog 140 #[.int .i64 (b1 xs p)] W fun e w' => e = .returned (.int .i64 s) ∧ W = w') := hide fun W => by have := shape_any (b1 xs p) W; rwa [hs] at this
  have HO := hide (ioperand_any s)
  have hx := b1_bd hb p
  have hq := opB_le s
  generalize b1 xs p = x at *
  generalize opB s = q at *
  have hp2 : (p : Int) < n := by omega
  have hlt : (n : Int) - (p : Int) < 1 + q := by omega
  clear h hb c0
  go_enter Tryz.func144, Tryz.ntmps144
  go_wp2_with fail
  refine (HS.out _).mono ?_
  rintro e w1 ⟨rfl, rfl⟩
  go_wp2_with fail
  refine (HO.out _).mono ?_
  rintro e w1 ⟨rfl, rfl⟩
  go_wp2_with fail
  refine bodyPost_ret (v := noV6) ?_ rfl ⟨rfl, ?_⟩
  · simp [results, Tryz.results144, go_sem]
    rfl
  · repeat (first | with_reducible exact Below.refl _ _ | with_reducible refine Below.drew ?_ | with_reducible refine below_drewN ?_ _ | ((with_reducible refine Below.setCell ?_ ?hp _); case hp => simp) | ((with_reducible refine Below.alloc ?_ ?hp _); case hp => first | omega | (simp; done) | (simp; omega)))

theorem plain_1 (B : Nat) (A : Option Addr) (n c p : Nat) (xs : List Int) (w : World) (h : Rd w B A n (bys xs)) (hB : B ≤ w.heap.size) (hb : IsBytes xs) (hp : p < n) (hc : n ≤ c) (hn : n ≤ 140737488355328) (hs : shapeT (b1 xs p) = 1) (hl : 1 + 0 ≤ n - p) :
    Calls Tryz.prog 144 #[.slice A n c, .int .i64 p] w fun e w' => e = .returned (plainR 1 xs p) ∧ Below w.heap.size w w' := by
  have hxl : xs.length = n := by have := h.1; rwa [bys_len] at this
  obtain ⟨ys, hys⟩ : ∃ ys, ys = (xs.drop (p + 1)).take 0 := ⟨_, rfl⟩
  have hR : plainR 1 xs p = .tuple #[insV p 1 (b1 xs p) false 0 0, .bool true] := by
    unfold plainR
    rw [if_neg (by rw [hxl]; exact Nat.not_lt.2 hl)]
    rw [show opB 1 = 0 from rfl, ← hys]
    rfl
  rw [hR]
  clear hR
  obtain ⟨g, o, rfl, hg, _⟩ := h.2 (by omega)
  obtain ⟨_, _, he, c0⟩ := rd_b1 h hp
  cases he
  have ca := cell_alloc c0 (by omega)
  have hSl := slice_sub (some ⟨g, o, none⟩) n c (p + 1) (p + 1) (by omega) (by omega)
  rw [show p + 1 - (p + 1) = 0 by omega] at hSl
  rw [show ((p + 1 : Nat) : Int) = (p : Int) + 1 by omega] at hSl
  generalize c - (p + 1) = C at *
  generalize subA c (p + 1) (some ⟨g, o, none⟩) = SA at *
  have HS : Hid (∀ W, Calls Tryz.prog 140 #[.int .i64 (b1 xs p)] W fun e w' => e = .returned (.int .i64 1) ∧ W = w') := hide fun W => by have := shape_any (b1 xs p) W; rwa [hs] at this
  have HO : Hid (∀ W, Calls Tryz.prog 157 #[.int .i64 1] W fun e w' => e = .returned (.int .i64 0) ∧ W = w') := hide (ioperand_any 1)
  have hx := b1_bd hb p
  generalize b1 xs p = x at *
  have hp2 : (p : Int) < n := by omega
  have hlt : ¬ ((n : Int) - (p : Int) < 1) := by omega
  clear h hb c0 hys
  go_enter Tryz.func144, Tryz.ntmps144
  go_wp2_with fail
  refine (HS.out _).mono ?_
  rintro e w1 ⟨rfl, rfl⟩
  go_wp2_with fail
  refine (HO.out _).mono ?_
  rintro e w1 ⟨rfl, rfl⟩
  go_wp2_with fail
  all_goals
    refine bodyPost_ret (v := .tuple #[insV p 1 x false 0 0, .bool true]) ?_ rfl ⟨rfl, ?_⟩
    · simp [results, Tryz.results144, go_sem]
      rfl
    · repeat (first | with_reducible exact Below.refl _ _ | with_reducible refine Below.drew ?_ | with_reducible refine below_drewN ?_ _ | ((with_reducible refine Below.setCell ?_ ?hp _); case hp => simp) | ((with_reducible refine Below.alloc ?_ ?hp _); case hp => first | omega | (simp; done) | (simp; omega)))

theorem plain_2 (B : Nat) (A : Option Addr) (n c p : Nat) (xs : List Int) (w : World) (h : Rd w B A n (bys xs)) (hB : B ≤ w.heap.size) (hb : IsBytes xs) (hp : p < n) (hc : n ≤ c) (hn : n ≤ 140737488355328) (hs : shapeT (b1 xs p) = 2) (hl : 1 + 0 ≤ n - p) :
    Calls Tryz.prog 144 #[.slice A n c, .int .i64 p] w fun e w' => e = .returned (plainR 2 xs p) ∧ Below w.heap.size w w' := by
  have hxl : xs.length = n := by have := h.1; rwa [bys_len] at this
  obtain ⟨ys, hys⟩ : ∃ ys, ys = (xs.drop (p + 1)).take 0 := ⟨_, rfl⟩
  have hR : plainR 2 xs p = .tuple #[insV p 1 (b1 xs p) false (nameT (b1 xs p)) 0, .bool true] := by
    unfold plainR
    rw [if_neg (by rw [hxl]; exact Nat.not_lt.2 hl)]
    rw [show opB 2 = 0 from rfl, ← hys]
    rfl
  rw [hR]
  clear hR
  obtain ⟨g, o, rfl, hg, _⟩ := h.2 (by omega)
  obtain ⟨_, _, he, c0⟩ := rd_b1 h hp
  cases he
  have ca := cell_alloc c0 (by omega)
  have hSl := slice_sub (some ⟨g, o, none⟩) n c (p + 1) (p + 1) (by omega) (by omega)
  rw [show p + 1 - (p + 1) = 0 by omega] at hSl
  rw [show ((p + 1 : Nat) : Int) = (p : Int) + 1 by omega] at hSl
  generalize c - (p + 1) = C at *
  generalize subA c (p + 1) (some ⟨g, o, none⟩) = SA at *
  have HS : Hid (∀ W, Calls Tryz.prog 140 #[.int .i64 (b1 xs p)] W fun e w' => e = .returned (.int .i64 2) ∧ W = w') := hide fun W => by have := shape_any (b1 xs p) W; rwa [hs] at this
  have HO : Hid (∀ W, Calls Tryz.prog 157 #[.int .i64 2] W fun e w' => e = .returned (.int .i64 0) ∧ W = w') := hide (ioperand_any 2)
  have hx := b1_bd hb p
  have HN := hide (iinName_any (b1 xs p))
  generalize nameT (b1 xs p) = nm at *
  generalize b1 xs p = x at *
  have hp2 : (p : Int) < n := by omega
  have hlt : ¬ ((n : Int) - (p : Int) < 1) := by omega
  clear h hb c0 hys
  go_enter Tryz.func144, Tryz.ntmps144
  go_wp2_with fail
  refine (HS.out _).mono ?_
  rintro e w1 ⟨rfl, rfl⟩
  go_wp2_with fail
  refine (HO.out _).mono ?_
  rintro e w1 ⟨rfl, rfl⟩
  go_wp2_with fail
  refine (HN.out _ hx.1 hx.2).mono ?_
  rintro e w2 ⟨rfl, rfl⟩
  go_wp2_with fail
  all_goals
    refine bodyPost_ret (v := .tuple #[insV p 1 x false nm 0, .bool true]) ?_ rfl ⟨rfl, ?_⟩
    · simp [results, Tryz.results144, go_sem]
      rfl
    · repeat (first | with_reducible exact Below.refl _ _ | with_reducible refine Below.drew ?_ | with_reducible refine below_drewN ?_ _ | ((with_reducible refine Below.setCell ?_ ?hp _); case hp => simp) | ((with_reducible refine Below.alloc ?_ ?hp _); case hp => first | omega | (simp; done) | (simp; omega)))

theorem plain_3 (B : Nat) (A : Option Addr) (n c p : Nat) (xs : List Int) (w : World) (h : Rd w B A n (bys xs)) (hB : B ≤ w.heap.size) (hb : IsBytes xs) (hp : p < n) (hc : n ≤ c) (hn : n ≤ 140737488355328) (hs : shapeT (b1 xs p) = 3) (hl : 1 + 1 ≤ n - p) :
    Calls Tryz.prog 144 #[.slice A n c, .int .i64 p] w fun e w' => e = .returned (plainR 3 xs p) ∧ Below w.heap.size w w' := by
  have hxl : xs.length = n := by have := h.1; rwa [bys_len] at this
  obtain ⟨ys, hys⟩ : ∃ ys, ys = (xs.drop (p + 1)).take 1 := ⟨_, rfl⟩
  have hR : plainR 3 xs p = .tuple #[insV p 2 (b1 xs p) false (sg 8 (b1 ys 0)) 0, .bool true] := by
    unfold plainR
    rw [if_neg (by rw [hxl]; exact Nat.not_lt.2 hl)]
    rw [show opB 3 = 1 from rfl, ← hys]
    rfl
  rw [hR]
  clear hR
  have hyb : IsBytes ys := by rw [hys]; exact (hb.drop _).take _
  obtain ⟨g, o, rfl, hg, _⟩ := h.2 (by omega)
  obtain ⟨_, _, he, c0⟩ := rd_b1 h hp
  cases he
  have ca := cell_alloc c0 (by omega)
  have hSl := slice_sub (some ⟨g, o, none⟩) n c (p + 1) (p + 2) (by omega) (by omega)
  rw [show p + 2 - (p + 1) = 1 by omega] at hSl
  have hsub := h.sub (c := c) (i := p + 1) (j := p + 2) (by omega) (by omega) hc
  rw [show p + 2 - (p + 1) = 1 by omega, ← hys] at hsub
  rw [show ((p + 1 : Nat) : Int) = (p : Int) + 1 by omega, show ((p + 2 : Nat) : Int) = (p : Int) + 2 by omega] at hSl
  obtain ⟨gs, os, hsA, hgs, _⟩ := hsub.2 (by omega)
  rw [hsA] at hSl hsub
  have hC : 1 ≤ c - (p + 1) := by omega
  generalize c - (p + 1) = C at *
  have HS : Hid (∀ W, Calls Tryz.prog 140 #[.int .i64 (b1 xs p)] W fun e w' => e = .returned (.int .i64 3) ∧ W = w') := hide fun W => by have := shape_any (b1 xs p) W; rwa [hs] at this
  have HO : Hid (∀ W, Calls Tryz.prog 157 #[.int .i64 3] W fun e w' => e = .returned (.int .i64 1) ∧ W = w') := hide (ioperand_any 3)
  have hx := b1_bd hb p
  have C1 : Hid (∀ W, Below w.heap.size w W → Calls Tryz.prog 164 #[.slice (some ⟨gs, os, none⟩) 1 C] W fun e w' => e = .returned (.int .i64 (sg 8 (b1 ys 0))) ∧ W = w') := hide fun W hW => is1_any B _ 1 C ys W (hsub.below (hW.mono hB)) (by omega) hyb
  generalize b1 xs p = x at *
  generalize sg 8 (b1 ys 0) = y0 at *
  have hp2 : (p : Int) < n := by omega
  have hlt : ¬ ((n : Int) - (p : Int) < 2) := by omega
  clear h hb c0 hsA hsub hys hyb
  go_enter Tryz.func144, Tryz.ntmps144
  go_wp2_with fail
  refine (HS.out _).mono ?_
  rintro e w1 ⟨rfl, rfl⟩
  go_wp2_with fail
  refine (HO.out _).mono ?_
  rintro e w1 ⟨rfl, rfl⟩
  go_wp2_with fail
  refine (C1.out _ ?_).mono ?_
  · repeat (first | with_reducible exact Below.refl _ _ | with_reducible refine Below.drew ?_ | with_reducible refine below_drewN ?_ _ | ((with_reducible refine Below.setCell ?_ ?hp _); case hp => simp) | ((with_reducible refine Below.alloc ?_ ?hp _); case hp => first | omega | (simp; done) | (simp; omega)))
  rintro e w2 ⟨rfl, rfl⟩
  go_wp2_with fail
  all_goals
    refine bodyPost_ret (v := .tuple #[insV p 2 x false y0 0, .bool true]) ?_ rfl ⟨rfl, ?_⟩
    · simp [results, Tryz.results144, go_sem]
      rfl
    · repeat (first | with_reducible exact Below.refl _ _ | with_reducible refine Below.drew ?_ | with_reducible refine below_drewN ?_ _ | ((with_reducible refine Below.setCell ?_ ?hp _); case hp => simp) | ((with_reducible refine Below.alloc ?_ ?hp _); case hp => first | omega | (simp; done) | (simp; omega)))

theorem plain_4 (B : Nat) (A : Option Addr) (n c p : Nat) (xs : List Int) (w : World) (h : Rd w B A n (bys xs)) (hB : B ≤ w.heap.size) (hb : IsBytes xs) (hp : p < n) (hc : n ≤ c) (hn : n ≤ 140737488355328) (hs : shapeT (b1 xs p) = 4) (hl : 1 + 2 ≤ n - p) :
    Calls Tryz.prog 144 #[.slice A n c, .int .i64 p] w fun e w' => e = .returned (plainR 4 xs p) ∧ Below w.heap.size w w' := by
  have hxl : xs.length = n := by have := h.1; rwa [bys_len] at this
  obtain ⟨ys, hys⟩ : ∃ ys, ys = (xs.drop (p + 1)).take 2 := ⟨_, rfl⟩
  have hR : plainR 4 xs p = .tuple #[insV p 3 (b1 xs p) false (sg 16 (b2 ys 0)) 0, .bool true] := by
    unfold plainR
    rw [if_neg (by rw [hxl]; exact Nat.not_lt.2 hl)]
    rw [show opB 4 = 2 from rfl, ← hys]
    rfl
  rw [hR]
  clear hR
  have hyb : IsBytes ys := by rw [hys]; exact (hb.drop _).take _
  obtain ⟨g, o, rfl, hg, _⟩ := h.2 (by omega)
  obtain ⟨_, _, he, c0⟩ := rd_b1 h hp
  cases he
  have ca := cell_alloc c0 (by omega)
  have hSl := slice_sub (some ⟨g, o, none⟩) n c (p + 1) (p + 3) (by omega) (by omega)
  rw [show p + 3 - (p + 1) = 2 by omega] at hSl
  have hsub := h.sub (c := c) (i := p + 1) (j := p + 3) (by omega) (by omega) hc
  rw [show p + 3 - (p + 1) = 2 by omega, ← hys] at hsub
  rw [show ((p + 1 : Nat) : Int) = (p : Int) + 1 by omega, show ((p + 3 : Nat) : Int) = (p : Int) + 3 by omega] at hSl
  obtain ⟨gs, os, hsA, hgs, _⟩ := hsub.2 (by omega)
  rw [hsA] at hSl hsub
  have hC : 2 ≤ c - (p + 1) := by omega
  generalize c - (p + 1) = C at *
  have HS : Hid (∀ W, Calls Tryz.prog 140 #[.int .i64 (b1 xs p)] W fun e w' => e = .returned (.int .i64 4) ∧ W = w') := hide fun W => by have := shape_any (b1 xs p) W; rwa [hs] at this
  have HO : Hid (∀ W, Calls Tryz.prog 157 #[.int .i64 4] W fun e w' => e = .returned (.int .i64 2) ∧ W = w') := hide (ioperand_any 4)
  have hx := b1_bd hb p
  have C1 : Hid (∀ W, Below w.heap.size w W → Calls Tryz.prog 160 #[.slice (some ⟨gs, os, none⟩) 2 C] W fun e w' => e = .returned (.int .i64 (sg 16 (b2 ys 0))) ∧ ∃ q, w' = W.drewN q) := hide fun W hW => is2_any B _ 2 C ys W (hsub.below (hW.mono hB)) (by omega) hyb
  generalize b1 xs p = x at *
  generalize sg 16 (b2 ys 0) = y0 at *
  have hp2 : (p : Int) < n := by omega
  have hlt : ¬ ((n : Int) - (p : Int) < 3) := by omega
  clear h hb c0 hsA hsub hys hyb
  go_enter Tryz.func144, Tryz.ntmps144
  go_wp2_with fail
  refine (HS.out _).mono ?_
  rintro e w1 ⟨rfl, rfl⟩
  go_wp2_with fail
  refine (HO.out _).mono ?_
  rintro e w1 ⟨rfl, rfl⟩
  go_wp2_with fail
  refine (C1.out _ ?_).mono ?_
  · repeat (first | with_reducible exact Below.refl _ _ | with_reducible refine Below.drew ?_ | with_reducible refine below_drewN ?_ _ | ((with_reducible refine Below.setCell ?_ ?hp _); case hp => simp) | ((with_reducible refine Below.alloc ?_ ?hp _); case hp => first | omega | (simp; done) | (simp; omega)))
  rintro e w2 ⟨rfl, q, rfl⟩
  go_wp2_with fail
  all_goals
    refine bodyPost_ret (v := .tuple #[insV p 3 x false y0 0, .bool true]) ?_ rfl ⟨rfl, ?_⟩
    · simp [results, Tryz.results144, go_sem]
      rfl
    · repeat (first | with_reducible exact Below.refl _ _ | with_reducible refine Below.drew ?_ | with_reducible refine below_drewN ?_ _ | ((with_reducible refine Below.setCell ?_ ?hp _); case hp => simp) | ((with_reducible refine Below.alloc ?_ ?hp _); case hp => first | omega | (simp; done) | (simp; omega)))

theorem plain_5 (B : Nat) (A : Option Addr) (n c p : Nat) (xs : List Int) (w : World) (h : Rd w B A n (bys xs)) (hB : B ≤ w.heap.size) (hb : IsBytes xs) (hp : p < n) (hc : n ≤ c) (hn : n ≤ 140737488355328) (hs : shapeT (b1 xs p) = 5) (hl : 1 + 1 ≤ n - p) :
    Calls Tryz.prog 144 #[.slice A n c, .int .i64 p] w fun e w' => e = .returned (plainR 5 xs p) ∧ Below w.heap.size w w' := by
  have hxl : xs.length = n := by have := h.1; rwa [bys_len] at this
  obtain ⟨ys, hys⟩ : ∃ ys, ys = (xs.drop (p + 1)).take 1 := ⟨_, rfl⟩
  have hR : plainR 5 xs p = .tuple #[insV p 2 (b1 xs p) false (b1 ys 0) 0, .bool true] := by
    unfold plainR
    rw [if_neg (by rw [hxl]; exact Nat.not_lt.2 hl)]
    rw [show opB 5 = 1 from rfl, ← hys]
    rfl
  rw [hR]
  clear hR
  have hyb : IsBytes ys := by rw [hys]; exact (hb.drop _).take _
  obtain ⟨g, o, rfl, hg, _⟩ := h.2 (by omega)
  obtain ⟨_, _, he, c0⟩ := rd_b1 h hp
  cases he
  have ca := cell_alloc c0 (by omega)
  have hSl := slice_sub (some ⟨g, o, none⟩) n c (p + 1) (p + 2) (by omega) (by omega)
  rw [show p + 2 - (p + 1) = 1 by omega] at hSl
  have hsub := h.sub (c := c) (i := p + 1) (j := p + 2) (by omega) (by omega) hc
  rw [show p + 2 - (p + 1) = 1 by omega, ← hys] at hsub
  rw [show ((p + 1 : Nat) : Int) = (p : Int) + 1 by omega, show ((p + 2 : Nat) : Int) = (p : Int) + 2 by omega] at hSl
  obtain ⟨gs, os, hsA, hgs, _⟩ := hsub.2 (by omega)
  rw [hsA] at hSl hsub
  have hC : 1 ≤ c - (p + 1) := by omega
  generalize c - (p + 1) = C at *
  have HS : Hid (∀ W, Calls Tryz.prog 140 #[.int .i64 (b1 xs p)] W fun e w' => e = .returned (.int .i64 5) ∧ W = w') := hide fun W => by have := shape_any (b1 xs p) W; rwa [hs] at this
  have HO : Hid (∀ W, Calls Tryz.prog 157 #[.int .i64 5] W fun e w' => e = .returned (.int .i64 1) ∧ W = w') := hide (ioperand_any 5)
  have hx := b1_bd hb p
  have C1 : Hid (∀ W, Below w.heap.size w W → Calls Tryz.prog 165 #[.slice (some ⟨gs, os, none⟩) 1 C] W fun e w' => e = .returned (.int .i64 (b1 ys 0)) ∧ W = w') := hide fun W hW => iu1_any B _ 1 C ys W (hsub.below (hW.mono hB)) (by omega) hyb
  generalize b1 xs p = x at *
  generalize b1 ys 0 = y0 at *
  have hp2 : (p : Int) < n := by omega
  have hlt : ¬ ((n : Int) - (p : Int) < 2) := by omega
  clear h hb c0 hsA hsub hys hyb
  go_enter Tryz.func144, Tryz.ntmps144
  go_wp2_with fail
  refine (HS.out _).mono ?_
  rintro e w1 ⟨rfl, rfl⟩
  go_wp2_with fail
  refine (HO.out _).mono ?_
  rintro e w1 ⟨rfl, rfl⟩
  go_wp2_with fail
  refine (C1.out _ ?_).mono ?_
  · repeat (first | with_reducible exact Below.refl _ _ | with_reducible refine Below.drew ?_ | with_reducible refine below_drewN ?_ _ | ((with_reducible refine Below.setCell ?_ ?hp _); case hp => simp) | ((with_reducible refine Below.alloc ?_ ?hp _); case hp => first | omega | (simp; done) | (simp; omega)))
  rintro e w2 ⟨rfl, rfl⟩
  go_wp2_with fail
  all_goals
    refine bodyPost_ret (v := .tuple #[insV p 2 x false y0 0, .bool true]) ?_ rfl ⟨rfl, ?_⟩
    · simp [results, Tryz.results144, go_sem]
      rfl
    · repeat (first | with_reducible exact Below.refl _ _ | with_reducible refine Below.drew ?_ | with_reducible refine below_drewN ?_ _ | ((with_reducible refine Below.setCell ?_ ?hp _); case hp => simp) | ((with_reducible refine Below.alloc ?_ ?hp _); case hp => first | omega | (simp; done) | (simp; omega)))

theorem plain_6 (B : Nat) (A : Option Addr) (n c p : Nat) (xs : List Int) (w : World) (h : Rd w B A n (bys xs)) (hB : B ≤ w.heap.size) (hb : IsBytes xs) (hp : p < n) (hc : n ≤ c) (hn : n ≤ 140737488355328) (hs : shapeT (b1 xs p) = 6) (hl : 1 + 2 ≤ n - p) :
    Calls Tryz.prog 144 #[.slice A n c, .int .i64 p] w fun e w' => e = .returned (plainR 6 xs p) ∧ Below w.heap.size w w' := by
  have hxl : xs.length = n := by have := h.1; rwa [bys_len] at this
  obtain ⟨ys, hys⟩ : ∃ ys, ys = (xs.drop (p + 1)).take 2 := ⟨_, rfl⟩
  have hR : plainR 6 xs p = .tuple #[insV p 3 (b1 xs p) false (b2 ys 0) 0, .bool true] := by
    unfold plainR
    rw [if_neg (by rw [hxl]; exact Nat.not_lt.2 hl)]
    rw [show opB 6 = 2 from rfl, ← hys]
    rfl
  rw [hR]
  clear hR
  have hyb : IsBytes ys := by rw [hys]; exact (hb.drop _).take _
  obtain ⟨g, o, rfl, hg, _⟩ := h.2 (by omega)
  obtain ⟨_, _, he, c0⟩ := rd_b1 h hp
  cases he
  have ca := cell_alloc c0 (by omega)
  have hSl := slice_sub (some ⟨g, o, none⟩) n c (p + 1) (p + 3) (by omega) (by omega)
  rw [show p + 3 - (p + 1) = 2 by omega] at hSl
  have hsub := h.sub (c := c) (i := p + 1) (j := p + 3) (by omega) (by omega) hc
  rw [show p + 3 - (p + 1) = 2 by omega, ← hys] at hsub
  rw [show ((p + 1 : Nat) : Int) = (p : Int) + 1 by omega, show ((p + 3 : Nat) : Int) = (p : Int) + 3 by omega] at hSl
  obtain ⟨gs, os, hsA, hgs, _⟩ := hsub.2 (by omega)
  rw [hsA] at hSl hsub
  have hC : 2 ≤ c - (p + 1) := by omega
  generalize c - (p + 1) = C at *
  have HS : Hid (∀ W, Calls Tryz.prog 140 #[.int .i64 (b1 xs p)] W fun e w' => e = .returned (.int .i64 6) ∧ W = w') := hide fun W => by have := shape_any (b1 xs p) W; rwa [hs] at this
  have HO : Hid (∀ W, Calls Tryz.prog 157 #[.int .i64 6] W fun e w' => e = .returned (.int .i64 2) ∧ W = w') := hide (ioperand_any 6)
  have hx := b1_bd hb p
  have C1 : Hid (∀ W, Below w.heap.size w W → Calls Tryz.prog 159 #[.slice (some ⟨gs, os, none⟩) 2 C] W fun e w' => e = .returned (.int .i64 (b2 ys 0)) ∧ ∃ q, w' = W.drewN q) := hide fun W hW => iu2_any B _ 2 C ys W (hsub.below (hW.mono hB)) (by omega) hyb
  generalize b1 xs p = x at *
  generalize b2 ys 0 = y0 at *
  have hp2 : (p : Int) < n := by omega
  have hlt : ¬ ((n : Int) - (p : Int) < 3) := by omega
  clear h hb c0 hsA hsub hys hyb
  go_enter Tryz.func144, Tryz.ntmps144
  go_wp2_with fail
  refine (HS.out _).mono ?_
  rintro e w1 ⟨rfl, rfl⟩
  go_wp2_with fail
  refine (HO.out _).mono ?_
  rintro e w1 ⟨rfl, rfl⟩
  go_wp2_with fail
  refine (C1.out _ ?_).mono ?_
  · repeat (first | with_reducible exact Below.refl _ _ | with_reducible refine Below.drew ?_ | with_reducible refine below_drewN ?_ _ | ((with_reducible refine Below.setCell ?_ ?hp _); case hp => simp) | ((with_reducible refine Below.alloc ?_ ?hp _); case hp => first | omega | (simp; done) | (simp; omega)))
  rintro e w2 ⟨rfl, q, rfl⟩
  go_wp2_with fail
  all_goals
    refine bodyPost_ret (v := .tuple #[insV p 3 x false y0 0, .bool true]) ?_ rfl ⟨rfl, ?_⟩
    · simp [results, Tryz.results144, go_sem]
      rfl
    · repeat (first | with_reducible exact Below.refl _ _ | with_reducible refine Below.drew ?_ | with_reducible refine below_drewN ?_ _ | ((with_reducible refine Below.setCell ?_ ?hp _); case hp => simp) | ((with_reducible refine Below.alloc ?_ ?hp _); case hp => first | omega | (simp; done) | (simp; omega)))

theorem plain_7 (B : Nat) (A : Option Addr) (n c p : Nat) (xs : List Int) (w : World) (h : Rd w B A n (bys xs)) (hB : B ≤ w.heap.size) (hb : IsBytes xs) (hp : p < n) (hc : n ≤ c) (hn : n ≤ 140737488355328) (hs : shapeT (b1 xs p) = 7) (hl : 1 + 2 ≤ n - p) :
    Calls Tryz.prog 144 #[.slice A n c, .int .i64 p] w fun e w' => e = .returned (plainR 7 xs p) ∧ Below w.heap.size w w' := by
  have hxl : xs.length = n := by have := h.1; rwa [bys_len] at this
  obtain ⟨ys, hys⟩ : ∃ ys, ys = (xs.drop (p + 1)).take 2 := ⟨_, rfl⟩
  have hR : plainR 7 xs p = .tuple #[insV p 3 (b1 xs p) false (b1 ys 0) (sg 8 (b1 ys 1)), .bool true] := by
    unfold plainR
    rw [if_neg (by rw [hxl]; exact Nat.not_lt.2 hl)]
    rw [show opB 7 = 2 from rfl, ← hys]
    rfl
  rw [hR]
  clear hR
  have hyb : IsBytes ys := by rw [hys]; exact (hb.drop _).take _
  obtain ⟨g, o, rfl, hg, _⟩ := h.2 (by omega)
  obtain ⟨_, _, he, c0⟩ := rd_b1 h hp
  cases he
  have ca := cell_alloc c0 (by omega)
  have hSl := slice_sub (some ⟨g, o, none⟩) n c (p + 1) (p + 3) (by omega) (by omega)
  rw [show p + 3 - (p + 1) = 2 by omega] at hSl
  have hsub := h.sub (c := c) (i := p + 1) (j := p + 3) (by omega) (by omega) hc
  rw [show p + 3 - (p + 1) = 2 by omega, ← hys] at hsub
  rw [show ((p + 1 : Nat) : Int) = (p : Int) + 1 by omega, show ((p + 3 : Nat) : Int) = (p : Int) + 3 by omega] at hSl
  obtain ⟨gs, os, hsA, hgs, _⟩ := hsub.2 (by omega)
  rw [hsA] at hSl hsub
  have hC : 2 ≤ c - (p + 1) := by omega
  generalize c - (p + 1) = C at *
  have HS : Hid (∀ W, Calls Tryz.prog 140 #[.int .i64 (b1 xs p)] W fun e w' => e = .returned (.int .i64 7) ∧ W = w') := hide fun W => by have := shape_any (b1 xs p) W; rwa [hs] at this
  have HO : Hid (∀ W, Calls Tryz.prog 157 #[.int .i64 7] W fun e w' => e = .returned (.int .i64 2) ∧ W = w') := hide (ioperand_any 7)
  have hx := b1_bd hb p
  have C1 : Hid (∀ W, Below w.heap.size w W → Calls Tryz.prog 165 #[.slice (some ⟨gs, os, none⟩) 2 C] W fun e w' => e = .returned (.int .i64 (b1 ys 0)) ∧ W = w') := hide fun W hW => iu1_any B _ 2 C ys W (hsub.below (hW.mono hB)) (by omega) hyb
  have C2 : Hid (∀ W, Below w.heap.size w W → Calls Tryz.prog 164 #[.slice (some ⟨gs, os + 1, none⟩) 1 (C - 1)] W fun e w' => e = .returned (.int .i64 (sg 8 (b1 ys 1))) ∧ W = w') := hide fun W hW => by
    have h2 := (hsub.below (hW.mono hB)).from (c := C) (i := 1) (by omega) hC
    have h3 := is1_any B _ (2 - 1) (C - 1) (ys.drop 1) W h2 (by omega) (hyb.drop 1)
    rw [b1_drop] at h3
    simpa [subA, show C ≠ 1 by omega, add_none] using h3
  generalize b1 xs p = x at *
  generalize b1 ys 0 = y0 at *
  generalize sg 8 (b1 ys 1) = y1 at *
  have hp2 : (p : Int) < n := by omega
  have hlt : ¬ ((n : Int) - (p : Int) < 3) := by omega
  have hC1 : C ≠ 1 := by omega
  clear h hb c0 hsA hsub hys hyb
  go_enter Tryz.func144, Tryz.ntmps144
  go_wp2_with fail
  refine (HS.out _).mono ?_
  rintro e w1 ⟨rfl, rfl⟩
  go_wp2_with fail
  refine (HO.out _).mono ?_
  rintro e w1 ⟨rfl, rfl⟩
  go_wp2_with fail
  go_region_with ((first
    | (go_at_call 165; refine (C1.out _ ?_).mono ?_; (repeat (first | with_reducible exact Below.refl _ _ | with_reducible refine Below.drew ?_ | with_reducible refine below_drewN ?_ _ | ((with_reducible refine Below.setCell ?_ ?hp _); case hp => simp) | ((with_reducible refine Below.alloc ?_ ?hp _); case hp => first | omega | (simp; done) | (simp; omega)))); rintro e w2 ⟨rfl, rfl⟩)
    | (go_at_call 164; refine (C2.out _ ?_).mono ?_; (repeat (first | with_reducible exact Below.refl _ _ | with_reducible refine Below.drew ?_ | with_reducible refine below_drewN ?_ _ | ((with_reducible refine Below.setCell ?_ ?hp _); case hp => simp) | ((with_reducible refine Below.alloc ?_ ?hp _); case hp => first | omega | (simp; done) | (simp; omega)))); rintro e w2 ⟨rfl, rfl⟩)))
  all_goals go_wp2_with fail
  all_goals
    refine bodyPost_ret (v := .tuple #[insV p 3 x false y0 y1, .bool true]) ?_ rfl ⟨rfl, ?_⟩
    · simp [results, Tryz.results144, go_sem]
      rfl
    · repeat (first | with_reducible exact Below.refl _ _ | with_reducible refine Below.drew ?_ | with_reducible refine below_drewN ?_ _ | ((with_reducible refine Below.setCell ?_ ?hp _); case hp => simp) | ((with_reducible refine Below.alloc ?_ ?hp _); case hp => first | omega | (simp; done) | (simp; omega)))

theorem plain_8 (B : Nat) (A : Option Addr) (n c p : Nat) (xs : List Int) (w : World) (h : Rd w B A n (bys xs)) (hB : B ≤ w.heap.size) (hb : IsBytes xs) (hp : p < n) (hc : n ≤ c) (hn : n ≤ 140737488355328) (hs : shapeT (b1 xs p) = 8) (hl : 1 + 2 ≤ n - p) :
    Calls Tryz.prog 144 #[.slice A n c, .int .i64 p] w fun e w' => e = .returned (plainR 8 xs p) ∧ Below w.heap.size w w' := by
  have hxl : xs.length = n := by have := h.1; rwa [bys_len] at this
  obtain ⟨ys, hys⟩ : ∃ ys, ys = (xs.drop (p + 1)).take 2 := ⟨_, rfl⟩
  have hR : plainR 8 xs p = .tuple #[insV p 3 (b1 xs p) false (p + sg 16 (b2 ys 0)) 0, .bool true] := by
    unfold plainR
    rw [if_neg (by rw [hxl]; exact Nat.not_lt.2 hl)]
    rw [show opB 8 = 2 from rfl, ← hys]
    rfl
  rw [hR]
  clear hR
  have hyb : IsBytes ys := by rw [hys]; exact (hb.drop _).take _
  obtain ⟨g, o, rfl, hg, _⟩ := h.2 (by omega)
  obtain ⟨_, _, he, c0⟩ := rd_b1 h hp
  cases he
  have ca := cell_alloc c0 (by omega)
  have hSl := slice_sub (some ⟨g, o, none⟩) n c (p + 1) (p + 3) (by omega) (by omega)
  rw [show p + 3 - (p + 1) = 2 by omega] at hSl
  have hsub := h.sub (c := c) (i := p + 1) (j := p + 3) (by omega) (by omega) hc
  rw [show p + 3 - (p + 1) = 2 by omega, ← hys] at hsub
  rw [show ((p + 1 : Nat) : Int) = (p : Int) + 1 by omega, show ((p + 3 : Nat) : Int) = (p : Int) + 3 by omega] at hSl
  obtain ⟨gs, os, hsA, hgs, _⟩ := hsub.2 (by omega)
  rw [hsA] at hSl hsub
  have hC : 2 ≤ c - (p + 1) := by omega
  generalize c - (p + 1) = C at *
  have HS : Hid (∀ W, Calls Tryz.prog 140 #[.int .i64 (b1 xs p)] W fun e w' => e = .returned (.int .i64 8) ∧ W = w') := hide fun W => by have := shape_any (b1 xs p) W; rwa [hs] at this
  have HO : Hid (∀ W, Calls Tryz.prog 157 #[.int .i64 8] W fun e w' => e = .returned (.int .i64 2) ∧ W = w') := hide (ioperand_any 8)
  have hx := b1_bd hb p
  have C1 : Hid (∀ W, Below w.heap.size w W → Calls Tryz.prog 160 #[.slice (some ⟨gs, os, none⟩) 2 C] W fun e w' => e = .returned (.int .i64 (sg 16 (b2 ys 0))) ∧ ∃ q, w' = W.drewN q) := hide fun W hW => is2_any B _ 2 C ys W (hsub.below (hW.mono hB)) (by omega) hyb
  have hbd := sg16_bd (b2_bd hyb 0)
  generalize b1 xs p = x at *
  generalize sg 16 (b2 ys 0) = y0 at *
  have hp2 : (p : Int) < n := by omega
  have hlt : ¬ ((n : Int) - (p : Int) < 3) := by omega
  clear h hb c0 hsA hsub hys hyb
  go_enter Tryz.func144, Tryz.ntmps144
  go_wp2_with fail
  refine (HS.out _).mono ?_
  rintro e w1 ⟨rfl, rfl⟩
  go_wp2_with fail
  refine (HO.out _).mono ?_
  rintro e w1 ⟨rfl, rfl⟩
  go_wp2_with fail
  refine (C1.out _ ?_).mono ?_
  · repeat (first | with_reducible exact Below.refl _ _ | with_reducible refine Below.drew ?_ | with_reducible refine below_drewN ?_ _ | ((with_reducible refine Below.setCell ?_ ?hp _); case hp => simp) | ((with_reducible refine Below.alloc ?_ ?hp _); case hp => first | omega | (simp; done) | (simp; omega)))
  rintro e w2 ⟨rfl, q, rfl⟩
  go_wp2_with fail
  all_goals
    refine bodyPost_ret (v := .tuple #[insV p 3 x false (p + y0) 0, .bool true]) ?_ rfl ⟨rfl, ?_⟩
    · simp [results, Tryz.results144, go_sem]
      rfl
    · repeat (first | with_reducible exact Below.refl _ _ | with_reducible refine Below.drew ?_ | with_reducible refine below_drewN ?_ _ | ((with_reducible refine Below.setCell ?_ ?hp _); case hp => simp) | ((with_reducible refine Below.alloc ?_ ?hp _); case hp => first | omega | (simp; done) | (simp; omega)))

theorem plain_9 (B : Nat) (A : Option Addr) (n c p : Nat) (xs : List Int) (w : World) (h : Rd w B A n (bys xs)) (hB : B ≤ w.heap.size) (hb : IsBytes xs) (hp : p < n) (hc : n ≤ c) (hn : n ≤ 140737488355328) (hs : shapeT (b1 xs p) = 9) (hl : 1 + 4 ≤ n - p) :
    Calls Tryz.prog 144 #[.slice A n c, .int .i64 p] w fun e w' => e = .returned (plainR 9 xs p) ∧ Below w.heap.size w w' := by
  have hxl : xs.length = n := by have := h.1; rwa [bys_len] at this
  obtain ⟨ys, hys⟩ : ∃ ys, ys = (xs.drop (p + 1)).take 4 := ⟨_, rfl⟩
  have hR : plainR 9 xs p = .tuple #[insV p 5 (b1 xs p) false (p + sg 32 (b4 ys 0)) 0, .bool true] := by
    unfold plainR
    rw [if_neg (by rw [hxl]; exact Nat.not_lt.2 hl)]
    rw [show opB 9 = 4 from rfl, ← hys]
    rfl
  rw [hR]
  clear hR
  have hyb : IsBytes ys := by rw [hys]; exact (hb.drop _).take _
  obtain ⟨g, o, rfl, hg, _⟩ := h.2 (by omega)
  obtain ⟨_, _, he, c0⟩ := rd_b1 h hp
  cases he
  have ca := cell_alloc c0 (by omega)
  have hSl := slice_sub (some ⟨g, o, none⟩) n c (p + 1) (p + 5) (by omega) (by omega)
  rw [show p + 5 - (p + 1) = 4 by omega] at hSl
  have hsub := h.sub (c := c) (i := p + 1) (j := p + 5) (by omega) (by omega) hc
  rw [show p + 5 - (p + 1) = 4 by omega, ← hys] at hsub
  rw [show ((p + 1 : Nat) : Int) = (p : Int) + 1 by omega, show ((p + 5 : Nat) : Int) = (p : Int) + 5 by omega] at hSl
  obtain ⟨gs, os, hsA, hgs, _⟩ := hsub.2 (by omega)
  rw [hsA] at hSl hsub
  have hC : 4 ≤ c - (p + 1) := by omega
  generalize c - (p + 1) = C at *
  have HS : Hid (∀ W, Calls Tryz.prog 140 #[.int .i64 (b1 xs p)] W fun e w' => e = .returned (.int .i64 9) ∧ W = w') := hide fun W => by have := shape_any (b1 xs p) W; rwa [hs] at this
  have HO : Hid (∀ W, Calls Tryz.prog 157 #[.int .i64 9] W fun e w' => e = .returned (.int .i64 4) ∧ W = w') := hide (ioperand_any 9)
  have hx := b1_bd hb p
  have C1 : Hid (∀ W, Below w.heap.size w W → Calls Tryz.prog 162 #[.slice (some ⟨gs, os, none⟩) 4 C] W fun e w' => e = .returned (.int .i64 (sg 32 (b4 ys 0))) ∧ ∃ q, w' = W.drewN q) := hide fun W hW => is4_any B _ 4 C ys W (hsub.below (hW.mono hB)) (by omega) hC hyb
  have hbd := sg32_bd (b4_bd hyb 0)
  generalize b1 xs p = x at *
  generalize sg 32 (b4 ys 0) = y0 at *
  have hp2 : (p : Int) < n := by omega
  have hlt : ¬ ((n : Int) - (p : Int) < 5) := by omega
  clear h hb c0 hsA hsub hys hyb
  go_enter Tryz.func144, Tryz.ntmps144
  go_wp2_with fail
  refine (HS.out _).mono ?_
  rintro e w1 ⟨rfl, rfl⟩
  go_wp2_with fail
  refine (HO.out _).mono ?_
  rintro e w1 ⟨rfl, rfl⟩
  go_wp2_with fail
  refine (C1.out _ ?_).mono ?_
  · repeat (first | with_reducible exact Below.refl _ _ | with_reducible refine Below.drew ?_ | with_reducible refine below_drewN ?_ _ | ((with_reducible refine Below.setCell ?_ ?hp _); case hp => simp) | ((with_reducible refine Below.alloc ?_ ?hp _); case hp => first | omega | (simp; done) | (simp; omega)))
  rintro e w2 ⟨rfl, q, rfl⟩
  go_wp2_with fail
  all_goals
    refine bodyPost_ret (v := .tuple #[insV p 5 x false (p + y0) 0, .bool true]) ?_ rfl ⟨rfl, ?_⟩
    · simp [results, Tryz.results144, go_sem]
      rfl
    · repeat (first | with_reducible exact Below.refl _ _ | with_reducible refine Below.drew ?_ | with_reducible refine below_drewN ?_ _ | ((with_reducible refine Below.setCell ?_ ?hp _); case hp => simp) | ((with_reducible refine Below.alloc ?_ ?hp _); case hp => first | omega | (simp; done) | (simp; omega)))

theorem plain_10 (B : Nat) (A : Option Addr) (n c p : Nat) (xs : List Int) (w : World) (h : Rd w B A n (bys xs)) (hB : B ≤ w.heap.size) (hb : IsBytes xs) (hp : p < n) (hc : n ≤ c) (hn : n ≤ 140737488355328) (hs : shapeT (b1 xs p) = 10) (hl : 1 + 3 ≤ n - p) :
    Calls Tryz.prog 144 #[.slice A n c, .int .i64 p] w fun e w' => e = .returned (plainR 10 xs p) ∧ Below w.heap.size w w' := by
  have hxl : xs.length = n := by have := h.1; rwa [bys_len] at this
  obtain ⟨ys, hys⟩ : ∃ ys, ys = (xs.drop (p + 1)).take 3 := ⟨_, rfl⟩
  have hR : plainR 10 xs p = .tuple #[insV p 4 (b1 xs p) false (b2 ys 0) (b1 ys 2), .bool true] := by
    unfold plainR
    rw [if_neg (by rw [hxl]; exact Nat.not_lt.2 hl)]
    rw [show opB 10 = 3 from rfl, ← hys]
    rfl
  rw [hR]
  clear hR
  have hyb : IsBytes ys := by rw [hys]; exact (hb.drop _).take _
  obtain ⟨g, o, rfl, hg, _⟩ := h.2 (by omega)
  obtain ⟨_, _, he, c0⟩ := rd_b1 h hp
  cases he
  have ca := cell_alloc c0 (by omega)
  have hSl := slice_sub (some ⟨g, o, none⟩) n c (p + 1) (p + 4) (by omega) (by omega)
  rw [show p + 4 - (p + 1) = 3 by omega] at hSl
  have hsub := h.sub (c := c) (i := p + 1) (j := p + 4) (by omega) (by omega) hc
  rw [show p + 4 - (p + 1) = 3 by omega, ← hys] at hsub
  rw [show ((p + 1 : Nat) : Int) = (p : Int) + 1 by omega, show ((p + 4 : Nat) : Int) = (p : Int) + 4 by omega] at hSl
  obtain ⟨gs, os, hsA, hgs, _⟩ := hsub.2 (by omega)
  rw [hsA] at hSl hsub
  have hC : 3 ≤ c - (p + 1) := by omega
  generalize c - (p + 1) = C at *
  have HS : Hid (∀ W, Calls Tryz.prog 140 #[.int .i64 (b1 xs p)] W fun e w' => e = .returned (.int .i64 10) ∧ W = w') := hide fun W => by have := shape_any (b1 xs p) W; rwa [hs] at this
  have HO : Hid (∀ W, Calls Tryz.prog 157 #[.int .i64 10] W fun e w' => e = .returned (.int .i64 3) ∧ W = w') := hide (ioperand_any 10)
  have hx := b1_bd hb p
  have C1 : Hid (∀ W, Below w.heap.size w W → Calls Tryz.prog 159 #[.slice (some ⟨gs, os, none⟩) 3 C] W fun e w' => e = .returned (.int .i64 (b2 ys 0)) ∧ ∃ q, w' = W.drewN q) := hide fun W hW => iu2_any B _ 3 C ys W (hsub.below (hW.mono hB)) (by omega) hyb
  have C2 : Hid (∀ W, Below w.heap.size w W → Calls Tryz.prog 165 #[.slice (some ⟨gs, os + 2, none⟩) 1 (C - 2)] W fun e w' => e = .returned (.int .i64 (b1 ys 2)) ∧ W = w') := hide fun W hW => by
    have h2 := (hsub.below (hW.mono hB)).from (c := C) (i := 2) (by omega) hC
    have h3 := iu1_any B _ (3 - 2) (C - 2) (ys.drop 2) W h2 (by omega) (hyb.drop 2)
    rw [b1_drop] at h3
    simpa [subA, show C ≠ 2 by omega, add_none] using h3
  generalize b1 xs p = x at *
  generalize b2 ys 0 = y0 at *
  generalize b1 ys 2 = y1 at *
  have hp2 : (p : Int) < n := by omega
  have hlt : ¬ ((n : Int) - (p : Int) < 4) := by omega
  have hC2 : C ≠ 2 := by omega
  clear h hb c0 hsA hsub hys hyb
  go_enter Tryz.func144, Tryz.ntmps144
  go_wp2_with fail
  refine (HS.out _).mono ?_
  rintro e w1 ⟨rfl, rfl⟩
  go_wp2_with fail
  refine (HO.out _).mono ?_
  rintro e w1 ⟨rfl, rfl⟩
  go_wp2_with fail
  go_region_with ((first
    | (go_at_call 159; refine (C1.out _ ?_).mono ?_; (repeat (first | with_reducible exact Below.refl _ _ | with_reducible refine Below.drew ?_ | with_reducible refine below_drewN ?_ _ | ((with_reducible refine Below.setCell ?_ ?hp _); case hp => simp) | ((with_reducible refine Below.alloc ?_ ?hp _); case hp => first | omega | (simp; done) | (simp; omega)))); rintro e w2 ⟨rfl, q, rfl⟩)
    | (go_at_call 165; refine (C2.out _ ?_).mono ?_; (repeat (first | with_reducible exact Below.refl _ _ | with_reducible refine Below.drew ?_ | with_reducible refine below_drewN ?_ _ | ((with_reducible refine Below.setCell ?_ ?hp _); case hp => simp) | ((with_reducible refine Below.alloc ?_ ?hp _); case hp => first | omega | (simp; done) | (simp; omega)))); rintro e w2 ⟨rfl, rfl⟩)))
  all_goals go_wp2_with fail
  all_goals
    refine bodyPost_ret (v := .tuple #[insV p 4 x false y0 y1, .bool true]) ?_ rfl ⟨rfl, ?_⟩
    · simp [results, Tryz.results144, go_sem]
      rfl
    · repeat (first | with_reducible exact Below.refl _ _ | with_reducible refine Below.drew ?_ | with_reducible refine below_drewN ?_ _ | ((with_reducible refine Below.setCell ?_ ?hp _); case hp => simp) | ((with_reducible refine Below.alloc ?_ ?hp _); case hp => first | omega | (simp; done) | (simp; omega)))

theorem plain_11 (B : Nat) (A : Option Addr) (n c p : Nat) (xs : List Int) (w : World) (h : Rd w B A n (bys xs)) (hB : B ≤ w.heap.size) (hb : IsBytes xs) (hp : p < n) (hc : n ≤ c) (hn : n ≤ 140737488355328) (hs : shapeT (b1 xs p) = 11) (hl : 1 + 4 ≤ n - p) :
    Calls Tryz.prog 144 #[.slice A n c, .int .i64 p] w fun e w' => e = .returned (plainR 11 xs p) ∧ Below w.heap.size w w' := by
  have hxl : xs.length = n := by have := h.1; rwa [bys_len] at this
  obtain ⟨ys, hys⟩ : ∃ ys, ys = (xs.drop (p + 1)).take 4 := ⟨_, rfl⟩
  have hR : plainR 11 xs p = if b1 ys 3 == 0 then .tuple #[insV p 5 (b1 xs p) false (b2 ys 0) (b1 ys 2), .bool true] else noV6 := by
    unfold plainR
    rw [if_neg (by rw [hxl]; exact Nat.not_lt.2 hl)]
    rw [show opB 11 = 4 from rfl, ← hys]
    rw [show operands 11 (b1 xs p) p ys = if b1 ys 3 == 0 then some (b2 ys 0, b1 ys 2) else none from rfl]
    generalize (b1 ys 3 == 0) = t
    cases t <;> rfl
  rw [hR]
  clear hR
  have hyb : IsBytes ys := by rw [hys]; exact (hb.drop _).take _
  obtain ⟨g, o, rfl, hg, _⟩ := h.2 (by omega)
  obtain ⟨_, _, he, c0⟩ := rd_b1 h hp
  cases he
  have ca := cell_alloc c0 (by omega)
  have hSl := slice_sub (some ⟨g, o, none⟩) n c (p + 1) (p + 5) (by omega) (by omega)
  rw [show p + 5 - (p + 1) = 4 by omega] at hSl
  have hsub := h.sub (c := c) (i := p + 1) (j := p + 5) (by omega) (by omega) hc
  rw [show p + 5 - (p + 1) = 4 by omega, ← hys] at hsub
  rw [show ((p + 1 : Nat) : Int) = (p : Int) + 1 by omega, show ((p + 5 : Nat) : Int) = (p : Int) + 5 by omega] at hSl
  obtain ⟨gs, os, hsA, hgs, _⟩ := hsub.2 (by omega)
  rw [hsA] at hSl hsub
  have hC : 4 ≤ c - (p + 1) := by omega
  generalize c - (p + 1) = C at *
  have HS : Hid (∀ W, Calls Tryz.prog 140 #[.int .i64 (b1 xs p)] W fun e w' => e = .returned (.int .i64 11) ∧ W = w') := hide fun W => by have := shape_any (b1 xs p) W; rwa [hs] at this
  have HO : Hid (∀ W, Calls Tryz.prog 157 #[.int .i64 11] W fun e w' => e = .returned (.int .i64 4) ∧ W = w') := hide (ioperand_any 11)
  have hx := b1_bd hb p
  have hz := b1_bd hyb 3
  obtain ⟨_, _, he, c3⟩ := rd_b1 hsub (show 3 < 4 by omega)
  cases he
  have ca3 : ∀ ob ob2, ((w.alloc ob).alloc ob2).cell? ⟨gs, os + 3, none⟩ = some (.int .u8 (b1 ys 3)) := fun ob ob2 => cell_alloc (cell_alloc c3 (by omega) ob) (by simp; omega) ob2
  clear c3
  have C1 : Hid (∀ W, Below w.heap.size w W → Calls Tryz.prog 159 #[.slice (some ⟨gs, os, none⟩) 4 C] W fun e w' => e = .returned (.int .i64 (b2 ys 0)) ∧ ∃ q, w' = W.drewN q) := hide fun W hW => iu2_any B _ 4 C ys W (hsub.below (hW.mono hB)) (by omega) hyb
  have C2 : Hid (∀ W, Below w.heap.size w W → Calls Tryz.prog 165 #[.slice (some ⟨gs, os + 2, none⟩) 2 (C - 2)] W fun e w' => e = .returned (.int .i64 (b1 ys 2)) ∧ W = w') := hide fun W hW => by
    have h2 := (hsub.below (hW.mono hB)).from (c := C) (i := 2) (by omega) hC
    have h3 := iu1_any B _ (4 - 2) (C - 2) (ys.drop 2) W h2 (by omega) (hyb.drop 2)
    rw [b1_drop] at h3
    simpa [subA, show C ≠ 2 by omega, add_none] using h3
  generalize b1 xs p = x at *
  generalize b2 ys 0 = y0 at *
  generalize b1 ys 2 = y1 at *
  generalize b1 ys 3 = z at *
  have hp2 : (p : Int) < n := by omega
  have hlt : ¬ ((n : Int) - (p : Int) < 5) := by omega
  have hC2 : C ≠ 2 := by omega
  clear h hb c0 hsA hsub hys hyb
  by_cases h0 : z = 0
  · subst h0
    rw [if_pos (show ((0 : Int) == 0) = true from rfl)]
    go_enter Tryz.func144, Tryz.ntmps144
    go_wp2_with fail
    refine (HS.out _).mono ?_
    rintro e w1 ⟨rfl, rfl⟩
    go_wp2_with fail
    refine (HO.out _).mono ?_
    rintro e w1 ⟨rfl, rfl⟩
    go_wp2_with fail
    go_region_with ((first
      | (go_at_call 159; refine (C1.out _ ?_).mono ?_; (repeat (first | with_reducible exact Below.refl _ _ | with_reducible refine Below.drew ?_ | with_reducible refine below_drewN ?_ _ | ((with_reducible refine Below.setCell ?_ ?hp _); case hp => simp) | ((with_reducible refine Below.alloc ?_ ?hp _); case hp => first | omega | (simp; done) | (simp; omega)))); rintro e w2 ⟨rfl, q, rfl⟩)
      | (go_at_call 165; refine (C2.out _ ?_).mono ?_; (repeat (first | with_reducible exact Below.refl _ _ | with_reducible refine Below.drew ?_ | with_reducible refine below_drewN ?_ _ | ((with_reducible refine Below.setCell ?_ ?hp _); case hp => simp) | ((with_reducible refine Below.alloc ?_ ?hp _); case hp => first | omega | (simp; done) | (simp; omega)))); rintro e w2 ⟨rfl, rfl⟩)))
    all_goals go_wp2_with fail
    all_goals
      refine bodyPost_ret (v := .tuple #[insV p 5 x false y0 y1, .bool true]) ?_ rfl ⟨rfl, ?_⟩
      · simp [results, Tryz.results144, go_sem]
        rfl
      · repeat (first | with_reducible exact Below.refl _ _ | with_reducible refine Below.drew ?_ | with_reducible refine below_drewN ?_ _ | ((with_reducible refine Below.setCell ?_ ?hp _); case hp => simp) | ((with_reducible refine Below.alloc ?_ ?hp _); case hp => first | omega | (simp; done) | (simp; omega)))
  · rw [if_neg (by simpa using h0)]
    clear C1 C2
    go_enter Tryz.func144, Tryz.ntmps144
    go_wp2_with fail
    refine (HS.out _).mono ?_
    rintro e w1 ⟨rfl, rfl⟩
    go_wp2_with fail
    refine (HO.out _).mono ?_
    rintro e w1 ⟨rfl, rfl⟩
    go_wp2_with fail
    all_goals
      refine bodyPost_ret (v := noV6) ?_ rfl ⟨rfl, ?_⟩
      · simp [results, Tryz.results144, go_sem]
        rfl
      · repeat (first | with_reducible exact Below.refl _ _ | with_reducible refine Below.drew ?_ | with_reducible refine below_drewN ?_ _ | ((with_reducible refine Below.setCell ?_ ?hp _); case hp => simp) | ((with_reducible refine Below.alloc ?_ ?hp _); case hp => first | omega | (simp; done) | (simp; omega)))

end Go.Proofs.YtbdbcalmjbmflaaGreatDoor
namespace Go.Proofs.YtbdbcalmjbmflaaGreatDoor
open Go.RowKit

def wideR (xs : List Int) (p : Nat) : Value :=
  let op := b1 xs (p + 1)
  let n := if op == 132 then 4 else 2
  if xs.length - (p + 1) < 1 + n || !wideT op then noV6
  else .tuple #[insV p (2 + n) op true (b2 xs (p + 2)) (if op == 132 then sg 16 (b2 xs (p + 4)) else 0), .bool true]

theorem wide_shape {op : Int} (h : wideT op = true) : op = 132 ∨ (op ≠ 132 ∧ shapeT op = 5) := by
  simp only [wideT, List.contains_cons, List.contains_nil, Bool.or_false, Bool.or_eq_true, beq_iff_eq] at h
  rcases h with rfl | rfl | rfl | rfl | rfl | rfl | rfl
  all_goals first | exact .inl rfl | exact .inr ⟨by decide, rfl⟩

theorem wide_none (A : Option Addr) (n c p : Nat) (w : World) (hl : n - (p + 1) = 0) (hp : p < n) (hn : n ≤ 140737488355328) :
    Calls Tryz.prog 141 #[.slice A n c, .int .i64 p] w fun e w' => e = .returned noV6 ∧ Below w.heap.size w w' := by
  have hSl := slice_from6 A n c (p + 1) (by omega)
  rw [show ((p + 1 : Nat) : Int) = (p : Int) + 1 by omega, hl] at hSl
  generalize c - (p + 1) = C at *
  generalize subA c (p + 1) A = SA at *
  go_enter Tryz.func141, Tryz.ntmps141
  go_wp2_with fail
  refine bodyPost_ret (v := noV6) ?_ rfl ⟨rfl, ?_⟩
  · simp [results, Tryz.results141, go_sem]
    rfl
  · repeat (first | with_reducible exact Below.refl _ _ | with_reducible refine Below.drew ?_ | with_reducible refine below_drewN ?_ _ | ((with_reducible refine Below.setCell ?_ ?hp _); case hp => simp) | ((with_reducible refine Below.alloc ?_ ?hp _); case hp => first | omega | (simp; done) | (simp; omega)))

theorem wide_no (B : Nat) (A : Option Addr) (n c p : Nat) (xs : List Int) (w : World) (h : Rd w B A n (bys xs)) (hB : B ≤ w.heap.size) (hb : IsBytes xs) (hp : p + 1 < n) (hc : n ≤ c) (hn : n ≤ 140737488355328) (hw : wideT (b1 xs (p + 1)) = false) :
    Calls Tryz.prog 141 #[.slice A n c, .int .i64 p] w fun e w' => e = .returned noV6 ∧ Below w.heap.size w w' := by
  have hSl := slice_from6 A n c (p + 1) (by omega)
  rw [show ((p + 1 : Nat) : Int) = (p : Int) + 1 by omega] at hSl
  have hsub := h.from (c := c) (i := p + 1) (by omega) hc
  obtain ⟨gs, os, hsA, hgs, _⟩ := hsub.2 (by omega)
  rw [hsA] at hSl hsub
  obtain ⟨_, _, he, c0⟩ := rd_b1 hsub (show 0 < n - (p + 1) by omega)
  cases he
  rw [b1_drop, Nat.add_zero, Nat.add_zero] at c0
  have ca := cell_alloc c0 (by omega)
  have hx := b1_bd hb (p + 1)
  have HS := hide (shape_any (b1 xs (p + 1)))
  have HO := hide ioperand_any
  have HW : Hid (∀ W, Calls Tryz.prog 158 #[.int .i64 (b1 xs (p + 1))] W fun e w' => e = .returned (.bool false) ∧ W = w') := hide fun W => by have := iwidens_any (b1 xs (p + 1)) W; rwa [hw] at this
  have hq := opB_le (shapeT (b1 xs (p + 1)))
  generalize shapeT (b1 xs (p + 1)) = s at *
  have HO2 := hide (HO.out s)
  clear HO
  generalize opB s = q at *
  generalize b1 xs (p + 1) = x at *
  have hR : 1 ≤ n - (p + 1) := by omega
  have hR2 : n - (p + 1) ≤ 140737488355328 := by omega
  generalize c - (p + 1) = C at *
  generalize n - (p + 1) = R at *
  have hR0 : ((R : Int) == 0) = false := by simp; omega
  have hR3 : (0 : Int) < R := by omega
  have hp2 : (p : Int) < n := by omega
  clear h hb c0 hsA hsub
  go_enter Tryz.func141, Tryz.ntmps141
  go_wp2_with fail
  refine (HS.out _).mono ?_
  rintro e w1 ⟨rfl, rfl⟩
  go_wp2_with fail
  refine (HO2.out _).mono ?_
  rintro e w1 ⟨rfl, rfl⟩
  go_wp2_with fail
  refine (HW.out _).mono ?_
  rintro e w1 ⟨rfl, rfl⟩
  go_wp2_with fail
  refine bodyPost_ret (v := noV6) ?_ rfl ⟨rfl, ?_⟩
  · simp [results, Tryz.results141, go_sem]
    rfl
  · repeat (first | with_reducible exact Below.refl _ _ | with_reducible refine Below.drew ?_ | with_reducible refine below_drewN ?_ _ | ((with_reducible refine Below.setCell ?_ ?hp _); case hp => simp) | ((with_reducible refine Below.alloc ?_ ?hp _); case hp => first | omega | (simp; done) | (simp; omega)))
theorem wide_short4 (B : Nat) (A : Option Addr) (n c p : Nat) (xs : List Int) (w : World) (h : Rd w B A n (bys xs)) (hB : B ≤ w.heap.size) (hb : IsBytes xs) (hp : p + 1 < n) (hc : n ≤ c) (hn : n ≤ 140737488355328) (hw : wideT (b1 xs (p + 1)) = true) (h132 : b1 xs (p + 1) = 132) (hs : shapeT (b1 xs (p + 1)) = 7) (hl : n - (p + 1) < 1 + 4) :
    Calls Tryz.prog 141 #[.slice A n c, .int .i64 p] w fun e w' => e = .returned (noV6) ∧ Below w.heap.size w w' := by
  have hSl := slice_from6 A n c (p + 1) (by omega)
  rw [show ((p + 1 : Nat) : Int) = (p : Int) + 1 by omega] at hSl
  have hsub := h.from (c := c) (i := p + 1) (by omega) hc
  obtain ⟨gs, os, hsA, hgs, _⟩ := hsub.2 (by omega)
  rw [hsA] at hSl hsub
  obtain ⟨_, _, he, c0⟩ := rd_b1 hsub (show 0 < n - (p + 1) by omega)
  cases he
  rw [b1_drop, Nat.add_zero, Nat.add_zero] at c0
  have ca := cell_alloc c0 (by omega)
  have hx := b1_bd hb (p + 1)
  have HS : Hid (∀ W, Calls Tryz.prog 140 #[.int .i64 (b1 xs (p + 1))] W fun e w' => e = .returned (.int .i64 7) ∧ W = w') := hide fun W => by have := shape_any (b1 xs (p + 1)) W; rwa [hs] at this
  have HO : Hid (∀ W, Calls Tryz.prog 157 #[.int .i64 7] W fun e w' => e = .returned (.int .i64 2) ∧ W = w') := hide (ioperand_any 7)
  have HW : Hid (∀ W, Calls Tryz.prog 158 #[.int .i64 (b1 xs (p + 1))] W fun e w' => e = .returned (.bool true) ∧ W = w') := hide fun W => by have := iwidens_any (b1 xs (p + 1)) W; rwa [hw] at this
  have hR : 1 ≤ n - (p + 1) := by omega
  have hR2 : n - (p + 1) ≤ 140737488355328 := by omega
  have hC : n - (p + 1) ≤ c - (p + 1) := by omega
  have hbd : IsBytes (xs.drop (p + 1)) := hb.drop _
  generalize b1 xs (p + 1) = x at *
  generalize c - (p + 1) = C at *
  generalize n - (p + 1) = R at *
  have hR0 : ((R : Int) == 0) = false := by simp; omega
  have hR3 : (0 : Int) < R := by omega
  have hp2 : (p : Int) < n := by omega
  have hlt :  (R : Int) < 5 := by omega
  clear h hb hbd c0 hsA hsub
  subst h132
  go_enter Tryz.func141, Tryz.ntmps141
  go_wp2_with fail
  refine (HS.out _).mono ?_
  rintro e w1 ⟨rfl, rfl⟩
  go_wp2_with fail
  refine (HO.out _).mono ?_
  rintro e w1 ⟨rfl, rfl⟩
  go_wp2_with fail
  refine (HW.out _).mono ?_
  rintro e w1 ⟨rfl, rfl⟩
  go_wp2_with fail
  refine bodyPost_ret (v := noV6) ?_ rfl ⟨rfl, ?_⟩
  · simp [results, Tryz.results141, go_sem]
    rfl
  · repeat (first | with_reducible exact Below.refl _ _ | with_reducible refine Below.drew ?_ | with_reducible refine below_drewN ?_ _ | ((with_reducible refine Below.setCell ?_ ?hp _); case hp => simp) | ((with_reducible refine Below.alloc ?_ ?hp _); case hp => first | omega | (simp; done) | (simp; omega)))

theorem wide_short2 (B : Nat) (A : Option Addr) (n c p : Nat) (xs : List Int) (w : World) (h : Rd w B A n (bys xs)) (hB : B ≤ w.heap.size) (hb : IsBytes xs) (hp : p + 1 < n) (hc : n ≤ c) (hn : n ≤ 140737488355328) (hw : wideT (b1 xs (p + 1)) = true) (h132 : b1 xs (p + 1) ≠ 132) (hs : shapeT (b1 xs (p + 1)) = 5) (hl : n - (p + 1) < 1 + 2) :
    Calls Tryz.prog 141 #[.slice A n c, .int .i64 p] w fun e w' => e = .returned (noV6) ∧ Below w.heap.size w w' := by
  have hSl := slice_from6 A n c (p + 1) (by omega)
  rw [show ((p + 1 : Nat) : Int) = (p : Int) + 1 by omega] at hSl
  have hsub := h.from (c := c) (i := p + 1) (by omega) hc
  obtain ⟨gs, os, hsA, hgs, _⟩ := hsub.2 (by omega)
  rw [hsA] at hSl hsub
  obtain ⟨_, _, he, c0⟩ := rd_b1 hsub (show 0 < n - (p + 1) by omega)
  cases he
  rw [b1_drop, Nat.add_zero, Nat.add_zero] at c0
  have ca := cell_alloc c0 (by omega)
  have hx := b1_bd hb (p + 1)
  have HS : Hid (∀ W, Calls Tryz.prog 140 #[.int .i64 (b1 xs (p + 1))] W fun e w' => e = .returned (.int .i64 5) ∧ W = w') := hide fun W => by have := shape_any (b1 xs (p + 1)) W; rwa [hs] at this
  have HO : Hid (∀ W, Calls Tryz.prog 157 #[.int .i64 5] W fun e w' => e = .returned (.int .i64 1) ∧ W = w') := hide (ioperand_any 5)
  have HW : Hid (∀ W, Calls Tryz.prog 158 #[.int .i64 (b1 xs (p + 1))] W fun e w' => e = .returned (.bool true) ∧ W = w') := hide fun W => by have := iwidens_any (b1 xs (p + 1)) W; rwa [hw] at this
  have hR : 1 ≤ n - (p + 1) := by omega
  have hR2 : n - (p + 1) ≤ 140737488355328 := by omega
  have hC : n - (p + 1) ≤ c - (p + 1) := by omega
  have hbd : IsBytes (xs.drop (p + 1)) := hb.drop _
  generalize b1 xs (p + 1) = x at *
  generalize c - (p + 1) = C at *
  generalize n - (p + 1) = R at *
  have hR0 : ((R : Int) == 0) = false := by simp; omega
  have hR3 : (0 : Int) < R := by omega
  have hp2 : (p : Int) < n := by omega
  have hlt :  (R : Int) < 3 := by omega
  clear h hb hbd c0 hsA hsub
  have h2 : (x == 132) = false := by simpa using h132
  go_enter Tryz.func141, Tryz.ntmps141
  go_wp2_with fail
  refine (HS.out _).mono ?_
  rintro e w1 ⟨rfl, rfl⟩
  go_wp2_with fail
  refine (HO.out _).mono ?_
  rintro e w1 ⟨rfl, rfl⟩
  go_wp2_with fail
  refine (HW.out _).mono ?_
  rintro e w1 ⟨rfl, rfl⟩
  go_wp2_with fail
  refine bodyPost_ret (v := noV6) ?_ rfl ⟨rfl, ?_⟩
  · simp [results, Tryz.results141, go_sem]
    rfl
  · repeat (first | with_reducible exact Below.refl _ _ | with_reducible refine Below.drew ?_ | with_reducible refine below_drewN ?_ _ | ((with_reducible refine Below.setCell ?_ ?hp _); case hp => simp) | ((with_reducible refine Below.alloc ?_ ?hp _); case hp => first | omega | (simp; done) | (simp; omega)))

theorem wide_long4 (B : Nat) (A : Option Addr) (n c p : Nat) (xs : List Int) (w : World) (h : Rd w B A n (bys xs)) (hB : B ≤ w.heap.size) (hb : IsBytes xs) (hp : p + 1 < n) (hc : n ≤ c) (hn : n ≤ 140737488355328) (hw : wideT (b1 xs (p + 1)) = true) (h132 : b1 xs (p + 1) = 132) (hs : shapeT (b1 xs (p + 1)) = 7) (hl : 1 + 4 ≤ n - (p + 1)) :
    Calls Tryz.prog 141 #[.slice A n c, .int .i64 p] w fun e w' => e = .returned (.tuple #[insV p 6 (b1 xs (p + 1)) true (b2 xs (p + 2)) (sg 16 (b2 xs (p + 4))), .bool true]) ∧ Below w.heap.size w w' := by
  have hSl := slice_from6 A n c (p + 1) (by omega)
  rw [show ((p + 1 : Nat) : Int) = (p : Int) + 1 by omega] at hSl
  have hsub := h.from (c := c) (i := p + 1) (by omega) hc
  obtain ⟨gs, os, hsA, hgs, _⟩ := hsub.2 (by omega)
  rw [hsA] at hSl hsub
  obtain ⟨_, _, he, c0⟩ := rd_b1 hsub (show 0 < n - (p + 1) by omega)
  cases he
  rw [b1_drop, Nat.add_zero, Nat.add_zero] at c0
  have ca := cell_alloc c0 (by omega)
  have hx := b1_bd hb (p + 1)
  have HS : Hid (∀ W, Calls Tryz.prog 140 #[.int .i64 (b1 xs (p + 1))] W fun e w' => e = .returned (.int .i64 7) ∧ W = w') := hide fun W => by have := shape_any (b1 xs (p + 1)) W; rwa [hs] at this
  have HO : Hid (∀ W, Calls Tryz.prog 157 #[.int .i64 7] W fun e w' => e = .returned (.int .i64 2) ∧ W = w') := hide (ioperand_any 7)
  have HW : Hid (∀ W, Calls Tryz.prog 158 #[.int .i64 (b1 xs (p + 1))] W fun e w' => e = .returned (.bool true) ∧ W = w') := hide fun W => by have := iwidens_any (b1 xs (p + 1)) W; rwa [hw] at this
  have hR : 1 ≤ n - (p + 1) := by omega
  have hR2 : n - (p + 1) ≤ 140737488355328 := by omega
  have hC : n - (p + 1) ≤ c - (p + 1) := by omega
  have hbd : IsBytes (xs.drop (p + 1)) := hb.drop _
  have C1 : Hid (∀ W, Below w.heap.size w W → Calls Tryz.prog 159 #[.slice (some ⟨gs, os + 1, none⟩) (n - (p + 1) - 1) (c - (p + 1) - 1)] W fun e w' => e = .returned (.int .i64 (b2 xs (p + 2))) ∧ ∃ q, w' = W.drewN q) := hide fun W hW => by
    have h2 := (hsub.below (hW.mono hB)).from (c := c - (p + 1)) (i := 1) (by omega) hC
    have h3 := iu2_any B _ (n - (p + 1) - 1) (c - (p + 1) - 1) _ W h2 (by omega) (hbd.drop 1)
    rw [b2_drop, b2_drop] at h3
    simpa [subA, show c - (p + 1) ≠ 1 by omega, add_none] using h3
  have C2 : Hid (∀ W, Below w.heap.size w W → Calls Tryz.prog 160 #[.slice (some ⟨gs, os + 3, none⟩) (n - (p + 1) - 3) (c - (p + 1) - 3)] W fun e w' => e = .returned (.int .i64 (sg 16 (b2 xs (p + 4)))) ∧ ∃ q, w' = W.drewN q) := hide fun W hW => by
    have h2 := (hsub.below (hW.mono hB)).from (c := c - (p + 1)) (i := 3) (by omega) hC
    have h3 := is2_any B _ (n - (p + 1) - 3) (c - (p + 1) - 3) _ W h2 (by omega) (hbd.drop 3)
    rw [b2_drop, b2_drop] at h3
    simpa [subA, show c - (p + 1) ≠ 3 by omega, add_none] using h3
  generalize sg 16 (b2 xs (p + 4)) = y1 at *
  generalize b2 xs (p + 2) = y0 at *
  generalize b1 xs (p + 1) = x at *
  generalize c - (p + 1) = C at *
  generalize n - (p + 1) = R at *
  have hR0 : ((R : Int) == 0) = false := by simp; omega
  have hR3 : (0 : Int) < R := by omega
  have hp2 : (p : Int) < n := by omega
  have hlt : ¬ ( (R : Int) < 5 ) := by omega
  have hC1 : C ≠ 1 := by omega
  have hR1 : (1 : Int) ≤ R := by omega
  have hC3 : C ≠ 3 := by omega
  have hR4 : (3 : Int) ≤ R := by omega
  clear h hb hbd c0 hsA hsub
  subst h132
  go_enter Tryz.func141, Tryz.ntmps141
  go_wp2_with fail
  refine (HS.out _).mono ?_
  rintro e w1 ⟨rfl, rfl⟩
  go_wp2_with fail
  refine (HO.out _).mono ?_
  rintro e w1 ⟨rfl, rfl⟩
  go_wp2_with fail
  refine (HW.out _).mono ?_
  rintro e w1 ⟨rfl, rfl⟩
  go_wp2_with fail
  refine (C1.out _ ?_).mono ?_
  · repeat (first | with_reducible exact Below.refl _ _ | with_reducible refine Below.drew ?_ | with_reducible refine below_drewN ?_ _ | ((with_reducible refine Below.setCell ?_ ?hp _); case hp => simp) | ((with_reducible refine Below.alloc ?_ ?hp _); case hp => first | omega | (simp; done) | (simp; omega)))
  rintro e w2 ⟨rfl, q, rfl⟩
  go_wp2_with fail
  refine (C2.out _ ?_).mono ?_
  · repeat (first | with_reducible exact Below.refl _ _ | with_reducible refine Below.drew ?_ | with_reducible refine below_drewN ?_ _ | ((with_reducible refine Below.setCell ?_ ?hp _); case hp => simp) | ((with_reducible refine Below.alloc ?_ ?hp _); case hp => first | omega | (simp; done) | (simp; omega)))
  rintro e w2 ⟨rfl, q2, rfl⟩
  go_wp2_with fail
  refine bodyPost_ret (v := .tuple #[insV p 6 132 true y0 y1, .bool true]) ?_ rfl ⟨rfl, ?_⟩
  · simp [results, Tryz.results141, go_sem]
    rfl
  · repeat (first | with_reducible exact Below.refl _ _ | with_reducible refine Below.drew ?_ | with_reducible refine below_drewN ?_ _ | ((with_reducible refine Below.setCell ?_ ?hp _); case hp => simp) | ((with_reducible refine Below.alloc ?_ ?hp _); case hp => first | omega | (simp; done) | (simp; omega)))

theorem wide_long2 (B : Nat) (A : Option Addr) (n c p : Nat) (xs : List Int) (w : World) (h : Rd w B A n (bys xs)) (hB : B ≤ w.heap.size) (hb : IsBytes xs) (hp : p + 1 < n) (hc : n ≤ c) (hn : n ≤ 140737488355328) (hw : wideT (b1 xs (p + 1)) = true) (h132 : b1 xs (p + 1) ≠ 132) (hs : shapeT (b1 xs (p + 1)) = 5) (hl : 1 + 2 ≤ n - (p + 1)) :
    Calls Tryz.prog 141 #[.slice A n c, .int .i64 p] w fun e w' => e = .returned (.tuple #[insV p 4 (b1 xs (p + 1)) true (b2 xs (p + 2)) 0, .bool true]) ∧ Below w.heap.size w w' := by
  have hSl := slice_from6 A n c (p + 1) (by omega)
  rw [show ((p + 1 : Nat) : Int) = (p : Int) + 1 by omega] at hSl
  have hsub := h.from (c := c) (i := p + 1) (by omega) hc
  obtain ⟨gs, os, hsA, hgs, _⟩ := hsub.2 (by omega)
  rw [hsA] at hSl hsub
  obtain ⟨_, _, he, c0⟩ := rd_b1 hsub (show 0 < n - (p + 1) by omega)
  cases he
  rw [b1_drop, Nat.add_zero, Nat.add_zero] at c0
  have ca := cell_alloc c0 (by omega)
  have hx := b1_bd hb (p + 1)
  have HS : Hid (∀ W, Calls Tryz.prog 140 #[.int .i64 (b1 xs (p + 1))] W fun e w' => e = .returned (.int .i64 5) ∧ W = w') := hide fun W => by have := shape_any (b1 xs (p + 1)) W; rwa [hs] at this
  have HO : Hid (∀ W, Calls Tryz.prog 157 #[.int .i64 5] W fun e w' => e = .returned (.int .i64 1) ∧ W = w') := hide (ioperand_any 5)
  have HW : Hid (∀ W, Calls Tryz.prog 158 #[.int .i64 (b1 xs (p + 1))] W fun e w' => e = .returned (.bool true) ∧ W = w') := hide fun W => by have := iwidens_any (b1 xs (p + 1)) W; rwa [hw] at this
  have hR : 1 ≤ n - (p + 1) := by omega
  have hR2 : n - (p + 1) ≤ 140737488355328 := by omega
  have hC : n - (p + 1) ≤ c - (p + 1) := by omega
  have hbd : IsBytes (xs.drop (p + 1)) := hb.drop _
  have C1 : Hid (∀ W, Below w.heap.size w W → Calls Tryz.prog 159 #[.slice (some ⟨gs, os + 1, none⟩) (n - (p + 1) - 1) (c - (p + 1) - 1)] W fun e w' => e = .returned (.int .i64 (b2 xs (p + 2))) ∧ ∃ q, w' = W.drewN q) := hide fun W hW => by
    have h2 := (hsub.below (hW.mono hB)).from (c := c - (p + 1)) (i := 1) (by omega) hC
    have h3 := iu2_any B _ (n - (p + 1) - 1) (c - (p + 1) - 1) _ W h2 (by omega) (hbd.drop 1)
    rw [b2_drop, b2_drop] at h3
    simpa [subA, show c - (p + 1) ≠ 1 by omega, add_none] using h3
  generalize b2 xs (p + 2) = y0 at *
  generalize b1 xs (p + 1) = x at *
  generalize c - (p + 1) = C at *
  generalize n - (p + 1) = R at *
  have hR0 : ((R : Int) == 0) = false := by simp; omega
  have hR3 : (0 : Int) < R := by omega
  have hp2 : (p : Int) < n := by omega
  have hlt : ¬ ( (R : Int) < 3 ) := by omega
  have hC1 : C ≠ 1 := by omega
  have hR1 : (1 : Int) ≤ R := by omega
  clear h hb hbd c0 hsA hsub
  have h2 : (x == 132) = false := by simpa using h132
  go_enter Tryz.func141, Tryz.ntmps141
  go_wp2_with fail
  refine (HS.out _).mono ?_
  rintro e w1 ⟨rfl, rfl⟩
  go_wp2_with fail
  refine (HO.out _).mono ?_
  rintro e w1 ⟨rfl, rfl⟩
  go_wp2_with fail
  refine (HW.out _).mono ?_
  rintro e w1 ⟨rfl, rfl⟩
  go_wp2_with fail
  refine (C1.out _ ?_).mono ?_
  · repeat (first | with_reducible exact Below.refl _ _ | with_reducible refine Below.drew ?_ | with_reducible refine below_drewN ?_ _ | ((with_reducible refine Below.setCell ?_ ?hp _); case hp => simp) | ((with_reducible refine Below.alloc ?_ ?hp _); case hp => first | omega | (simp; done) | (simp; omega)))
  rintro e w2 ⟨rfl, q, rfl⟩
  go_wp2_with fail
  refine bodyPost_ret (v := .tuple #[insV p 4 x true y0 0, .bool true]) ?_ rfl ⟨rfl, ?_⟩
  · simp [results, Tryz.results141, go_sem]
    rfl
  · repeat (first | with_reducible exact Below.refl _ _ | with_reducible refine Below.drew ?_ | with_reducible refine below_drewN ?_ _ | ((with_reducible refine Below.setCell ?_ ?hp _); case hp => simp) | ((with_reducible refine Below.alloc ?_ ?hp _); case hp => first | omega | (simp; done) | (simp; omega)))

theorem wide_any (B : Nat) (A : Option Addr) (n c p : Nat) (xs : List Int) (w : World) (h : Rd w B A n (bys xs)) (hB : B ≤ w.heap.size) (hb : IsBytes xs) (hp : p < n) (hc : n ≤ c) (hn : n ≤ 140737488355328) :
    Calls Tryz.prog 141 #[.slice A n c, .int .i64 p] w fun e w' => e = .returned (wideR xs p) ∧ Below w.heap.size w w' := by
  have hxl : xs.length = n := by have := h.1; rwa [bys_len] at this
  have hR : wideR xs p = if n - (p + 1) < 1 + (if b1 xs (p + 1) == 132 then 4 else 2) || !wideT (b1 xs (p + 1)) then noV6
    else .tuple #[insV p (2 + ((if b1 xs (p + 1) == 132 then 4 else 2 : Nat) : Int)) (b1 xs (p + 1)) true (b2 xs (p + 2)) (if b1 xs (p + 1) == 132 then sg 16 (b2 xs (p + 4)) else 0), .bool true] := by rw [← hxl]; rfl
  rw [hR]
  by_cases h0 : n - (p + 1) = 0
  · rw [if_pos (by simp; left; split <;> omega)]
    exact wide_none A n c p w h0 hp hn
  · cases hw : wideT (b1 xs (p + 1)) with
    | false =>
      rw [if_pos (by simp)]
      exact wide_no B A n c p xs w h hB hb (by omega) hc hn hw
    | true =>
      rcases wide_shape hw with e | ⟨e1, e2⟩
      · have hs : shapeT (b1 xs (p + 1)) = 7 := by rw [e]; rfl
        rw [if_pos (show (b1 xs (p + 1) == 132) = true by simpa using e)]
        by_cases hl : n - (p + 1) < 1 + 4
        · rw [if_pos (by simpa using hl)]
          exact wide_short4 B A n c p xs w h hB hb (by omega) hc hn hw e hs hl
        · rw [if_neg (by simpa using hl)]
          have := wide_long4 B A n c p xs w h hB hb (by omega) hc hn hw e hs (by omega)
          rw [if_pos (show (b1 xs (p + 1) == 132) = true by simpa using e)]
          exact this
      · rw [if_neg (show ¬ (b1 xs (p + 1) == 132) = true by simpa using e1)]
        by_cases hl : n - (p + 1) < 1 + 2
        · rw [if_pos (by simpa using hl)]
          exact wide_short2 B A n c p xs w h hB hb (by omega) hc hn hw e1 e2 hl
        · rw [if_neg (by simpa using hl)]
          have := wide_long2 B A n c p xs w h hB hb (by omega) hc hn hw e1 e2 (by omega)
          rw [if_neg (show ¬ (b1 xs (p + 1) == 132) = true by simpa using e1)]
          exact this
end Go.Proofs.YtbdbcalmjbmflaaGreatDoor
namespace Go.Proofs.YtbdbcalmjbmflaaGreatDoor
open Go.RowKit

/-- Where a padding ends. -/
def padE (p : Nat) : Nat := p + (4 - p % 4)
theorem padE_bd (p : Nat) : p + 1 ≤ padE p ∧ padE p ≤ p + 4 := by unfold padE; omega
/-- Is the padding noughts? -/
def padZ (xs : List Int) (p : Nat) : Bool := ((xs.drop (p + 1)).take (padE p - (p + 1))).all (· == 0)
def padR (A : Option Addr) (n c : Nat) (xs : List Int) (p least : Nat) : Value :=
  if n < padE p + least || !padZ xs p then .tuple #[.slice none 0 0, .bool false] else .tuple #[.slice (subA c (padE p) A) (n - padE p) (c - padE p), .bool true]

theorem padded_any (B : Nat) (A : Option Addr) (n c p least : Nat) (xs : List Int) (w : World) (h : Rd w B A n (bys xs)) (hb : IsBytes xs) (hp : p < n) (hc : n ≤ c) (hn : n ≤ 140737488355328) (hl : least ≤ 100) :
    Calls Tryz.prog 161 #[.slice A n c, .int .i64 p, .int .i64 least] w fun e w' => e = .returned (padR A n c xs p least) ∧ w = w' := by
  have hpe : (p : Int) + 4 - (p : Int) % 4 = (padE p : Nat) := by
    unfold padE
    omega
  have he := padE_bd p
  obtain ⟨f, hf⟩ : ∃ f, padE p = f := ⟨_, rfl⟩
  rw [hf] at hpe he
  by_cases hs : n < f + least
  · have hlt : (n : Int) - (f : Int) < (least : Int) := by omega
    have HR : Hid (padR A n c xs p least = .tuple #[.slice none 0 0, .bool false]) := hide (by unfold padR; rw [if_pos (by rw [hf]; simp [hs])])
    clear h hf
    go_enter Tryz.func161, Tryz.ntmps161
    go_wp2_with fail
    go_ret2
    exact ⟨by rw [HR.out]; rfl, rfl⟩
  · have hlt : ¬ ((n : Int) - (f : Int) < (least : Int)) := by omega
    have hSl := slice_sub A n c (p + 1) f (by omega) (by omega)
    have hSf := slice_from6 A n c f (by omega)
    rw [show ((p + 1 : Nat) : Int) = (p : Int) + 1 by omega] at hSl
    have hsub := h.sub (c := c) (i := p + 1) (j := f) (by omega) (by omega) hc
    obtain ⟨ys, hys⟩ : ∃ ys, ys = (xs.drop (p + 1)).take (f - (p + 1)) := ⟨_, rfl⟩
    rw [← hys] at hsub
    have hyb : IsBytes ys := by rw [hys]; exact (hb.drop _).take _
    have HZ : Hid (padZ xs p = ys.all (· == 0)) := hide (by unfold padZ; rw [hf, hys])
    have HR : Hid (padR A n c xs p least = if ys.all (· == 0) then .tuple #[.slice (subA c f A) (n - f) (c - f), .bool true] else .tuple #[.slice none 0 0, .bool false]) := hide (by
      unfold padR; rw [hf, HZ.out]; cases ys.all (· == 0) <;> simp [hs])
    have hm : f - (p + 1) ≤ 3 := by omega
    generalize f - (p + 1) = m at *
    generalize subA c (p + 1) A = SA at *
    generalize subA c f A = SF at *
    have H := hide hsub
    have Hb := hide hyb
    have hyl : ys.length = m := by have := hsub.1; rwa [bys_len] at this
    have Hyl := hide hyl
    clear h hf hys hsub hyb hyl HZ
    go_enter Tryz.func161, Tryz.ntmps161
    go_wp2_with fail
    go_loop [28, 10] (fun i _ => ∃ j : Nat, j ≤ m ∧ i = .int .i64 j ∧ (ys.take j).all (· == 0) = true) (fun i _ => m - (intOf i).toNat)
    case atStart => exact ⟨0, by omega, rfl, rfl⟩
    case round =>
      obtain ⟨j, hj, rfl, hz⟩ := hrel
      have Hz := hide hz
      clear hz
      by_cases hlt : j < m
      · obtain ⟨gs, os, rfl, hcell⟩ := rd_b1 H.out hlt
        have hbd := b1_bd Hb.out j
        have Ht : Hid (ys.take (j + 1) = ys.take j ++ [b1 ys j]) := hide (by
          have hjl : j < ys.length := by rw [Hyl.out]; exact hlt
          rw [List.take_add_one, List.getElem?_eq_getElem hjl, b1, List.getD, List.getElem?_eq_getElem hjl]; rfl)
        have Hg : Hid (∀ y, b1 ys j = y → y ≠ 0 → ys.all (· == 0) = false) := hide fun y hy h0 => by
          have hjl : j < ys.length := by rw [Hyl.out]; exact hlt
          apply Bool.eq_false_iff.2
          intro hall
          have := List.all_eq_true.1 hall (ys[j]'hjl) (List.getElem_mem _)
          rw [b1, List.getD, List.getElem?_eq_getElem hjl] at hy
          simp at this hy
          exact h0 (hy ▸ this)
        obtain ⟨y, hy⟩ : ∃ y, b1 ys j = y := ⟨_, rfl⟩
        rw [hy] at hcell hbd Ht
        have Hg2 := hide (Hg.out y hy)
        clear hy Hg
        by_cases h0 : y = 0
        · subst h0
          go_wp2_with fail
          go_round
          case rel => exact ⟨j + 1, by omega, by go_num, by rw [Ht.out, List.all_append, Hz.out]; rfl⟩
          case measure => simp [intOf]; omega
        · go_wp2_with fail
          go_ret2
          exact ⟨by rw [HR.out, Hg2.out h0]; rfl, rfl⟩
      · obtain rfl : j = m := by omega
        have Hall : Hid (ys.all (· == 0) = true) := hide (by have := Hz.out; rwa [List.take_of_length_le (Nat.le_of_eq Hyl.out)] at this)
        go_wp2_with fail
        go_ret2
        exact ⟨by rw [HR.out, Hall.out]; rfl, rfl⟩
end Go.Proofs.YtbdbcalmjbmflaaGreatDoor
namespace Go.Proofs.YtbdbcalmjbmflaaGreatDoor
open Go.RowKit

/-- An instruction. -/
structure Ins where
  place : Int
  len : Int
  op : Int
  wide : Bool
  a : Int
  b : Int
  to : List Int
  keys : List Int
/-- The value V is a slice of numbers xs of its own, in a block from base on. -/
def Nums (w : World) (base : Nat) (k : IntKind) (t : TypeId) (V : Value) (xs : List Int) : Prop :=
  (xs = [] ∧ V = .slice none 0 0) ∨ ∃ g, base ≤ g ∧ V = .slice (some ⟨g, 0, none⟩) xs.length xs.length ∧ At w g t (xs.map (.int k))
/-- The value v is the instruction I. -/
def Ins.is (I : Ins) (w : World) (base : Nat) (v : Value) : Prop :=
  ∃ T K, v = .agg #[.int .i64 I.place, .int .i64 I.len, .int .i64 I.op, .bool I.wide, .int .i64 I.a, .int .i64 I.b, T, K] ∧ Nums w base .i64 3 T I.to ∧ Nums w base .i64 2 K I.keys
/-- What is answered: an instruction, or none. -/
def InsR (w w' : World) (e : Ending) (r : Option Ins) : Prop :=
  (match r with
    | some I => ∃ v, e = .returned (.tuple #[v, .bool true]) ∧ I.is w' w.heap.size v
    | none => e = .returned noV6) ∧ Below w.heap.size w w'

def s4 (xs : List Int) (k : Nat) : Int := sg 32 (b4 xs k)
theorem s4_bd {xs : List Int} (h : IsBytes xs) (k : Nat) : -2147483648 ≤ s4 xs k ∧ s4 xs k < 2147483648 := sg32_bd (b4_bd h k)
def tabTo (xs : List Int) (p f m : Nat) : List Int := (p + s4 xs f) :: (List.range m).map fun i => p + s4 xs (f + (12 + 4 * i))
def tabI (xs : List Int) (p : Nat) : Option Ins :=
  let f := padE p
  let lo := s4 xs (f + 4)
  let hi := s4 xs (f + 8)
  let m := (hi - lo + 1).toNat
  if xs.length < f + 12 || !padZ xs p then none
  else if hi < lo then none
  else if 1000 ≤ m then none
  else if xs.length - f < 12 + 4 * m then none
  else some ⟨p, f - p + 12 + 4 * m, b1 xs p, false, 0, 0, tabTo xs p f m, [lo, hi]⟩

theorem tab_no (A : Option Addr) (n c p : Nat) (xs : List Int) (w : World) (B : Nat) (h : Rd w B A n (bys xs)) (hB : B ≤ w.heap.size) (hb : IsBytes xs) (hp : p < n) (hc : n ≤ c) (hn : n ≤ 140737488355328) (hno : (n < padE p + 12 || !padZ xs p) = true) :
    Calls Tryz.prog 142 #[.slice A n c, .int .i64 p] w fun e w' => e = .returned noV6 ∧ Below w.heap.size w w' := by
  have HP : Hid (∀ W, Below w.heap.size w W → Calls Tryz.prog 161 #[.slice A n c, .int .i64 p, .int .i64 12] W fun e w' => e = .returned (.tuple #[.slice none 0 0, .bool false]) ∧ W = w') := hide fun W hW => by
    have := padded_any B A n c p 12 xs W (h.below (hW.mono hB)) hb hp hc hn (by omega)
    rwa [show padR A n c xs p 12 = .tuple #[.slice none 0 0, .bool false] by unfold padR; rw [if_pos hno]] at this
  clear h hb
  go_enter Tryz.func142, Tryz.ntmps142
  go_wp2_with fail
  refine (HP.out _ ?_).mono ?_
  · repeat (first | with_reducible exact Below.refl _ _ | with_reducible refine Below.drew ?_ | with_reducible refine below_drewN ?_ _ | ((with_reducible refine Below.setCell ?_ ?hp _); case hp => simp) | ((with_reducible refine Below.alloc ?_ ?hp _); case hp => first | omega | (simp; done) | (simp; omega)))
  rintro e w1 ⟨rfl, rfl⟩
  go_wp2_with fail
  refine bodyPost_ret (v := noV6) ?_ rfl ⟨rfl, ?_⟩
  · simp [results, Tryz.results142, go_sem]
    rfl
  · repeat (first | with_reducible exact Below.refl _ _ | with_reducible refine Below.drew ?_ | with_reducible refine below_drewN ?_ _ | ((with_reducible refine Below.setCell ?_ ?hp _); case hp => simp) | ((with_reducible refine Below.alloc ?_ ?hp _); case hp => first | omega | (simp; done) | (simp; omega)))

theorem tab_bad (A : Option Addr) (n c p : Nat) (xs : List Int) (w : World) (B : Nat) (h : Rd w B A n (bys xs)) (hB : B ≤ w.heap.size) (hb : IsBytes xs) (hp : p < n) (hc : n ≤ c) (hn : n ≤ 140737488355328) (hyes : (n < padE p + 12 || !padZ xs p) = false)
    (hbad : s4 xs (padE p + 8) < s4 xs (padE p + 4) ∨ (s4 xs (padE p + 4) ≤ s4 xs (padE p + 8) ∧ 1000 ≤ s4 xs (padE p + 8) - s4 xs (padE p + 4) + 1) ∨ (s4 xs (padE p + 4) ≤ s4 xs (padE p + 8) ∧ s4 xs (padE p + 8) - s4 xs (padE p + 4) + 1 < 1000 ∧ (n : Int) - padE p < 12 + 4 * (s4 xs (padE p + 8) - s4 xs (padE p + 4) + 1))) :
    Calls Tryz.prog 142 #[.slice A n c, .int .i64 p] w fun e w' => e = .returned noV6 ∧ Below w.heap.size w w' := by
  have hfb := padE_bd p
  have HP : Hid (∀ W, Below w.heap.size w W → Calls Tryz.prog 161 #[.slice A n c, .int .i64 p, .int .i64 12] W fun e w' => e = .returned (.tuple #[.slice (subA c (padE p) A) (n - padE p) (c - padE p), .bool true]) ∧ W = w') := hide fun W hW => by
    have := padded_any B A n c p 12 xs W (h.below (hW.mono hB)) hb hp hc hn (by omega)
    rwa [show padR A n c xs p 12 = .tuple #[.slice (subA c (padE p) A) (n - padE p) (c - padE p), .bool true] by unfold padR; rw [if_neg (by simp [hyes])]] at this
  have hlen : padE p + 12 ≤ n := by simp at hyes; omega
  have hsub := h.from (c := c) (i := padE p) (by omega) hc
  obtain ⟨gs, os, hsA, hgs, _⟩ := hsub.2 (by omega)
  rw [hsA] at HP hsub
  have hC : n - padE p ≤ c - padE p := by omega
  have h4 : ∀ k W w0 q, k + 4 ≤ n - padE p → Below w.heap.size w w0 → W = w0.drewN q → Calls Tryz.prog 162 #[.slice (some ⟨gs, os + k, none⟩) (n - padE p - k) (c - padE p - k)] W fun e w' => e = .returned (.int .i64 (s4 xs (padE p + k))) ∧ ∃ q, w' = w0.drewN q := fun k W w0 q hk hW hq => by
    subst hq
    have h2 := (hsub.below ((below_drewN hW q).mono hB)).from (c := c - padE p) (i := k) (by omega) hC
    have h3 := is4_any B _ (n - padE p - k) (c - padE p - k) _ _ h2 (by omega) (by omega) ((hb.drop _).drop k)
    rw [b4_drop, b4_drop] at h3
    rw [show subA (c - padE p) k (some ⟨gs, os, none⟩) = some ⟨gs, os + k, none⟩ by unfold subA; rw [if_neg (by omega)]; simp [add_none]] at h3
    refine h3.mono fun e w' hh => ?_
    obtain ⟨rfl, b, rfl⟩ := hh
    exact ⟨rfl, q + b, by rw [World.drewN_drewN]⟩
  have C1 : Hid (∀ w0, Below w.heap.size w w0 → ∀ q, Calls Tryz.prog 162 #[.slice (some ⟨gs, os + 4, none⟩) (n - padE p - 4) (c - padE p - 4)] (w0.drewN q) fun e w' => e = .returned (.int .i64 (s4 xs (padE p + 4))) ∧ ∃ q, w' = w0.drewN q) := hide fun w0 hw0 q => h4 4 _ w0 q (by omega) hw0 rfl
  have C2 : Hid (∀ w0, Below w.heap.size w w0 → ∀ q, Calls Tryz.prog 162 #[.slice (some ⟨gs, os + 8, none⟩) (n - padE p - 8) (c - padE p - 8)] (w0.drewN q) fun e w' => e = .returned (.int .i64 (s4 xs (padE p + 8))) ∧ ∃ q, w' = w0.drewN q) := hide fun w0 hw0 q => h4 8 _ w0 q (by omega) hw0 rfl
  have hb1 := s4_bd hb (padE p + 4)
  have hb2 := s4_bd hb (padE p + 8)
  generalize s4 xs (padE p + 4) = lo at *
  generalize s4 xs (padE p + 8) = hi at *
  have hN : ((n - padE p : Nat) : Int) = (n : Int) - padE p := by omega
  have hN2 : n - padE p ≤ 140737488355328 := by omega
  have hN12 : 12 ≤ n - padE p := by omega
  rw [← hN] at hbad
  generalize n - padE p = N at *
  generalize c - padE p = C at *
  have hC4 : C ≠ 4 := by omega
  have hC8 : C ≠ 8 := by omega
  have hN4 : (4 : Int) ≤ N := by omega
  have hN8 : (8 : Int) ≤ N := by omega
  clear h hb hsA hsub h4 hyes hfb hlen hN
  rcases hbad with hbad | ⟨hbad, hbad2⟩ | ⟨hbad, hbad2, hbad3⟩
  all_goals
    go_enter Tryz.func142, Tryz.ntmps142
    go_wp2_with fail
    refine (HP.out _ ?_).mono ?_
    · repeat (first | with_reducible exact Below.refl _ _ | with_reducible refine Below.drew ?_ | with_reducible refine below_drewN ?_ _ | ((with_reducible refine Below.setCell ?_ ?hp _); case hp => simp) | ((with_reducible refine Below.alloc ?_ ?hp _); case hp => first | omega | (simp; done) | (simp; omega)))
    rintro e w1 ⟨rfl, rfl⟩
    go_wp2_with fail
    go_quiet ((first | (go_at_call 162; with_reducible refine C1.out _ ?_ _; (repeat (first | with_reducible exact Below.refl _ _ | with_reducible refine Below.drew ?_ | with_reducible refine below_drewN ?_ _ | ((with_reducible refine Below.setCell ?_ ?hp _); case hp => simp) | ((with_reducible refine Below.alloc ?_ ?hp _); case hp => first | omega | (simp; done) | (simp; omega))))) | (go_at_call 162; with_reducible refine C2.out _ ?_ _; (repeat (first | with_reducible exact Below.refl _ _ | with_reducible refine Below.drew ?_ | with_reducible refine below_drewN ?_ _ | ((with_reducible refine Below.setCell ?_ ?hp _); case hp => simp) | ((with_reducible refine Below.alloc ?_ ?hp _); case hp => first | omega | (simp; done) | (simp; omega)))))))
    go_wp2_with fail
    refine bodyPost_ret (v := noV6) ?_ rfl ⟨rfl, ?_⟩
    · simp [results, Tryz.results142, go_sem]
      rfl
    · repeat (first | with_reducible exact Below.refl _ _ | with_reducible refine Below.drew ?_ | with_reducible refine below_drewN ?_ _ | ((with_reducible refine Below.setCell ?_ ?hp _); case hp => simp) | ((with_reducible refine Below.alloc ?_ ?hp _); case hp => first | omega | (simp; done) | (simp; omega)))
end Go.Proofs.YtbdbcalmjbmflaaGreatDoor
namespace Go.Proofs.YtbdbcalmjbmflaaGreatDoor
open Go.RowKit

theorem made_nums (k : IntKind) (n : Nat) : madeCells (Value.int k 0).cells (n * 1) = ((List.replicate n (0 : Int)).map (.int k)).toArray := by
  apply Array.toList_inj.1
  unfold madeCells
  rw [Nat.mul_one]
  apply List.ext_getElem?
  intro i
  simp only [Array.toList_map]
  by_cases h : i < n
  · simp [h, Value.cells, Nat.mod_one]
  · simp [h]
theorem intinfo : (Tryz.prog.info? 3).map (fun i => (i.zero, i.size, i.bytes)) = some (some (.int .i64 0), 1, 8) := by kernel_rfl
theorem i64info : (Tryz.prog.info? 2).map (fun i => (i.zero, i.size, i.bytes)) = some (some (.int .i64 0), 1, 8) := by kernel_rfl
theorem make_ints (n : Nat) (hn : n ≤ 2000) (W : World) : (Instr.makeSlice 141 (.int .i64 (n : Int)) (.int .i64 (n : Int))).run Tryz.prog W = .ok (.slice (some ⟨W.heap.size, 0, none⟩) n n) (W.alloc (.cells ((List.replicate n (0 : Int)).map (.int .i64)).toArray 3)) := by
  obtain ⟨i0, hi0, iz0, iz1, iz2⟩ := info_parts intinfo
  have := run_make (P := Tryz.prog) W 141 3 i0 _ Tryz.underlying141 hi0 iz0 .i64 .i64 (n : Int) (n : Int) (by omega) (by omega) (by rw [iz2]; omega) (by omega)
  rw [this, iz1, Int.toNat_natCast, made_nums]
theorem make_i64s (n : Nat) (hn : n ≤ 2000) (W : World) : (Instr.makeSlice 185 (.int .i64 (n : Int)) (.int .i64 (n : Int))).run Tryz.prog W = .ok (.slice (some ⟨W.heap.size, 0, none⟩) n n) (W.alloc (.cells ((List.replicate n (0 : Int)).map (.int .i64)).toArray 2)) := by
  obtain ⟨i0, hi0, iz0, iz1, iz2⟩ := info_parts i64info
  have := run_make (P := Tryz.prog) W 185 2 i0 _ Tryz.underlying185 hi0 iz0 .i64 .i64 (n : Int) (n : Int) (by omega) (by omega) (by rw [iz2]; omega) (by omega)
  rw [this, iz1, Int.toNat_natCast, made_nums]

/-- The list L, of which the first j have been put. -/
def fillL6 (L : List Int) (j : Nat) : List Int := L.take j ++ List.replicate (L.length - j) 0
theorem fill_len (L : List Int) (j : Nat) (h : j ≤ L.length) : (fillL6 L j).length = L.length := by unfold fillL6; simp; omega
theorem fill_zero (L : List Int) : fillL6 L 0 = List.replicate L.length 0 := by simp [fillL6]
theorem fill_all (L : List Int) : fillL6 L L.length = L := by simp [fillL6]
theorem fill_at (L : List Int) (j : Nat) (h : j < L.length) : (fillL6 L j)[j]? = some 0 := by
  unfold fillL6
  have hl : (L.take j).length = j := by simp; omega
  rw [List.getElem?_append_right (by omega), hl, Nat.sub_self, show L.length - j = (L.length - (j + 1)) + 1 by omega]
  rfl
theorem fill_set (L : List Int) (j : Nat) (h : j < L.length) : (fillL6 L j).set j (L.getD j 0) = fillL6 L (j + 1) := by
  unfold fillL6
  have hl : (L.take j).length = j := by simp; omega
  have ht : L.take (j + 1) = L.take j ++ [L.getD j 0] := by
    rw [List.take_add_one, List.getElem?_eq_getElem h, List.getD, List.getElem?_eq_getElem h]; rfl
  rw [List.set_append_right _ _ (by omega), hl, Nat.sub_self, show L.length - j = (L.length - (j + 1)) + 1 by omega, List.replicate_succ, List.set_cons_zero, ht, List.append_assoc]
  rfl
section
variable {w w' : World} {g : Nat} {t : TypeId} {k : IntKind} {L : List Int} {j : Nat}
theorem At.fill_cell (h : At w g t ((fillL6 L j).map (.int k))) (hj : j < L.length) : w.cell? ⟨g, j, none⟩ = some (.int k 0) := by
  rw [h.cell, List.getElem?_map, fill_at L j hj]; rfl
theorem At.fill_put (h : At w g t ((fillL6 L j).map (.int k))) (hj : j < L.length) : At (w.setCell ⟨g, j, none⟩ (.int k (L.getD j 0))) g t ((fillL6 L (j + 1)).map (.int k)) := by
  have := h.set j (.int k (L.getD j 0))
  rwa [← List.map_set, fill_set L j hj] at this
end
theorem At.newR {W : World} {g : Nat} (k : IntKind) (t : TypeId) (n : Nat) (hg : g = W.heap.size) : At (W.alloc (.cells (Array.replicate n (.int k 0)) t)) g t ((List.replicate n (0 : Int)).map (.int k)) := by
  subst hg
  have := At.new W t ((List.replicate n (0 : Int)).map (Value.int k))
  rwa [List.map_replicate, List.toArray_replicate, ← List.map_replicate] at this
/-- The eight cells of an instruction's block. -/
theorem At.c8 {W : World} {g : Nat} {a b c d e f h i : Value} (hA : At W g 187 [a, b, c, d, e, f, h, i]) :
    (W.cell? ⟨g, 0, none⟩ = some a ∧ W.cell? ⟨g, 1, none⟩ = some b ∧ W.cell? ⟨g, 2, none⟩ = some c ∧ W.cell? ⟨g, 3, none⟩ = some d ∧ W.cell? ⟨g, 4, none⟩ = some e ∧ W.cell? ⟨g, 5, none⟩ = some f ∧ W.cell? ⟨g, 6, none⟩ = some h ∧ W.cell? ⟨g, 7, none⟩ = some i) ∧
    (W.frozen? ⟨g, 0, none⟩ = false ∧ W.frozen? ⟨g, 1, none⟩ = false ∧ W.frozen? ⟨g, 2, none⟩ = false ∧ W.frozen? ⟨g, 3, none⟩ = false ∧ W.frozen? ⟨g, 4, none⟩ = false ∧ W.frozen? ⟨g, 5, none⟩ = false ∧ W.frozen? ⟨g, 6, none⟩ = false ∧ W.frozen? ⟨g, 7, none⟩ = false) :=
  ⟨⟨hA.cell 0, hA.cell 1, hA.cell 2, hA.cell 3, hA.cell 4, hA.cell 5, hA.cell 6, hA.cell 7⟩, ⟨hA.free 0, hA.free 1, hA.free 2, hA.free 3, hA.free 4, hA.free 5, hA.free 6, hA.free 7⟩⟩

/-- What is held while targets are put: the old memory, the result's block, the targets' row. -/
def TS (w W : World) (cs : List Int) : Prop :=
  Below w.heap.size w W ∧ At W w.heap.size 187 [.int .i64 0, .int .i64 0, .int .i64 0, .bool false, .int .i64 0, .int .i64 0, .slice none 0 0, .slice none 0 0] ∧ At W (w.heap.size + 1) 3 (cs.map (.int .i64))
theorem TS.drewN {w W : World} {cs : List Int} (h : TS w W cs) (q : Nat) : TS w (W.drewN q) cs := ⟨below_drewN h.1 q, h.2.1, h.2.2⟩
theorem TS.put {w W : World} {L : List Int} {j : Nat} (h : TS w W (fillL6 L j)) (hj : j < L.length) : TS w (W.setCell ⟨w.heap.size + 1, j, none⟩ (.int .i64 (L.getD j 0))) (fillL6 L (j + 1)) :=
  ⟨h.1.setCell (by simp) _, h.2.1.far (by simp) _, h.2.2.fill_put hj⟩

theorem tabTo_len (xs : List Int) (p f m : Nat) : (tabTo xs p f m).length = m + 1 := by simp [tabTo]
theorem tabTo_zero (xs : List Int) (p f m : Nat) : (tabTo xs p f m).getD 0 0 = p + s4 xs f := rfl
theorem tabTo_next (xs : List Int) (p f m j : Nat) (h : j < m) : (tabTo xs p f m).getD (1 + j) 0 = p + s4 xs (f + (12 + 4 * j)) := by
  rw [Nat.add_comm]; simp [tabTo, List.getD, h]
end Go.Proofs.YtbdbcalmjbmflaaGreatDoor
namespace Go.Proofs.YtbdbcalmjbmflaaGreatDoor
open Go.RowKit

set_option maxHeartbeats 2000000 in
set_option maxRecDepth 100000 in
theorem tab_yes (A : Option Addr) (n c p m : Nat) (xs : List Int) (w : World) (B : Nat) (h : Rd w B A n (bys xs)) (hB : B ≤ w.heap.size) (hb : IsBytes xs) (hp : p < n) (hc : n ≤ c) (hn : n ≤ 140737488355328) (hyes : (n < padE p + 12 || !padZ xs p) = false)
    (hm : s4 xs (padE p + 8) - s4 xs (padE p + 4) + 1 = m) (hm1 : 1 ≤ m) (hm2 : m < 1000) (hl : 12 + 4 * m ≤ n - padE p) :
    Calls Tryz.prog 142 #[.slice A n c, .int .i64 p] w fun e w' => InsR w w' e (some ⟨p, padE p - p + 12 + 4 * m, b1 xs p, false, 0, 0, tabTo xs p (padE p) m, [s4 xs (padE p + 4), s4 xs (padE p + 8)]⟩) := by
  have hfb := padE_bd p
  have HP : Hid (∀ W, Below w.heap.size w W → Calls Tryz.prog 161 #[.slice A n c, .int .i64 p, .int .i64 12] W fun e w' => e = .returned (.tuple #[.slice (subA c (padE p) A) (n - padE p) (c - padE p), .bool true]) ∧ W = w') := hide fun W hW => by
    have := padded_any B A n c p 12 xs W (h.below (hW.mono hB)) hb hp hc hn (by omega)
    rwa [show padR A n c xs p 12 = .tuple #[.slice (subA c (padE p) A) (n - padE p) (c - padE p), .bool true] by unfold padR; rw [if_neg (by simp [hyes])]] at this
  have hlen : padE p + 12 ≤ n := by simp at hyes; omega
  have hsub := h.from (c := c) (i := padE p) (by omega) hc
  obtain ⟨gA, oA, rfl, hgA, _⟩ := h.2 (by omega)
  obtain ⟨_, _, he, c0⟩ := rd_b1 h hp
  cases he
  have Ca : Hid (∀ W, Below w.heap.size w W → W.cell? ⟨gA, oA + p, none⟩ = some (.int .u8 (b1 xs p))) := hide fun W hW => by rw [← c0]; exact hW.cell (p := ⟨gA, oA + p, none⟩) (by show gA < _; omega)
  obtain ⟨gs, os, hsA, hgs, _⟩ := hsub.2 (by omega)
  rw [hsA] at HP hsub
  have hC : n - padE p ≤ c - padE p := by omega
  have h4 : ∀ k W w0 q, k + 4 ≤ n - padE p → Below w.heap.size w w0 → W = w0.drewN q → Calls Tryz.prog 162 #[.slice (subA (c - padE p) k (some ⟨gs, os, none⟩)) (n - padE p - k) (c - padE p - k)] W fun e w' => e = .returned (.int .i64 (s4 xs (padE p + k))) ∧ ∃ q, w' = w0.drewN q := fun k W w0 q hk hW hq => by
    subst hq
    have h2 := (hsub.below ((below_drewN hW q).mono hB)).from (c := c - padE p) (i := k) (by omega) hC
    have h3 := is4_any B _ (n - padE p - k) (c - padE p - k) _ _ h2 (by omega) (by omega) ((hb.drop _).drop k)
    rw [b4_drop, b4_drop] at h3
    refine h3.mono fun e w' hh => ?_
    obtain ⟨rfl, b, rfl⟩ := hh
    exact ⟨rfl, q + b, by rw [World.drewN_drewN]⟩
  have hs0 : ∀ k, k < c - padE p → subA (c - padE p) k (some ⟨gs, os, none⟩) = some ⟨gs, os + k, none⟩ := fun k hk => by unfold subA; rw [if_neg (by omega)]; simp [add_none]
  have C1 : Hid (∀ w0, Below w.heap.size w w0 → ∀ q, Calls Tryz.prog 162 #[.slice (some ⟨gs, os + 4, none⟩) (n - padE p - 4) (c - padE p - 4)] (w0.drewN q) fun e w' => e = .returned (.int .i64 (s4 xs (padE p + 4))) ∧ ∃ q, w' = w0.drewN q) := hide fun w0 hw0 q => by
    have := h4 4 _ w0 q (by omega) hw0 rfl
    rwa [hs0 4 (by omega)] at this
  have C2 : Hid (∀ w0, Below w.heap.size w w0 → ∀ q, Calls Tryz.prog 162 #[.slice (some ⟨gs, os + 8, none⟩) (n - padE p - 8) (c - padE p - 8)] (w0.drewN q) fun e w' => e = .returned (.int .i64 (s4 xs (padE p + 8))) ∧ ∃ q, w' = w0.drewN q) := hide fun w0 hw0 q => by
    have := h4 8 _ w0 q (by omega) hw0 rfl
    rwa [hs0 8 (by omega)] at this
  obtain ⟨L, hL⟩ : ∃ L, L = tabTo xs p (padE p) m := ⟨_, rfl⟩
  have hLl : L.length = m + 1 := by rw [hL, tabTo_len]
  have C0 : Hid (∀ cs W, TS w W cs → Calls Tryz.prog 162 #[.slice (some ⟨gs, os, none⟩) (n - padE p) (c - padE p)] W fun e w' => e = .returned (.int .i64 (s4 xs (padE p))) ∧ TS w w' cs) := hide fun cs W hW => by
    have := h4 0 W W 0 (by omega) hW.1 rfl
    rw [hs0 0 (by omega)] at this
    refine this.mono fun e w' hh => ?_
    obtain ⟨rfl, b, rfl⟩ := hh
    exact ⟨rfl, hW.drewN b⟩
  have C3 : Hid (∀ j cs W, j < m → TS w W cs → Calls Tryz.prog 162 #[.slice (some ⟨gs, os + (12 + 4 * j), none⟩) (n - padE p - (12 + 4 * j)) (c - padE p - (12 + 4 * j))] W fun e w' => e = .returned (.int .i64 (s4 xs (padE p + (12 + 4 * j)))) ∧ TS w w' cs) := hide fun j cs W hj hW => by
    have := h4 (12 + 4 * j) W W 0 (by omega) hW.1 rfl
    rw [hs0 (12 + 4 * j) (by omega)] at this
    refine this.mono fun e w' hh => ?_
    obtain ⟨rfl, b, rfl⟩ := hh
    exact ⟨rfl, hW.drewN b⟩
  have HSl : Hid (∀ j, j < m → ∀ W, (Instr.slice 29 (.slice (some ⟨gs, os, none⟩) (n - padE p) (c - padE p)) (some (.int .i64 (12 + 4 * (j : Int)))) none none).run Tryz.prog W = .ok (.slice (some ⟨gs, os + (12 + 4 * j), none⟩) (n - padE p - (12 + 4 * j)) (c - padE p - (12 + 4 * j))) W) := hide fun j hj W => by
    have := slice_from6 (some ⟨gs, os, none⟩) (n - padE p) (c - padE p) (12 + 4 * j) (by omega) W
    rw [hs0 (12 + 4 * j) (by omega)] at this
    rw [← this, show ((12 + 4 * j : Nat) : Int) = 12 + 4 * (j : Int) by omega]
  have HL0 : Hid (L.getD 0 0 = p + s4 xs (padE p)) := hide (by rw [hL]; rfl)
  have HL1 : Hid (∀ j, j < m → L.getD (1 + j) 0 = p + s4 xs (padE p + (12 + 4 * j))) := hide fun j hj => by rw [hL]; exact tabTo_next xs p _ m j hj
  have HB4 : Hid (∀ k, -2147483648 ≤ s4 xs k ∧ s4 xs k < 2147483648) := hide fun k => s4_bd hb k
  have hb0 := s4_bd hb (padE p)
  have hb1 := s4_bd hb (padE p + 4)
  have hb2 := s4_bd hb (padE p + 8)
  have hx := b1_bd hb p
  have hmk := make_ints (m + 1) (by omega)
  rw [show ((m + 1 : Nat) : Int) = 1 + (m : Int) by omega] at hmk
  have hN : (n : Int) - ((n - padE p : Nat) : Int) = padE p := by omega
  rw [← hL]
  have HN := hide hN
  generalize s4 xs (padE p + 4) = lo at *
  generalize s4 xs (padE p + 8) = hi at *
  generalize s4 xs (padE p) = df at *
  generalize b1 xs p = x at *
  have hN2 : n - padE p ≤ 140737488355328 := by omega
  have hN0 : 12 + 4 * m ≤ n - padE p := by omega
  generalize n - padE p = N at *
  generalize c - padE p = C at *
  have hC4 : C ≠ 4 := by omega
  have hC8 : C ≠ 8 := by omega
  have hN4 : (4 : Int) ≤ N := by omega
  have hN8 : (8 : Int) ≤ N := by omega
  have hlh : ¬ (hi < lo) := by omega
  have hmm : ¬ ((1000 : Int) ≤ m) := by omega
  have hNN : ¬ ((N : Int) < 12 + 4 * (m : Int)) := by omega
  clear h hb hsA hsub h4 hyes hlen hN hs0 c0 hL
  go_enter Tryz.func142, Tryz.ntmps142
  go_wp2_with fail
  refine (HP.out _ ?_).mono ?_
  · repeat (first | with_reducible exact Below.refl _ _ | with_reducible refine Below.drew ?_ | with_reducible refine below_drewN ?_ _ | ((with_reducible refine Below.setCell ?_ ?hp _); case hp => simp) | ((with_reducible refine Below.alloc ?_ ?hp _); case hp => first | omega | (simp; done) | (simp; omega)))
  rintro e w1 ⟨rfl, rfl⟩
  go_wp2_with fail
  go_quiet ((first | (go_at_call 162; with_reducible refine C1.out _ ?_ _; (repeat (first | with_reducible exact Below.refl _ _ | with_reducible refine Below.drew ?_ | with_reducible refine below_drewN ?_ _ | ((with_reducible refine Below.setCell ?_ ?hp _); case hp => simp) | ((with_reducible refine Below.alloc ?_ ?hp _); case hp => first | omega | (simp; done) | (simp; omega))))) | (go_at_call 162; with_reducible refine C2.out _ ?_ _; (repeat (first | with_reducible exact Below.refl _ _ | with_reducible refine Below.drew ?_ | with_reducible refine below_drewN ?_ _ | ((with_reducible refine Below.setCell ?_ ?hp _); case hp => simp) | ((with_reducible refine Below.alloc ?_ ?hp _); case hp => first | omega | (simp; done) | (simp; omega)))))))
  go_wp2_with fail
  refine (C0.out (fillL6 L 0) _ ?_).mono ?_
  · refine ⟨?_, ?_, ?_⟩
    · repeat (first | with_reducible exact Below.refl _ _ | with_reducible refine Below.drew ?_ | with_reducible refine below_drewN ?_ _ | ((with_reducible refine Below.setCell ?_ ?hp _); case hp => simp) | ((with_reducible refine Below.alloc ?_ ?hp _); case hp => first | omega | (simp; done) | (simp; omega)))
    · exact (At.new _ _ _).alloc _
    · rw [fill_zero, hLl]; exact At.newR _ _ _ (by simp)
  rintro e w2 ⟨rfl, hT⟩
  have z0 := hT.2.2.fill_cell (show 0 < L.length by omega)
  have f0 := hT.2.2.free 0
  have HT := hide hT
  have hz1 : (0 : Int) < (m : Int) + 1 := by omega
  clear hT hmk C0 C1 C2 HP
  go_wp2_with fail
  have T1 : Hid (TS w (w2.setCell ⟨w.heap.size + 1, 0, none⟩ (.int .i64 (p + df))) (fillL6 L 1)) := hide (by
    have := HT.out.put (j := 0) (by omega)
    rwa [HL0.out] at this)
  clear HT z0 f0 HL0
  generalize w2.setCell ⟨w.heap.size + 1, 0, none⟩ (.int .i64 (p + df)) = w3 at *
  go_loopw [59, 12] (fun iv _ wr => ∃ j : Nat, j ≤ m ∧ iv = .int .i64 j ∧ TS w wr (fillL6 L (1 + j))) (fun iv _ _ => m - (intOf iv).toNat)
  case atStart => exact ⟨0, Nat.zero_le _, rfl, T1.out⟩
  case round =>
    obtain ⟨j, hj, rfl, hT⟩ := hrel
    have HT := hide hT
    clear hT
    by_cases hlt : j < m
    · have hlt' : (j : Int) < (m : Int) := by omega
      have hi1 : (1 : Int) + (j : Int) < (m : Int) + 1 := by omega
      have hi0 : (0 : Int) ≤ (1 : Int) + (j : Int) := by omega
      have hnt : ((1 : Int) + (j : Int)).toNat = 1 + j := by omega
      have hS := HSl.out j hlt
      have C := hide (C3.out j (fillL6 L (1 + j)) wr hlt HT.out)
      have hbd := HB4.out (padE p + (12 + 4 * j))
      have HLj := hide (HL1.out j hlt)
      generalize s4 xs (padE p + (12 + 4 * j)) = y at *
      go_wp2_with fail
      refine C.out.mono ?_
      rintro e w4 ⟨rfl, hT⟩
      have z1 := hT.2.2.fill_cell (show 1 + j < L.length by omega)
      have f1 := hT.2.2.free (1 + j)
      have T4 := hide (hT.put (show 1 + j < L.length by omega))
      rw [HLj.out] at T4
      clear hT C HT
      go_wp2_with fail
      go_roundw
      case rel => exact ⟨j + 1, by omega, by go_num, T4.out⟩
      case measure => simp [intOf]; omega
    · obtain rfl : j = m := by omega
      have HTL : Hid (TS w wr L) := hide (by have := HT.out; rwa [show 1 + j = L.length by omega, fill_all] at this)
      clear HT
      have hcx := Ca.out wr HTL.out.1
      obtain ⟨⟨d0, d1, d2, d3, d4, d5, d6, d7⟩, e0, e1, e2, e3, e4, e5, e6, e7⟩ := (HTL.out.2.1.alloc (.cells #[.int .i64 lo, .int .i64 hi] 2)).c8
      have hlt' : ¬ ((j : Int) < (j : Int)) := by omega
      have hpn : (p : Int) < n := by omega
      have hle : (n : Int) - p - N = padE p - p := by have := HN.out; omega
      go_wp2_with fail
      have hsz := HTL.out.2.1.lt
      have hsz2 := HTL.out.2.2.lt
      have hbel : Below w.heap.size w wr := HTL.out.1
      obtain ⟨⟨b0, b1, b2, b3, b4, b5, b6, b7⟩, -⟩ := HTL.out.2.1.c8
      refine bodyPost_ret (v := .tuple #[.agg #[.int .i64 p, .int .i64 (padE p - p + 12 + 4 * (j : Int)), .int .i64 x, .bool false, .int .i64 0, .int .i64 0, .slice (some ⟨w.heap.size + 1, 0, none⟩) (j + 1) (j + 1), .slice (some ⟨wr.heap.size, 0, none⟩) 2 2], .bool true]) ?_ rfl ⟨⟨_, rfl, _, _, rfl, .inr ⟨w.heap.size + 1, by omega, by rw [hLl], ?_⟩, .inr ⟨wr.heap.size, by omega, rfl, ?_⟩⟩, ?_⟩
      · simp [results, Tryz.results142, go_sem, World.cell?_setCell_other, hsz, b0, b1, b2, b3, b4, b5, b6, b7]
      · have := HTL.out.2.2.alloc (.cells #[.int .i64 lo, .int .i64 hi] 2)
        repeat (first | with_reducible exact this | (with_reducible refine At.far ?_ ?hp _; case hp => simp))
      · show At _ _ _ [.int .i64 lo, .int .i64 hi]
        have := At.new wr 2 [.int .i64 lo, .int .i64 hi]
        repeat (first | with_reducible exact this | (with_reducible refine At.far ?_ ?hp _; case hp => simp; omega))
      · repeat (first | with_reducible exact hbel | with_reducible refine Below.drew ?_ | with_reducible refine below_drewN ?_ _ | ((with_reducible refine Below.setCell ?_ ?hp _); case hp => simp) | ((with_reducible refine Below.alloc ?_ ?hp _); case hp => first | omega | (simp; done) | (simp; omega)))

theorem tab_any (A : Option Addr) (n c p : Nat) (xs : List Int) (w : World) (B : Nat) (h : Rd w B A n (bys xs)) (hB : B ≤ w.heap.size) (hb : IsBytes xs) (hp : p < n) (hc : n ≤ c) (hn : n ≤ 140737488355328) :
    Calls Tryz.prog 142 #[.slice A n c, .int .i64 p] w fun e w' => InsR w w' e (tabI xs p) := by
  have hxl : xs.length = n := by have := h.1; rwa [bys_len] at this
  unfold tabI
  dsimp only
  rw [hxl]
  cases hno : (n < padE p + 12 || !padZ xs p : Bool) with
  | true =>
    rw [if_pos rfl]
    exact tab_no A n c p xs w B h hB hb hp hc hn hno
  | false =>
    rw [if_neg (by simp)]
    have hbad := tab_bad A n c p xs w B h hB hb hp hc hn hno
    have hyes := fun m hm hm1 hm2 hl => tab_yes A n c p m xs w B h hB hb hp hc hn hno hm hm1 hm2 hl
    have hlen : padE p + 12 ≤ n := by simp at hno; omega
    by_cases h1 : s4 xs (padE p + 8) < s4 xs (padE p + 4)
    · rw [if_pos h1]
      exact hbad (.inl h1)
    · rw [if_neg h1]
      by_cases h2 : 1000 ≤ (s4 xs (padE p + 8) - s4 xs (padE p + 4) + 1).toNat
      · rw [if_pos h2]
        exact hbad (.inr (.inl ⟨by omega, by omega⟩))
      · rw [if_neg h2]
        by_cases h3 : n - padE p < 12 + 4 * (s4 xs (padE p + 8) - s4 xs (padE p + 4) + 1).toNat
        · rw [if_pos h3]
          exact hbad (.inr (.inr ⟨by omega, by omega, by omega⟩))
        · rw [if_neg h3]
          have := hyes (s4 xs (padE p + 8) - s4 xs (padE p + 4) + 1).toNat (by omega) (by omega) (by omega) (by omega)
          exact this
end Go.Proofs.YtbdbcalmjbmflaaGreatDoor
