/- Texts of one stage, merged. Nothing is claimed here. -/
import Derived.Test.YtbdbcalmjbmflaaGreatDoorPackA
import Derived.Test.YtbdbcalmjbmflaaGreatDoorPackH
import Derived.Test.YtbdbcalmjbmflaaGreatDoorPackD
import Derived.Deep.RegionHeld3
import Derived.Test.YtbdbcalmjbmflaaGreatDoorPackO
import Derived.Test.YtbdbcalmjbmflaaGreatDoorPackG
namespace Go.Proofs.YtbdbcalmjbmflaaGreatDoor
open Go.RowKit

/-- No bit beside those of a mask? -/
def inB (x m : Int) : Bool := bits .andNot .i64 x m == 0
theorem andNot7 : ∀ a b : Fin 256, (bits .andNot .i64 ((a.val * 256 + b.val : Nat) : Int) 7 == 0) = decide (a.val * 256 + b.val < 8) := by decide +kernel
theorem in7 (x : Int) (h0 : 0 ≤ x) (h1 : x < 65536) : inB x 7 = decide (x < 8) := by
  have := andNot7 ⟨x.toNat / 256, by omega⟩ ⟨x.toNat % 256, by omega⟩
  simp only [Nat.div_add_mod' x.toNat 256, Int.toNat_of_nonneg h0] at this
  rw [inB, this]
  by_cases h : x < 8
  · rw [decide_eq_true h, decide_eq_true (by omega)]
  · rw [decide_eq_false h, decide_eq_false (by omega)]

end Go.Proofs.YtbdbcalmjbmflaaGreatDoor
namespace Go.Proofs.YtbdbcalmjbmflaaGreatDoor
open Go.RowKit

/-- At most one of the three? -/
def accN (n : Int) : Bool := n == 0 || n == 1 || n == 2 || n == 4
def has (x m : Int) : Bool := bits .and .i64 x m != 0
def accB (x : Int) : Bool := accN (bits .and .i64 x 7)
def classFlagsB (x : Int) : Bool := !(has x 1024 && has x 16 || has x 512 && !has x 1024) && inB x 1585
def fieldFlagsB (x : Int) (face : Bool) : Bool := if face then x == 25 else inB x 31 && accB x
def methodFlagsB (x : Int) : Bool := !(has x 1024 && has x 26) && (inB x 1055 && accB x)
def faceFlagsB (x mj : Int) : Bool := if mj < 52 then x == 1025 else !has x 20 && has x 3

theorem and7 (x : Int) (h0 : 0 ≤ x) (h1 : x < 65536) : bits .and .i64 x 7 = x % 8 := bits_mask .i64 63 (by decide) (fun n h0 h1 => by simp [IntKind.wrap, IntKind.bits, IntKind.signed]; omega) 3 (by decide) x h0 (by omega)
theorem cfwithin_is (x m : Int) (w : World) : Calls Tryz.prog 50 #[.int .i64 x, .int .i64 m] w fun e w' => e = .returned (.bool (inB x m)) ∧ w = w' := by
  go_enter Tryz.func50, Tryz.ntmps50
  go_wp2
  go_ret
  exact ⟨rfl, rfl⟩
theorem cfisInterface_is (x : Int) (w : World) : Calls Tryz.prog 34 #[.int .i64 x] w fun e w' => e = .returned (.bool (has x 512)) ∧ w = w' := by
  go_enter Tryz.func34, Tryz.ntmps34
  go_wp2
  go_ret
  exact ⟨rfl, rfl⟩
theorem eight {n : Int} (h0 : 0 ≤ n) (h1 : n < 8) : n = 0 ∨ n = 1 ∨ n = 2 ∨ n = 3 ∨ n = 4 ∨ n = 5 ∨ n = 6 ∨ n = 7 := by omega
theorem clAccess_is (x : Int) (h0 : 0 ≤ x) (h1 : x < 65536) (w : World) : Calls Tryz.prog 10 #[.int .i64 x] w fun e w' => e = .returned (.bool (accB x)) ∧ w = w' := by
  have h7 := and7 x h0 h1
  have h8 := eight (Int.emod_nonneg x (by decide : (8 : Int) ≠ 0)) (Int.emod_lt_of_pos x (by decide : (0 : Int) < 8))
  rw [accB]
  rw [← h7] at h8
  clear h7
  rcases h8 with h | h | h | h | h | h | h | h <;>
  · rw [h]
    go_enter Tryz.func10, Tryz.ntmps10
    go_wp2
    go_ret
    exact ⟨rfl, rfl⟩
/-- How many bits a number below 8 has. -/
def popN (n : Int) : Int := if n = 0 then 0 else if n = 1 ∨ n = 2 ∨ n = 4 then 1 else if n = 7 then 3 else 2
theorem onesCount64_is (n : Int) (h0 : 0 ≤ n) (h1 : n < 8) (w : World) : Calls Tryz.prog 123 #[.int .u64 n] w fun e w' => e = .returned (.int .i64 (popN n)) ∧ w = w' := by
  rcases eight h0 h1 with rfl | rfl | rfl | rfl | rfl | rfl | rfl | rfl <;>
  · go_enter Tryz.func123, Tryz.ntmps123
    go_wp2
    go_ret
    exact ⟨by kernel_rfl, rfl⟩
theorem onesCount_is (n : Int) (h0 : 0 ≤ n) (h1 : n < 8) (w : World) : Calls Tryz.prog 97 #[.int .u64 n] w fun e w' => e = .returned (.int .i64 (popN n)) ∧ w = w' := by
  have H := hide (onesCount64_is n h0 h1)
  go_enter Tryz.func97, Tryz.ntmps97
  go_wp2_with fail
  refine (H.out _).mono ?_
  rintro e w1 ⟨rfl, rfl⟩
  go_wp2_with fail
  go_ret
  exact ⟨rfl, rfl⟩
theorem pop_le {n : Int} (h0 : 0 ≤ n) (h1 : n < 8) : decide (popN n ≤ 1) = accN n := by
  rcases eight h0 h1 with rfl | rfl | rfl | rfl | rfl | rfl | rfl | rfl <;> rfl
theorem cfaccess_is (x : Int) (h0 : 0 ≤ x) (h1 : x < 65536) (w : World) : Calls Tryz.prog 78 #[.int .i64 x] w fun e w' => e = .returned (.bool (accB x)) ∧ w = w' := by
  have h7 := and7 x h0 h1
  have g0 : 0 ≤ bits .and .i64 x 7 := by omega
  have g1 : bits .and .i64 x 7 < 8 := by omega
  have HP := hide (pop_le g0 g1)
  have H := hide (onesCount_is _ g0 g1)
  clear h7 h0 h1
  unfold accB
  obtain ⟨n, hb⟩ : ∃ n, bits .and .i64 x 7 = n := ⟨_, rfl⟩
  rw [hb] at HP H g0 g1 ⊢
  have hn : IntKind.u64.wrap n = n := by simp [IntKind.wrap, IntKind.bits, IntKind.signed]; omega
  go_enter Tryz.func78, Tryz.ntmps78
  go_wp2_with fail
  refine (H.out _).mono ?_
  rintro e w1 ⟨rfl, rfl⟩
  go_wp2_with fail
  go_ret
  exact ⟨ret_bool HP.out, rfl⟩
theorem cfclassMay_is (x : Int) (w : World) : Calls Tryz.prog 35 #[.int .i64 x] w fun e w' => e = .returned (.bool (classFlagsB x)) ∧ w = w' := by
  have HI := hide (cfisInterface_is x)
  have HW := hide (cfwithin_is x 1585)
  obtain ⟨a, ha⟩ : ∃ a, has x 1024 = a := ⟨_, rfl⟩
  obtain ⟨b, hb⟩ : ∃ b, has x 16 = b := ⟨_, rfl⟩
  obtain ⟨i, hi⟩ : ∃ i, has x 512 = i := ⟨_, rfl⟩
  rw [classFlagsB, ha, hb, hi]
  rw [hi] at HI
  unfold has at ha hb
  clear hi
  cases a <;> cases b <;> cases i <;>
  · go_enter Tryz.func35, Tryz.ntmps35
    go_wp2_with fail
    repeat (first
      | (refine (HI.out _).mono ?_; rintro e w1 ⟨rfl, rfl⟩; go_wp2_with fail)
      | (refine (HW.out _).mono ?_; rintro e w1 ⟨rfl, rfl⟩; go_wp2_with fail))
    go_ret
    exact ⟨rfl, rfl⟩
theorem cffieldMay_is (x : Int) (h0 : 0 ≤ x) (h1 : x < 65536) (f : Bool) (w : World) : Calls Tryz.prog 58 #[.int .i64 x, .bool f] w fun e w' => e = .returned (.bool (fieldFlagsB x f)) ∧ w = w' := by
  have HW := hide (cfwithin_is x 31)
  have HA := hide (cfaccess_is x h0 h1)
  obtain ⟨a, ha⟩ : ∃ a, inB x 31 = a := ⟨_, rfl⟩
  rw [ha] at HW
  cases f
  · rw [fieldFlagsB, ha]
    generalize accB x = b at *
    clear ha h0 h1
    cases a <;>
    · go_enter Tryz.func58, Tryz.ntmps58
      go_wp2_with fail
      repeat (first
        | (refine (HA.out _).mono ?_; rintro e w1 ⟨rfl, rfl⟩; go_wp2_with fail)
        | (refine (HW.out _).mono ?_; rintro e w1 ⟨rfl, rfl⟩; go_wp2_with fail))
      go_ret
      exact ⟨rfl, rfl⟩
  · clear ha HW HA h0 h1
    go_enter Tryz.func58, Tryz.ntmps58
    go_wp2_with fail
    go_ret
    exact ⟨rfl, rfl⟩
theorem cfmethodMay_is (x : Int) (h0 : 0 ≤ x) (h1 : x < 65536) (w : World) : Calls Tryz.prog 83 #[.int .i64 x] w fun e w' => e = .returned (.bool (methodFlagsB x)) ∧ w = w' := by
  have HW := hide (cfwithin_is x 1055)
  have HA := hide (cfaccess_is x h0 h1)
  obtain ⟨a, ha⟩ : ∃ a, has x 1024 = a := ⟨_, rfl⟩
  obtain ⟨b, hb⟩ : ∃ b, has x 26 = b := ⟨_, rfl⟩
  obtain ⟨i, hi⟩ : ∃ i, inB x 1055 = i := ⟨_, rfl⟩
  rw [methodFlagsB, ha, hb, hi]
  rw [hi] at HW
  unfold has at ha hb
  clear hi h0 h1
  generalize accB x = c at *
  cases a <;> cases b <;> cases i <;>
  · go_enter Tryz.func83, Tryz.ntmps83
    go_wp2_with fail
    repeat (first
      | (refine (HA.out _).mono ?_; rintro e w1 ⟨rfl, rfl⟩; go_wp2_with fail)
      | (refine (HW.out _).mono ?_; rintro e w1 ⟨rfl, rfl⟩; go_wp2_with fail))
    go_ret
    exact ⟨rfl, rfl⟩
theorem cffaceMethodMay_is (x mj : Int) (w : World) : Calls Tryz.prog 81 #[.int .i64 x, .int .i64 mj] w fun e w' => e = .returned (.bool (faceFlagsB x mj)) ∧ w = w' := by
  obtain ⟨a, ha⟩ : ∃ a, (bits .and .i64 x 20 == 0) = a := ⟨_, rfl⟩
  have ha' : has x 20 = !a := by rw [← ha]; rfl
  obtain ⟨b, hb⟩ : ∃ b, has x 3 = b := ⟨_, rfl⟩
  unfold faceFlagsB
  rw [ha', hb]
  unfold has at hb
  clear ha'
  by_cases hm : mj < 52
  · rw [if_pos hm]
    clear ha hb
    go_enter Tryz.func81, Tryz.ntmps81
    go_wp2_with fail
    go_ret
    exact ⟨rfl, rfl⟩
  · rw [if_neg hm]
    cases a <;> cases b <;>
    · go_enter Tryz.func81, Tryz.ntmps81
      go_wp2_with fail
      go_ret
      exact ⟨rfl, rfl⟩
end Go.Proofs.YtbdbcalmjbmflaaGreatDoor
namespace Go.Proofs.YtbdbcalmjbmflaaGreatDoor
open Go.RowKit

/-- What stays as it is: the world ahead, the blocks of the cursor, its bytes, the class, the pool; where the pool begins and what room it has; the bytes, the entries. -/
structure CEnv where
  w0 : World
  g : Nat
  gb : Nat
  q : Nat
  pb : Nat
  po : Nat
  pc : Nat
  xs : List Int
  ps : List Cst
/-- A class's cells. -/
def clsV (E : CEnv) (mj fl : Int) (nm sp : ByteArray) (I F M : Value) : List Value := [.int .i64 mj, (.slice (some ⟨E.pb, E.po, none⟩) E.ps.length E.pc), .int .i64 fl, .string nm, .string sp, I, F, M]
structure CW (E : CEnv) (k : Nat) (cls : List Value) (w : World) : Prop where
  out : Below E.w0.heap.size E.w0 w
  mx : Maxed E.w0
  cur : Cur w E.g E.gb E.xs k false
  cls : At w E.q 40 cls
  pool : RdC w (E.pb + 1) (some ⟨E.pb, E.po, none⟩) E.ps.length E.ps
  hg : E.w0.heap.size ≤ E.g
  hq : E.w0.heap.size ≤ E.q
  pg : E.pb ≠ E.g
  pq : E.pb ≠ E.q
  hp : E.pb < w.heap.size
section
variable {E : CEnv} {k k' : Nat} {cls : List Value} {w w' : World}
theorem CW.maxed (h : CW E k cls w) : Maxed w := h.mx.below h.out
theorem CW.qg (h : CW E k cls w) : E.q ≠ E.g := h.cls.ne h.cur.1 (by decide)
theorem CW.turn (h : CW E k cls w) (hc : Cur w' E.g E.gb E.xs k' false) (hg : w.grownBy w' (some E.g)) : CW E k' cls w' :=
  ⟨h.out.grown hg h.out.size (by intro j hj; cases hj; exact h.hg), h.mx, hc, h.cls.grown hg (by simpa using h.qg),
    ⟨h.pool.1, fun hn => by
      obtain ⟨b, o, ha, hb, hcs⟩ := h.pool.2 hn
      obtain ⟨rfl, rfl⟩ : b = E.pb ∧ o = E.po := by simpa [eq_comm] using ha
      refine ⟨_, _, rfl, hb, fun j u hu => ?_⟩
      rw [← hcs j u hu]
      have := hg.block E.pb h.hp (by simpa using h.pg)
      unfold World.cell?
      simp only [this]⟩,
    h.hg, h.hq, h.pg, h.pq, Nat.lt_of_lt_of_le h.hp hg.size⟩
theorem CW.below (h : CW E k cls w) (hb : Below w.heap.size w w') : CW E k cls w' :=
  ⟨h.out.trans (hb.mono h.out.size), h.mx, h.cur.grown (grown_below hb none) (by simp) (by simp), h.cls.below hb h.cls.lt, h.pool.below (hb.mono h.hp), h.hg, h.hq, h.pg, h.pq, Nat.lt_of_lt_of_le h.hp hb.size⟩
theorem CW.far (h : CW E k cls w) {b : Nat} (hg : w.grownBy w' (some b)) (h1 : b ≠ E.g) (h2 : b ≠ E.gb) (h3 : b ≠ E.q) (h4 : b ≠ E.pb) (h5 : E.w0.heap.size ≤ b) : CW E k cls w' :=
  ⟨h.out.grown hg h.out.size (by intro j hj; cases hj; exact h5), h.mx, h.cur.grown hg (by simpa using h1.symm) (by simpa using h2.symm), h.cls.grown hg (by simpa using h3.symm),
    ⟨h.pool.1, fun hn => by
      obtain ⟨b', o, ha, hb, hcs⟩ := h.pool.2 hn
      obtain ⟨rfl, rfl⟩ : b' = E.pb ∧ o = E.po := by simpa [eq_comm] using ha
      refine ⟨_, _, rfl, hb, fun j u hu => ?_⟩
      rw [← hcs j u hu]
      have := hg.block E.pb h.hp (by simpa using h4.symm)
      unfold World.cell?
      simp only [this]⟩,
    h.hg, h.hq, h.pg, h.pq, Nat.lt_of_lt_of_le h.hp hg.size⟩
theorem CW.drewN (h : CW E k cls w) (n : Nat) : CW E k cls (w.drewN n) := h.below (below_drewN (Below.refl _ _) n)
/-- Nothing else turned than the cursor and the class; new memory. -/
def Grew (E : CEnv) (w w' : World) : Prop := w.heap.size ≤ w'.heap.size ∧ ∀ b, b < w.heap.size → b ≠ E.g → b ≠ E.q → w'.heap[b]? = w.heap[b]?
theorem Grew.refl (E : CEnv) (w : World) : Grew E w w := ⟨Nat.le_refl _, fun _ _ _ _ => rfl⟩
theorem Grew.trans {a b c : World} (h : Grew E a b) (h' : Grew E b c) : Grew E a c := ⟨Nat.le_trans h.1 h'.1, fun x hx h1 h2 => (h'.2 x (Nat.lt_of_lt_of_le hx h.1) h1 h2).trans (h.2 x hx h1 h2)⟩
theorem Grew.below (hb : Below w.heap.size w w') : Grew E w w' := ⟨hb.size, fun b h _ _ => hb.block b h⟩
theorem Grew.grown (hg : w.grownBy w' (some E.g)) : Grew E w w' := ⟨hg.size, fun b h h1 _ => hg.block b h (by simpa using h1)⟩
theorem At.grew {b : Nat} {t : TypeId} {cs : List Value} (h : At w b t cs) (hg : Grew E w w') (hc : CW E k cls w) (h1 : t ≠ 63) (h2 : t ≠ 40) : At w' b t cs :=
  (hg.2 b h.lt (h.ne hc.cur.1 h1) (h.ne hc.cls h2)).trans h
/-- The reader's own copy of what it stands on; what the call found has not turned. -/
def FB (E : CEnv) (wb : World) (k : Nat) (cls : List Value) (w : World) : Prop := CW E k cls w ∧ At w wb.heap.size 58 [.pointer (some ⟨E.g, 0, none⟩), .pointer (some ⟨E.q, 0, none⟩)] ∧ Grew E wb w ∧ E.g < wb.heap.size ∧ E.gb < wb.heap.size ∧ E.q < wb.heap.size ∧ E.pb < wb.heap.size
variable {wb : World}
theorem FB.below (h : FB E wb k cls w) (hb : Below w.heap.size w w') : FB E wb k cls w' := ⟨h.1.below hb, h.2.1.below hb h.2.1.lt, h.2.2.1.trans (.below hb), h.2.2.2⟩
theorem FB.drewN (h : FB E wb k cls w) (n : Nat) : FB E wb k cls (w.drewN n) := h.below (below_drewN (Below.refl _ _) n)
theorem FB.alloc (h : FB E wb k cls w) (o : Obj) : FB E wb k cls (w.alloc o) := h.below ((Below.refl _ _).alloc (Nat.le_refl _) o)
theorem FB.call {cls' : List Value} (h : FB E wb k cls w) (hc : CW E k' cls' w') (hg : Grew E w w') : FB E wb k' cls' w' := ⟨hc, h.2.1.grew hg h.1 (by decide) (by decide), h.2.2.1.trans hg, h.2.2.2⟩
theorem FB.put (h : FB E wb k cls w) {b i : Nat} (hb : wb.heap.size < b) (v : Value) : FB E wb k cls (w.setCell ⟨b, i, none⟩ v) := by
  have hs : w.grownBy (w.setCell ⟨b, i, none⟩ v) (some b) := only_set v
  obtain ⟨h1, h2, h3, l1, l2, l3, l4⟩ := h
  exact ⟨h1.far hs (by omega) (by omega) (by omega) (by omega) (by have := h1.hg; omega), h2.grown hs (by simp; omega),
    ⟨Nat.le_trans h3.1 hs.size, fun x hx g1 g2 => (hs.block x (Nat.lt_of_lt_of_le hx h3.1) (by simp; omega)).trans (h3.2 x hx g1 g2)⟩, l1, l2, l3, l4⟩
theorem FB.box (h : FB E wb k cls w) : w.cell? ⟨wb.heap.size, 0, none⟩ = some (.pointer (some ⟨E.g, 0, none⟩)) ∧ w.cell? ⟨wb.heap.size, 1, none⟩ = some (.pointer (some ⟨E.q, 0, none⟩)) := ⟨h.2.1.cell 0, h.2.1.cell 1⟩
theorem CW.boxed (h : CW E k cls w) : FB E w k cls (w.alloc (.cells #[.pointer (some ⟨E.g, 0, none⟩), .pointer (some ⟨E.q, 0, none⟩)] 58)) :=
  ⟨h.below ((Below.refl _ _).alloc (Nat.le_refl _) _), At.new w 58 [.pointer (some ⟨E.g, 0, none⟩), .pointer (some ⟨E.q, 0, none⟩)], .below ((Below.refl _ _).alloc (Nat.le_refl _) _), h.cur.1.lt, h.cur.2.1.lt, h.cls.lt, h.hp⟩
theorem FB.cells {mj fl : Int} {nm sp : ByteArray} {I F M : Value} (h : FB E wb k (clsV E mj fl nm sp I F M) w) :
    (w.cell? ⟨E.q, 0, none⟩ = some (.int .i64 mj) ∧ w.cell? ⟨E.q, 1, none⟩ = some (.slice (some ⟨E.pb, E.po, none⟩) E.ps.length E.pc) ∧ w.cell? ⟨E.q, 2, none⟩ = some (.int .i64 fl)) :=
  ⟨h.1.cls.cell 0, h.1.cls.cell 1, h.1.cls.cell 2⟩
/-- The number of n bytes at a place. -/
def numAt (xs : List Int) (k n : Nat) : Int := be ((xs.drop k).take n)
theorem got_in {xs : List Int} {k n : Nat} (h : k + n ≤ xs.length) : got xs k false n = (xs.drop k).take n ∧ went xs k false n = k + n ∧ (!okd xs k false n) = false := by
  have ho : okd xs k false (n : Int) = true := by unfold okd; simp; omega
  refine ⟨?_, ?_, by rw [ho]; rfl⟩
  · unfold got; rw [if_pos ho, Int.toNat_natCast]
  · unfold went; rw [if_pos ho, Int.toNat_natCast]
theorem cu2 (h : CW E k cls w) (hk : k + 2 ≤ E.xs.length) : Calls Tryz.prog 23 #[.pointer (some ⟨E.g, 0, none⟩)] w fun e w' => e = .returned (.int .i64 (numAt E.xs k 2)) ∧ CW E (k + 2) cls w' ∧ w.grownBy w' (some E.g) := by
  obtain ⟨h1, h2, h3⟩ : got E.xs k false 2 = (E.xs.drop k).take 2 ∧ went E.xs k false 2 = k + 2 ∧ (!okd E.xs k false 2) = false := got_in (n := 2) hk
  refine (u2_any E.g E.gb E.xs k false w h.cur _ _ _ (by rw [h1]) h2 h3).mono ?_
  rintro e w1 ⟨rfl, hc, hg⟩
  exact ⟨rfl, h.turn hc hg, hg⟩
theorem cu4 (h : CW E k cls w) (hk : k + 4 ≤ E.xs.length) : Calls Tryz.prog 22 #[.pointer (some ⟨E.g, 0, none⟩)] w fun e w' => e = .returned (.int .i64 (numAt E.xs k 4)) ∧ CW E (k + 4) cls w' ∧ w.grownBy w' (some E.g) := by
  obtain ⟨h1, h2, h3⟩ : got E.xs k false 4 = (E.xs.drop k).take 4 ∧ went E.xs k false 4 = k + 4 ∧ (!okd E.xs k false 4) = false := got_in (n := 4) hk
  refine (u4_any E.g E.gb E.xs k false w h.cur _ _ _ (by rw [h1]) h2 h3).mono ?_
  rintro e w1 ⟨rfl, hc, hg⟩
  exact ⟨rfl, h.turn hc hg, hg⟩
theorem cbytes (h : CW E k cls w) (n : Nat) (hk : k + n ≤ E.xs.length) : Calls Tryz.prog 67 #[.pointer (some ⟨E.g, 0, none⟩), .int .i64 n] w fun e w' => ∃ d, e = .returned (.slice (some ⟨d, 0, none⟩) n n) ∧ w.heap.size ≤ d ∧ At w' d 5 (bys ((E.xs.drop k).take n)) ∧ CW E (k + n) cls w' ∧ w.grownBy w' (some E.g) := by
  obtain ⟨h1, h2, h3⟩ := got_in hk
  refine (bytes_any E.g E.gb E.xs k n false w h.cur).mono ?_
  rintro e w1 ⟨d, rfl, hd, ha, hc, hg⟩
  rw [h1] at ha
  rw [h2, h3] at hc
  refine ⟨d, ?_, hd, ha, h.turn hc hg, hg⟩
  rw [h1]; simp only [List.length_take, List.length_drop]
  rw [Nat.min_eq_left (by omega)]
theorem fu2 (h : FB E wb k cls w) (hk : k + 2 ≤ E.xs.length) : Calls Tryz.prog 23 #[.pointer (some ⟨E.g, 0, none⟩)] w fun e w' => e = .returned (.int .i64 (numAt E.xs k 2)) ∧ FB E wb (k + 2) cls w' := by
  refine (cu2 h.1 hk).mono ?_
  rintro e w1 ⟨rfl, hc, hg⟩
  exact ⟨rfl, h.call hc (.grown hg)⟩
theorem fu4 (h : FB E wb k cls w) (hk : k + 4 ≤ E.xs.length) : Calls Tryz.prog 22 #[.pointer (some ⟨E.g, 0, none⟩)] w fun e w' => e = .returned (.int .i64 (numAt E.xs k 4)) ∧ FB E wb (k + 4) cls w' := by
  refine (cu4 h.1 hk).mono ?_
  rintro e w1 ⟨rfl, hc, hg⟩
  exact ⟨rfl, h.call hc (.grown hg)⟩
theorem fbytes (h : FB E wb k cls w) (n : Nat) (hk : k + n ≤ E.xs.length) : Calls Tryz.prog 67 #[.pointer (some ⟨E.g, 0, none⟩), .int .i64 n] w fun e w' => ∃ d, e = .returned (.slice (some ⟨d, 0, none⟩) n n) ∧ At w' d 5 (bys ((E.xs.drop k).take n)) ∧ FB E wb (k + n) cls w' := by
  refine (cbytes h.1 n hk).mono ?_
  rintro e w1 ⟨d, rfl, _, hd, hc, hg⟩
  exact ⟨d, rfl, hd, h.call hc (.grown hg)⟩
theorem CW.poolAll (h : CW E k cls w) : RdC w w.heap.size (some ⟨E.pb, E.po, none⟩) E.ps.length E.ps := h.pool.mono h.hp
theorem fclass (h : FB E wb k cls w) (i : Int) (t : List Int) (ht : classAt E.ps i = some t) : Calls Tryz.prog 48 #[(.slice (some ⟨E.pb, E.po, none⟩) E.ps.length E.pc), .int .i64 i] w fun e w' => e = .returned (.tuple #[.string (strOfNums t), .bool true]) ∧ FB E wb k cls w' := by
  refine (says_class _ _ E.pc E.ps i w h.1.poolAll).mono ?_
  rintro e w1 ⟨rfl, hb⟩
  exact ⟨by rw [ht]; rfl, h.below hb⟩
theorem ftext (h : FB E wb k cls w) (i : Int) (t : List Int) (ht : textAt E.ps i = some t) : Calls Tryz.prog 66 #[(.slice (some ⟨E.pb, E.po, none⟩) E.ps.length E.pc), .int .i64 i] w fun e w' => e = .returned (.tuple #[.string (strOfNums t), .bool true]) ∧ FB E wb k cls w' := by
  refine (says_text _ _ E.pc E.ps i w h.1.poolAll).mono ?_
  rintro e w1 ⟨rfl, hb⟩
  exact ⟨by rw [ht]; rfl, h.below hb⟩
end
end Go.Proofs.YtbdbcalmjbmflaaGreatDoor
namespace Go.Proofs.YtbdbcalmjbmflaaGreatDoor
open Go.RowKit

section
variable {E : CEnv} {k : Nat} {mj fl : Int} {nm sp : ByteArray} {I F M : Value} {w : World}
set_option maxHeartbeats 1000000 in
set_option maxRecDepth 100000 in
theorem named_any (h : CW E k (clsV E mj fl nm sp I F M) w) (hk : k + 2 ≤ E.xs.length) (t : List Int) (ht : classAt E.ps (numAt E.xs k 2) = some t) (hb : IsBytes t) :
    Calls Tryz.prog 33 #[(.agg #[.pointer (some ⟨E.g, 0, none⟩), .pointer (some ⟨E.q, 0, none⟩)])] w fun e w' => e = .returned (.tuple #[.string (strOfNums t), .bool (classB t)]) ∧ CW E (k + 2) (clsV E mj fl nm sp I F M) w' ∧ Grew E w w' := by
  have HB := hide h.boxed
  have HU : Hid (∀ W, FB E w k (clsV E mj fl nm sp I F M) W → Calls Tryz.prog 23 #[.pointer (some ⟨E.g, 0, none⟩)] W fun e w' => e = .returned (.int .i64 (numAt E.xs k 2)) ∧ FB E w (k + 2) (clsV E mj fl nm sp I F M) w') := hide fun W hW => fu2 hW hk
  have HC : Hid (∀ W, FB E w (k + 2) (clsV E mj fl nm sp I F M) W → Calls Tryz.prog 48 #[(.slice (some ⟨E.pb, E.po, none⟩) E.ps.length E.pc), .int .i64 (numAt E.xs k 2)] W fun e w' => e = .returned (.tuple #[.string (strOfNums t), .bool true]) ∧ FB E w (k + 2) (clsV E mj fl nm sp I F M) w') := hide fun W hW => fclass hW _ t ht
  have HN : Hid (∀ W, Calls Tryz.prog 49 #[.string (strOfNums t)] W (Tells (classB t) W)) := hide fun W => by
    have := class_any (strOfNums t) W
    rwa [nums_of t hb] at this
  clear h ht hb hk
  generalize numAt E.xs k 2 = v at *
  generalize classB t = c at *
  generalize strOfNums t = s at *
  obtain ⟨a0, a1⟩ := HB.out.box
  obtain ⟨b0, b1, b2⟩ := HB.out.cells
  go_enter Tryz.func33, Tryz.ntmps33
  go_wp2_with fail
  generalize w.alloc (.cells #[.pointer (some ⟨E.g, 0, none⟩), .pointer (some ⟨E.q, 0, none⟩)] 58) = wa at *
  go_region_held3 (fun W => W.cell? ⟨w.heap.size, 0, none⟩ = some (.pointer (some ⟨E.g, 0, none⟩)) ∧ W.cell? ⟨w.heap.size, 1, none⟩ = some (.pointer (some ⟨E.q, 0, none⟩)) ∧ W.cell? ⟨E.q, 1, none⟩ = some (.slice (some ⟨E.pb, E.po, none⟩) E.ps.length E.pc)) (go_keep) (first
    | (go_at_call 23; refine (HU.out _ (by first | exact HB.out.drewN _ | exact HB.out)).mono ?_; rintro e w1 ⟨rfl, h1⟩; obtain ⟨c0, c1⟩ := h1.box; obtain ⟨d0, d1, d2⟩ := h1.cells)
    | (go_at_call 48; refine (HC.out _ (by first | exact h1.drewN _ | exact h1)).mono ?_; rintro e w2 ⟨rfl, h2⟩; obtain ⟨e0, e1⟩ := h2.box; obtain ⟨f0, f1, f2⟩ := h2.cells))
  have H2 := hide h2
  clear h1 h2
  go_wp2_with fail
  refine (HN.out _).mono ?_
  rintro e w3 ⟨rfl, hb⟩
  go_wp2_with fail
  go_ret2
  exact ⟨rfl, (H2.out.below hb).1, (H2.out.below hb).2.2.1⟩

/-- A number of two bytes, a text by a number of two bytes. -/
def HasU2 (E : CEnv) (wb : World) (k : Nat) (cls : List Value) : Prop := Hid (∀ W, FB E wb k cls W → Calls Tryz.prog 23 #[.pointer (some ⟨E.g, 0, none⟩)] W fun e w' => e = .returned (.int .i64 (numAt E.xs k 2)) ∧ FB E wb (k + 2) cls w')
theorem hasU2 (E : CEnv) (wb : World) (k : Nat) (cls : List Value) (hk : k + 2 ≤ E.xs.length) : HasU2 E wb k cls := hide fun _ hW => fu2 hW hk

set_option maxHeartbeats 1000000 in
set_option maxRecDepth 100000 in
theorem member_any (h : CW E k (clsV E mj fl nm sp I F M) w) (hk : k + 6 ≤ E.xs.length) (n d : List Int) (hn : textAt E.ps (numAt E.xs (k + 2) 2) = some n) (hd : textAt E.ps (numAt E.xs (k + 4) 2) = some d) :
    Calls Tryz.prog 55 #[(.agg #[.pointer (some ⟨E.g, 0, none⟩), .pointer (some ⟨E.q, 0, none⟩)])] w fun e w' => e = .returned (.tuple #[.int .i64 (numAt E.xs k 2), .string (strOfNums n), .string (strOfNums d), .bool true]) ∧ CW E (k + 6) (clsV E mj fl nm sp I F M) w' ∧ Grew E w w' := by
  have HB := hide h.boxed
  have HU := hasU2 E w k (clsV E mj fl nm sp I F M) (by omega)
  have HU2 := hasU2 E w (k + 2) (clsV E mj fl nm sp I F M) (by omega)
  have HU4 := hasU2 E w (k + 4) (clsV E mj fl nm sp I F M) (by omega)
  have HT2 : Hid (∀ W, FB E w (k + 4) (clsV E mj fl nm sp I F M) W → Calls Tryz.prog 66 #[(.slice (some ⟨E.pb, E.po, none⟩) E.ps.length E.pc), .int .i64 (numAt E.xs (k + 2) 2)] W fun e w' => e = .returned (.tuple #[.string (strOfNums n), .bool true]) ∧ FB E w (k + 4) (clsV E mj fl nm sp I F M) w') := hide fun W hW => ftext hW _ n hn
  have HT4 : Hid (∀ W, FB E w (k + 6) (clsV E mj fl nm sp I F M) W → Calls Tryz.prog 66 #[(.slice (some ⟨E.pb, E.po, none⟩) E.ps.length E.pc), .int .i64 (numAt E.xs (k + 4) 2)] W fun e w' => e = .returned (.tuple #[.string (strOfNums d), .bool true]) ∧ FB E w (k + 6) (clsV E mj fl nm sp I F M) w') := hide fun W hW => ftext hW _ d hd
  clear h hk hn hd
  unfold HasU2 at HU HU2 HU4
  generalize numAt E.xs k 2 = v at *
  generalize numAt E.xs (k + 2) 2 = v2 at *
  generalize numAt E.xs (k + 4) 2 = v4 at *
  generalize strOfNums n = s at *
  generalize strOfNums d = t at *
  obtain ⟨a0, a1⟩ := HB.out.box
  go_enter Tryz.func55, Tryz.ntmps55
  go_wp2_with fail
  generalize w.alloc (.cells #[.pointer (some ⟨E.g, 0, none⟩), .pointer (some ⟨E.q, 0, none⟩)] 58) = wa at *
  refine (HU.out _ HB.out).mono ?_
  rintro e w1 ⟨rfl, h1⟩
  have H1 := hide h1
  clear h1 a0 a1 HB
  obtain ⟨a0, a1⟩ := H1.out.box
  obtain ⟨b0, b1, b2⟩ := H1.out.cells
  go_wp2_with fail
  go_region_held3 (fun W => W.cell? ⟨w.heap.size, 0, none⟩ = some (.pointer (some ⟨E.g, 0, none⟩)) ∧ W.cell? ⟨w.heap.size, 1, none⟩ = some (.pointer (some ⟨E.q, 0, none⟩)) ∧ W.cell? ⟨E.q, 1, none⟩ = some (.slice (some ⟨E.pb, E.po, none⟩) E.ps.length E.pc)) (go_keep) (first
    | (go_at_call 23; refine (HU2.out _ (by first | exact H1.out.drewN _ | exact H1.out)).mono ?_; rintro e w1 ⟨rfl, h1⟩; obtain ⟨c0, c1⟩ := h1.box; obtain ⟨d0, d1, d2⟩ := h1.cells)
    | (go_at_call 66; refine (HT2.out _ (by first | exact h1.drewN _ | exact h1)).mono ?_; rintro e w2 ⟨rfl, h2⟩; obtain ⟨e0, e1⟩ := h2.box; obtain ⟨f0, f1, f2⟩ := h2.cells))
  have H2 := hide h2
  clear h1 h2 H1 a0 a1 b0 b1 b2 c0 c1 d0 d1 d2
  go_wp2_with fail
  go_region_held3 (fun W => W.cell? ⟨w.heap.size, 0, none⟩ = some (.pointer (some ⟨E.g, 0, none⟩)) ∧ W.cell? ⟨w.heap.size, 1, none⟩ = some (.pointer (some ⟨E.q, 0, none⟩)) ∧ W.cell? ⟨E.q, 1, none⟩ = some (.slice (some ⟨E.pb, E.po, none⟩) E.ps.length E.pc)) (go_keep) (first
    | (go_at_call 23; refine (HU4.out _ (by first | exact H2.out.drewN _ | exact H2.out)).mono ?_; rintro e w3 ⟨rfl, h3⟩; obtain ⟨c0, c1⟩ := h3.box; obtain ⟨d0, d1, d2⟩ := h3.cells)
    | (go_at_call 66; refine (HT4.out _ (by first | exact h3.drewN _ | exact h3)).mono ?_; rintro e w4 ⟨rfl, h4⟩; obtain ⟨i0, i1⟩ := h4.box; obtain ⟨j0, j1, j2⟩ := h4.cells))
  have H4 := hide h4
  clear h3 h4 H2 c0 c1 d0 d1 d2 e0 e1 f0 f1 f2
  go_wp2_with fail
  refine bodyPost_ret (v := .tuple #[.int .i64 v, .string s, .string t, .bool true]) ?_ rfl ⟨rfl, by first | exact ⟨H4.out.1, H4.out.2.2.1⟩ | exact ⟨(H4.out.drewN _).1, (H4.out.drewN _).2.2.1⟩⟩
  simp [results, Tryz.results55, go_sem]
end
end Go.Proofs.YtbdbcalmjbmflaaGreatDoor
namespace Go.Proofs.YtbdbcalmjbmflaaGreatDoor
open Go.RowKit

theorem row_cells {w : World} {base : Nat} {e : TypeId} {v : Value} {n sz : Nat} {xs : List Value} (h : w.ownsRow base e sz v n xs) (hn : 0 < n) :
    ∃ g cap, v = .slice (some ⟨g, 0, none⟩) n cap ∧ base ≤ g ∧ g < w.heap.size ∧ ∀ j u, xs[j]? = some u → w.cell? ⟨g, j, none⟩ = some u := by
  obtain ⟨hl, ⟨rfl, rfl⟩ | ⟨g, cap, cur, rfl, hb, hg, hnc, hm, hs, ht⟩⟩ := h
  · exact absurd hn (Nat.lt_irrefl 0)
  · refine ⟨g, cap, rfl, hb, (Array.getElem?_eq_some_iff.1 hg).1, fun j u hu => ?_⟩
    rw [cell_of_row w g _ cur e (0, 0) hg]
    rw [← ht, List.getElem?_take] at hu
    split at hu
    · simpa using hu
    · cases hu
theorem attrinfo : (Tryz.prog.info? 107).map (fun i => (i.zero, i.size, i.bytes)) = some (some (.agg #[.string ⟨#[]⟩, .slice none 0 0]), 2, 40) := by kernel_rfl
theorem bytesinfo : (Tryz.prog.info? 29).map (fun i => (i.zero, i.size, i.bytes)) = some (some (.slice none 0 0), 1, 24) := by kernel_rfl
section
variable {E : CEnv} {k : Nat} {mj fl : Int} {nm sp : ByteArray} {I F M : Value} {w : World}
set_option maxHeartbeats 1000000 in
set_option maxRecDepth 100000 in
theorem attributes_0 (h : CW E k (clsV E mj fl nm sp I F M) w) (hk : k + 2 ≤ E.xs.length) (h0 : numAt E.xs k 2 = 0) :
    Calls Tryz.prog 44 #[(.agg #[.pointer (some ⟨E.g, 0, none⟩), .pointer (some ⟨E.q, 0, none⟩)])] w fun e w' => e = .returned (.tuple #[.slice none 0 0, .bool true]) ∧ CW E (k + 2) (clsV E mj fl nm sp I F M) w' ∧ Grew E w w' := by
  have HB := hide h.boxed
  have HU := hasU2 E w k (clsV E mj fl nm sp I F M) hk
  clear h hk
  unfold HasU2 at HU
  rw [h0] at HU
  clear h0
  obtain ⟨a0, a1⟩ := HB.out.box
  go_enter Tryz.func44, Tryz.ntmps44
  go_wp2_with fail
  generalize w.alloc (.cells #[.pointer (some ⟨E.g, 0, none⟩), .pointer (some ⟨E.q, 0, none⟩)] 58) = wa at *
  refine (HU.out _ HB.out).mono ?_
  rintro e w1 ⟨rfl, h1⟩
  have H1 := hide h1
  clear h1 a0 a1 HB
  go_wp2_with fail
  go_loopw [4, 11] (fun v iv wr => v = .slice none 0 0 ∧ iv = .int .i64 0 ∧ wr = w1) (fun _ _ _ => 0)
  case atStart => exact ⟨rfl, rfl, rfl⟩
  case round =>
    obtain ⟨rfl, rfl, rfl⟩ := hrel
    go_wp2_with fail
    go_ret2
    exact ⟨rfl, H1.out.1, H1.out.2.2.1⟩

/-- One attribute as it was read: its name, its bytes. -/
def Attr1 (w : World) (V : Value) (s : ByteArray) (xs : List Int) : Prop :=
  ∃ a c d, V = .slice (some ⟨a, 0, none⟩) 1 c ∧ a < w.heap.size ∧ w.cell? ⟨a, 0, none⟩ = some (.string s) ∧ w.cell? ⟨a, 1, none⟩ = some (.slice (some ⟨d, 0, none⟩) xs.length xs.length) ∧ At w d 5 (bys xs)

set_option maxHeartbeats 2000000 in
set_option maxRecDepth 100000 in
theorem attributes_1 (h : CW E k (clsV E mj fl nm sp I F M) w) (n : Nat) (hk : k + 8 + n ≤ E.xs.length) (h0 : numAt E.xs k 2 = 1) (t : List Int) (ht : textAt E.ps (numAt E.xs (k + 2) 2) = some t) (s : ByteArray) (hs : strOfNums t = s) (h4 : numAt E.xs (k + 4) 4 = n) :
    Calls Tryz.prog 44 #[(.agg #[.pointer (some ⟨E.g, 0, none⟩), .pointer (some ⟨E.q, 0, none⟩)])] w fun e w' => ∃ V, e = .returned (.tuple #[V, .bool true]) ∧ Attr1 w' V s ((E.xs.drop (k + 8)).take n) ∧ CW E (k + 8 + n) (clsV E mj fl nm sp I F M) w' ∧ Grew E w w' := by
  have HB := hide h.boxed
  have HU := hasU2 E w k (clsV E mj fl nm sp I F M) (by omega)
  have HU2 := hasU2 E w (k + 2) (clsV E mj fl nm sp I F M) (by omega)
  have HT : Hid (∀ W, FB E w (k + 4) (clsV E mj fl nm sp I F M) W → Calls Tryz.prog 66 #[(.slice (some ⟨E.pb, E.po, none⟩) E.ps.length E.pc), .int .i64 (numAt E.xs (k + 2) 2)] W fun e w' => e = .returned (.tuple #[.string s, .bool true]) ∧ FB E w (k + 4) (clsV E mj fl nm sp I F M) w') := hide fun W hW => by
    have := ftext hW _ t ht
    rwa [hs] at this
  have HU4 : Hid (∀ W, FB E w (k + 4) (clsV E mj fl nm sp I F M) W → Calls Tryz.prog 22 #[.pointer (some ⟨E.g, 0, none⟩)] W fun e w' => e = .returned (.int .i64 n) ∧ FB E w (k + 8) (clsV E mj fl nm sp I F M) w') := hide fun W hW => by
    have := fu4 hW (by omega)
    rwa [h4] at this
  have HY : Hid (∀ W, FB E w (k + 8) (clsV E mj fl nm sp I F M) W → Calls Tryz.prog 67 #[.pointer (some ⟨E.g, 0, none⟩), .int .i64 n] W fun e w' => ∃ d, e = .returned (.slice (some ⟨d, 0, none⟩) n n) ∧ At w' d 5 (bys ((E.xs.drop (k + 8)).take n)) ∧ FB E w (k + 8 + n) (clsV E mj fl nm sp I F M) w') := hide fun W hW => fbytes hW n hk
  have HO : Hid (∀ W, FB E w (k + 8 + n) (clsV E mj fl nm sp I F M) W → Calls Tryz.prog 20 #[.pointer (some ⟨E.g, 0, none⟩)] W fun e w' => e = .returned (.bool true) ∧ W = w') := hide fun W hW => ok_any _ _ _ _ false W hW.1.cur
  have hln : ((E.xs.drop (k + 8)).take n).length = n := by rw [List.length_take, List.length_drop]; omega
  have hnl : n ≤ 140737488355328 := by have := h.cur.2.2.2.2; omega
  have hsz := h.out.size
  clear h hk ht h4 hs
  unfold HasU2 at HU HU2
  rw [h0] at HU
  clear h0
  unfold Attr1
  rw [hln]
  generalize (E.xs.drop (k + 8)).take n = ys at *
  generalize numAt E.xs (k + 2) 2 = v2 at *
  obtain ⟨a0, a1⟩ := HB.out.box
  obtain ⟨i0, hi0, iz0, iz1, iz2⟩ := info_parts attrinfo
  go_enter Tryz.func44, Tryz.ntmps44
  go_wp2_with fail
  generalize w.alloc (.cells #[.pointer (some ⟨E.g, 0, none⟩), .pointer (some ⟨E.q, 0, none⟩)] 58) = wa at *
  refine (HU.out _ HB.out).mono ?_
  rintro e w1 ⟨rfl, h1⟩
  have H1 := hide h1
  clear h1 a0 a1 HB
  go_wp2_with fail
  go_loopw [4, 11] (fun v iv wr => (v = .slice none 0 0 ∧ iv = .int .i64 0 ∧ wr = w1) ∨ (iv = .int .i64 1 ∧ FB E w (k + 8 + n) (clsV E mj fl nm sp I F M) wr ∧ ∃ d, At wr d 5 (bys ys) ∧ wr.ownsRow w.heap.size 107 2 v 1 [.string s, .slice (some ⟨d, 0, none⟩) n n])) (fun _ iv _ => 1 - (intOf iv).toNat)
  case atStart => exact .inl ⟨rfl, rfl, rfl⟩
  case round =>
    rcases hrel with ⟨rfl, rfl, rfl⟩ | ⟨rfl, hf, d, hd, hown⟩
    · obtain ⟨a0, a1⟩ := H1.out.box
      obtain ⟨b0, b1, b2⟩ := H1.out.cells
      go_wp2_with fail
      go_region_held3 (fun W => W.cell? ⟨w.heap.size, 0, none⟩ = some (.pointer (some ⟨E.g, 0, none⟩)) ∧ W.cell? ⟨w.heap.size, 1, none⟩ = some (.pointer (some ⟨E.q, 0, none⟩)) ∧ W.cell? ⟨E.q, 1, none⟩ = some (.slice (some ⟨E.pb, E.po, none⟩) E.ps.length E.pc)) (go_keep) (first
        | (go_at_call 23; refine (HU2.out _ (by first | exact H1.out.drewN _ | exact H1.out)).mono ?_; rintro e w1 ⟨rfl, h1⟩; obtain ⟨c0, c1⟩ := h1.box; obtain ⟨d0, d1, d2⟩ := h1.cells)
        | (go_at_call 66; refine (HT.out _ (by first | exact h1.drewN _ | exact h1)).mono ?_; rintro e w2 ⟨rfl, h2⟩; obtain ⟨e0, e1⟩ := h2.box; obtain ⟨f0, f1, f2⟩ := h2.cells))
      have H2 := hide h2
      clear h1 h2 H1 a0 a1 b0 b1 b2 c0 c1 d0 d1 d2
      go_wp2_with fail
      go_region_held3 (fun W => W.cell? ⟨w.heap.size, 0, none⟩ = some (.pointer (some ⟨E.g, 0, none⟩))) (go_keep) (first
        | (go_at_call 22; refine (HU4.out _ (by first | exact H2.out.drewN _ | exact H2.out)).mono ?_; rintro e w3 ⟨rfl, h3⟩; obtain ⟨c0, c1⟩ := h3.box)
        | (go_at_call 67; refine (HY.out _ (by first | exact h3.drewN _ | exact h3)).mono ?_; rintro e w4 ⟨d, rfl, hd, h4⟩; obtain ⟨j0, j1⟩ := h4.box))
      have H4 := hide h4
      have HD := hide hd
      clear h3 h4 H2 c0 c1 e0 e1 f0 f1 f2 hd
      go_wp2_with fail
      refine (HO.out _ (by first | exact H4.out | exact H4.out.drewN _)).mono ?_
      rintro e w5 ⟨rfl, rfl⟩
      have hbx := H4.out.2.1.lt
      have HN : Hid (w4.ownsRow w.heap.size 107 2 (.slice none 0 0) 0 []) := hide ⟨rfl, .inl ⟨rfl, rfl⟩⟩
      go_wp2_with (at_builtin; go_loud (refine wpList_append_many w4 rfl (.tmp 39) (.tmp 43) 80 rfl w.heap.size 107 i0 _ 40 2 (by omega) Tryz.underlying80 hi0 iz0 iz1 iz2 rfl (.slice none 0 0) 0 [] rfl HN.out [.string s, .slice (some ⟨d, 0, none⟩) n n] rfl _ rfl rfl rfl (by unfold maxLen; omega) (by omega) (by omega) ?_); intro v5 w5 hown5 hg5)
      have hb5 := below_grown hg5
      exact ⟨.inr ⟨rfl, H4.out.below hb5, d, HD.out.below hb5 HD.out.lt, hown5⟩, by simp [intOf]⟩
    · have HF := hide hf
      have HD := hide hd
      have HN := hide hown
      clear hf hd hown
      go_wp2_with fail
      go_ret2
      obtain ⟨g, cap, rfl, _, hlt, hcs⟩ := row_cells HN.out (by omega)
      exact ⟨_, rfl, ⟨g, cap, d, rfl, hlt, hcs 0 _ rfl, hcs 1 _ rfl, HD.out⟩, HF.out.1, HF.out.2.2.1⟩

/-- The contents of one attribute, kept. -/
def Known1 (w : World) (V : Value) (xs : List Int) : Prop :=
  ∃ a c d, V = .slice (some ⟨a, 0, none⟩) 1 c ∧ a < w.heap.size ∧ w.cell? ⟨a, 0, none⟩ = some (.slice (some ⟨d, 0, none⟩) xs.length xs.length) ∧ At w d 5 (bys xs)

set_option maxHeartbeats 1000000 in
set_option maxRecDepth 100000 in
theorem known_0 (h : CW E k (clsV E mj fl nm sp I F M) w) (hk : k + 2 ≤ E.xs.length) (h0 : numAt E.xs k 2 = 0) (s : ByteArray) :
    Calls Tryz.prog 79 #[(.agg #[.pointer (some ⟨E.g, 0, none⟩), .pointer (some ⟨E.q, 0, none⟩)]), .string s] w fun e w' => e = .returned (.tuple #[.slice none 0 0, .bool true]) ∧ CW E (k + 2) (clsV E mj fl nm sp I F M) w' ∧ Grew E w w' := by
  have HB := hide h.boxed
  have HA : Hid (∀ W, CW E k (clsV E mj fl nm sp I F M) W → Calls Tryz.prog 44 #[(.agg #[.pointer (some ⟨E.g, 0, none⟩), .pointer (some ⟨E.q, 0, none⟩)])] W fun e w' => e = .returned (.tuple #[.slice none 0 0, .bool true]) ∧ CW E (k + 2) (clsV E mj fl nm sp I F M) w' ∧ Grew E W w') := hide fun W hW => attributes_0 hW hk h0
  clear h hk h0
  obtain ⟨a0, a1⟩ := HB.out.box
  go_enter Tryz.func79, Tryz.ntmps79
  go_wp2_with fail
  generalize w.alloc (.cells #[.pointer (some ⟨E.g, 0, none⟩), .pointer (some ⟨E.q, 0, none⟩)] 58) = wa at *
  refine (HA.out _ HB.out.1).mono ?_
  rintro e w1 ⟨rfl, h1, hg1⟩
  have H1 := hide (HB.out.call h1 hg1)
  clear h1 hg1 a0 a1 HB
  go_wp2_with fail
  go_loopw [8, 18] (fun v iv wr => v = .slice none 0 0 ∧ iv = .int .i64 0 ∧ wr = w1) (fun _ _ _ => 0)
  case atStart => exact ⟨rfl, rfl, rfl⟩
  case round =>
    obtain ⟨rfl, rfl, rfl⟩ := hrel
    go_wp2_with fail
    go_ret2
    exact ⟨rfl, H1.out.1, H1.out.2.2.1⟩

set_option maxHeartbeats 2000000 in
set_option maxRecDepth 100000 in
theorem known_code (h : CW E k (clsV E mj fl nm sp I F M) w) (n : Nat) (hk : k + 8 + n ≤ E.xs.length) (h0 : numAt E.xs k 2 = 1) (ht : textAt E.ps (numAt E.xs (k + 2) 2) = some [67, 111, 100, 101]) (h4 : numAt E.xs (k + 4) 4 = n) :
    Calls Tryz.prog 79 #[(.agg #[.pointer (some ⟨E.g, 0, none⟩), .pointer (some ⟨E.q, 0, none⟩)]), .string ⟨#[67, 111, 100, 101]⟩] w fun e w' => ∃ V, e = .returned (.tuple #[V, .bool true]) ∧ Known1 w' V ((E.xs.drop (k + 8)).take n) ∧ CW E (k + 8 + n) (clsV E mj fl nm sp I F M) w' ∧ Grew E w w' := by
  have HB := hide h.boxed
  have HA : Hid (∀ W, CW E k (clsV E mj fl nm sp I F M) W → Calls Tryz.prog 44 #[(.agg #[.pointer (some ⟨E.g, 0, none⟩), .pointer (some ⟨E.q, 0, none⟩)])] W fun e w' => ∃ V, e = .returned (.tuple #[V, .bool true]) ∧ Attr1 w' V ⟨#[67, 111, 100, 101]⟩ ((E.xs.drop (k + 8)).take n) ∧ CW E (k + 8 + n) (clsV E mj fl nm sp I F M) w' ∧ Grew E W w') := hide fun W hW => attributes_1 hW n hk h0 _ ht _ rfl h4
  have hln : ((E.xs.drop (k + 8)).take n).length = n := by rw [List.length_take, List.length_drop]; omega
  have hnl : n ≤ 140737488355328 := by have := h.cur.2.2.2.2; omega
  clear h hk h0 ht h4
  generalize (E.xs.drop (k + 8)).take n = ys at *
  unfold Attr1 at HA
  unfold Known1
  rw [hln] at HA ⊢
  obtain ⟨a0, a1⟩ := HB.out.box
  obtain ⟨i0, hi0, iz0, iz1, iz2⟩ := info_parts bytesinfo
  go_enter Tryz.func79, Tryz.ntmps79
  go_wp2_with fail
  generalize w.alloc (.cells #[.pointer (some ⟨E.g, 0, none⟩), .pointer (some ⟨E.q, 0, none⟩)] 58) = wa at *
  refine (HA.out _ HB.out.1).mono ?_
  rintro e w1 ⟨V, rfl, ⟨a, c, d, rfl, hlt, ha0, ha1, hd⟩, h1, hg1⟩
  have H1 := hide (HB.out.call h1 hg1)
  have HD := hide hd
  clear h1 hg1 a0 a1 HB hd HA
  go_wp2_with fail
  go_loopw [8, 18] (fun v iv wr => (v = .slice none 0 0 ∧ iv = .int .i64 0 ∧ wr = w1) ∨ (iv = .int .i64 1 ∧ FB E w (k + 8 + n) (clsV E mj fl nm sp I F M) wr ∧ At wr d 5 (bys ys) ∧ wr.ownsRow w1.heap.size 29 1 v 1 [.slice (some ⟨d, 0, none⟩) n n])) (fun _ iv _ => 1 - (intOf iv).toNat)
  case atStart => exact .inl ⟨rfl, rfl, rfl⟩
  case round =>
    rcases hrel with ⟨rfl, rfl, rfl⟩ | ⟨rfl, hf, hd, hown⟩
    · have HN : Hid ((wr.alloc (.cells #[.string ⟨#[67, 111, 100, 101]⟩, .slice (some ⟨d, 0, none⟩) n n] 107)).ownsRow wr.heap.size 29 1 (.slice none 0 0) 0 []) := hide ⟨rfl, .inl ⟨rfl, rfl⟩⟩
      have hb1 := (Below.refl wr.heap.size wr).alloc (Nat.le_refl _) (.cells #[.string ⟨#[67, 111, 100, 101]⟩, .slice (some ⟨d, 0, none⟩) n n] 107)
      have HB1 := hide hb1
      clear hb1
      go_wp2_with (at_builtin; go_loud (refine wpList_append_many (wr.alloc (.cells #[.string ⟨#[67, 111, 100, 101]⟩, .slice (some ⟨d, 0, none⟩) n n] 107)) rfl (.tmp 26) (.tmp 29) 129 rfl wr.heap.size 29 i0 _ 24 1 (by omega) Tryz.underlying129 hi0 iz0 iz1 iz2 rfl (.slice none 0 0) 0 [] rfl HN.out [.slice (some ⟨d, 0, none⟩) n n] rfl _ (by simp) rfl rfl (by unfold maxLen; omega) (by omega) (by simp) ?_); intro v5 w5 hown5 hg5)
      have hb5 := HB1.out.trans ((below_grown hg5).mono (by simp))
      exact ⟨.inr ⟨rfl, H1.out.below hb5, HD.out.below hb5 HD.out.lt, hown5⟩, by simp [intOf]⟩
    · have HF := hide hf
      have HD := hide hd
      have HN := hide hown
      clear hf hd hown
      go_wp2_with fail
      go_ret2
      obtain ⟨g, cap, rfl, _, hlt, hcs⟩ := row_cells HN.out (by omega)
      exact ⟨_, rfl, ⟨g, cap, d, rfl, hlt, hcs 0 _ rfl, HD.out⟩, HF.out.1, HF.out.2.2.1⟩
end
end Go.Proofs.YtbdbcalmjbmflaaGreatDoor
namespace Go.Proofs.YtbdbcalmjbmflaaGreatDoor
open Go.RowKit

section
variable {E : CEnv} {k : Nat} {mj fl : Int} {nm sp : ByteArray} {I F M : Value} {w : World}
set_option maxHeartbeats 1000000 in
set_option maxRecDepth 100000 in
theorem value_0 (h : CW E k (clsV E mj fl nm sp I F M) w) (hk : k + 2 ≤ E.xs.length) (h0 : numAt E.xs k 2 = 0) (f : Int) (s : ByteArray) :
    Calls Tryz.prog 59 #[(.agg #[.pointer (some ⟨E.g, 0, none⟩), .pointer (some ⟨E.q, 0, none⟩)]), .int .i64 f, .string s] w fun e w' => e = .returned (.tuple #[.int .i64 0, .bool true]) ∧ CW E (k + 2) (clsV E mj fl nm sp I F M) w' ∧ Grew E w w' := by
  have HB := hide h.boxed
  have HK : Hid (∀ W, CW E k (clsV E mj fl nm sp I F M) W → Calls Tryz.prog 79 #[(.agg #[.pointer (some ⟨E.g, 0, none⟩), .pointer (some ⟨E.q, 0, none⟩)]), .string ⟨#[67, 111, 110, 115, 116, 97, 110, 116, 86, 97, 108, 117, 101]⟩] W fun e w' => e = .returned (.tuple #[.slice none 0 0, .bool true]) ∧ CW E (k + 2) (clsV E mj fl nm sp I F M) w' ∧ Grew E W w') := hide fun W hW => known_0 hW hk h0 _
  clear h hk h0
  obtain ⟨a0, a1⟩ := HB.out.box
  go_enter Tryz.func59, Tryz.ntmps59
  go_wp2_with fail
  generalize w.alloc (.cells #[.pointer (some ⟨E.g, 0, none⟩), .pointer (some ⟨E.q, 0, none⟩)] 58) = wa at *
  refine (HK.out _ HB.out.1).mono ?_
  rintro e w1 ⟨rfl, h1, hg1⟩
  have H1 := hide (HB.out.call h1 hg1)
  clear h1 hg1 HB a0 a1
  go_wp2_with fail
  go_ret2
  exact ⟨rfl, H1.out.1, H1.out.2.2.1⟩

def zCode : List Value := [.int .i64 0, .int .i64 0, .slice none 0 0, .slice none 0 0, .slice none 0 0]
set_option maxHeartbeats 1000000 in
set_option maxRecDepth 100000 in
/-- No attribute. -/
theorem body_0 (h : CW E k (clsV E mj fl nm sp I F M) w) (hk : k + 2 ≤ E.xs.length) (h0 : numAt E.xs k 2 = 0) (f a : Int) :
    Calls Tryz.prog 65 #[(.agg #[.pointer (some ⟨E.g, 0, none⟩), .pointer (some ⟨E.q, 0, none⟩)]), .int .i64 f, .int .i64 a] w fun e w' => e = .returned (.tuple #[.agg #[.int .i64 0, .int .i64 0, .slice none 0 0, .slice none 0 0, .slice none 0 0], .bool false, .bool (has f 1024)]) ∧ CW E (k + 2) (clsV E mj fl nm sp I F M) w' ∧ Grew E w w' := by
  have HK : Hid (∀ W, CW E k (clsV E mj fl nm sp I F M) W → Calls Tryz.prog 79 #[(.agg #[.pointer (some ⟨E.g, 0, none⟩), .pointer (some ⟨E.q, 0, none⟩)]), .string ⟨#[67, 111, 100, 101]⟩] W fun e w' => e = .returned (.tuple #[.slice none 0 0, .bool true]) ∧ CW E (k + 2) (clsV E mj fl nm sp I F M) w' ∧ Grew E W w') := hide fun W hW => known_0 hW hk h0 _
  have HB := hide (h.boxed.alloc (.cells #[.int .i64 0, .int .i64 0, .slice none 0 0, .slice none 0 0, .slice none 0 0] 45))
  have HC := hide (At.new (w.alloc (.cells #[.pointer (some ⟨E.g, 0, none⟩), .pointer (some ⟨E.q, 0, none⟩)] 58)) 45 zCode)
  have hz : (w.alloc (.cells #[.pointer (some ⟨E.g, 0, none⟩), .pointer (some ⟨E.q, 0, none⟩)] 58)).heap.size = w.heap.size + 1 := by simp
  rw [hz] at HC
  clear h hk h0 hz
  unfold zCode at HC
  obtain ⟨a0, a1⟩ := HB.out.box
  obtain ⟨b, hb⟩ : ∃ b, has f 1024 = b := ⟨_, rfl⟩
  rw [hb]
  unfold has at hb
  cases b <;>
  · go_enter Tryz.func65, Tryz.ntmps65
    go_wp2_with fail
    generalize (w.alloc (.cells #[.pointer (some ⟨E.g, 0, none⟩), .pointer (some ⟨E.q, 0, none⟩)] 58)).alloc (.cells #[.int .i64 0, .int .i64 0, .slice none 0 0, .slice none 0 0, .slice none 0 0] 45) = wa at *
    refine (HK.out _ HB.out.1).mono ?_
    rintro e w1 ⟨rfl, h1, hg1⟩
    have HC1 := hide (HC.out.grew hg1 HB.out.1 (by decide) (by decide))
    have H1 := hide (HB.out.call h1 hg1)
    clear h1 hg1 HB HC a0 a1
    have z0 : w1.cell? ⟨w.heap.size + 1, 0, none⟩ = some (.int .i64 0) := HC1.out.cell 0
    have z1 : w1.cell? ⟨w.heap.size + 1, 1, none⟩ = some (.int .i64 0) := HC1.out.cell 1
    have z2 : w1.cell? ⟨w.heap.size + 1, 2, none⟩ = some (.slice none 0 0) := HC1.out.cell 2
    have z3 : w1.cell? ⟨w.heap.size + 1, 3, none⟩ = some (.slice none 0 0) := HC1.out.cell 3
    have z4 : w1.cell? ⟨w.heap.size + 1, 4, none⟩ = some (.slice none 0 0) := HC1.out.cell 4
    have f0 : w1.frozen? ⟨w.heap.size + 1, 0, none⟩ = false := HC1.out.free 0
    have f1 : w1.frozen? ⟨w.heap.size + 1, 1, none⟩ = false := HC1.out.free 1
    have f2 : w1.frozen? ⟨w.heap.size + 1, 2, none⟩ = false := HC1.out.free 2
    have f3 : w1.frozen? ⟨w.heap.size + 1, 3, none⟩ = false := HC1.out.free 3
    have f4 : w1.frozen? ⟨w.heap.size + 1, 4, none⟩ = false := HC1.out.free 4
    go_wp2_with fail
    have HF := ((((H1.out.put (b := w.heap.size + 1) (i := 0) (by omega) (.int .i64 0)).put (b := w.heap.size + 1) (i := 1) (by omega) (.int .i64 0)).put (b := w.heap.size + 1) (i := 2) (by omega) (.slice none 0 0)).put (b := w.heap.size + 1) (i := 3) (by omega) (.slice none 0 0)).put (b := w.heap.size + 1) (i := 4) (by omega) (.slice none 0 0)
    have HS := ((((HC1.out.set 0 (.int .i64 0)).set 1 (.int .i64 0)).set 2 (.slice none 0 0)).set 3 (.slice none 0 0)).set 4 (.slice none 0 0)
    generalize World.setCell (World.setCell (World.setCell (World.setCell (World.setCell _ _ _) _ _) _ _) _ _) _ _ = w9 at *
    have q0 : w9.cell? ⟨w.heap.size + 1, 0, none⟩ = some (.int .i64 0) := HS.cell 0
    have q1 : w9.cell? ⟨w.heap.size + 1, 1, none⟩ = some (.int .i64 0) := HS.cell 1
    have q2 : w9.cell? ⟨w.heap.size + 1, 2, none⟩ = some (.slice none 0 0) := HS.cell 2
    have q3 : w9.cell? ⟨w.heap.size + 1, 3, none⟩ = some (.slice none 0 0) := HS.cell 3
    have q4 : w9.cell? ⟨w.heap.size + 1, 4, none⟩ = some (.slice none 0 0) := HS.cell 4
    refine bodyPost_ret (v := .tuple #[.agg #[.int .i64 0, .int .i64 0, .slice none 0 0, .slice none 0 0, .slice none 0 0], .bool false, .bool _]) ?_ rfl ⟨rfl, HF.1, HF.2.2.1⟩
    simp [results, Tryz.results65, go_sem, q0, q1, q2, q3, q4]
/-- What is said of a body that is one return. -/
def Body1Says : Prop := ∀ (E : CEnv) (k : Nat) (mj fl : Int) (nm sp : ByteArray) (I F M : Value) (w : World), CW E k (clsV E mj fl nm sp I F M) w → k + 8 + 13 ≤ E.xs.length → numAt E.xs k 2 = 1 → textAt E.ps (numAt E.xs (k + 2) 2) = some [67, 111, 100, 101] → numAt E.xs (k + 4) 4 = 13 → (E.xs.drop (k + 8)).take 13 = B13 → ∀ (f a : Int), a ≤ 1 →
    Calls Tryz.prog 65 #[(.agg #[.pointer (some ⟨E.g, 0, none⟩), .pointer (some ⟨E.q, 0, none⟩)]), .int .i64 f, .int .i64 a] w fun e w' => ∃ (c0 c1 : Int) (A : Option Addr) (n : Nat), e = .returned (.tuple #[.agg #[.int .i64 c0, .int .i64 c1, .slice A n n, .slice none 0 0, .slice none 0 0], .bool (!has f 1024), .bool (!has f 1024)]) ∧ CW E (k + 8 + 13) (clsV E mj fl nm sp I F M) w' ∧ Grew E w w'
end
end Go.Proofs.YtbdbcalmjbmflaaGreatDoor
namespace Go.Proofs.YtbdbcalmjbmflaaGreatDoor
open Go.RowKit
/-! ### the region that reads the body, whatever order it draws -/
def aggC (q : Nat) : Value := .agg #[.int .i64 1, .int .i64 1, .slice (some ⟨q, 0, none⟩) 1 1, .slice none 0 0, .slice none 0 0]
def tupC (q : Nat) : Value := .tuple #[aggC q, .bool true]
def fullC (q : Nat) : List Value := [.int .i64 1, .int .i64 1, .slice (some ⟨q, 0, none⟩) 1 1, .slice none 0 0, .slice none 0 0]
def BWd (w1 : World) (l : Nat → Bool) (val : Nat → Value) (W : World) : Prop :=
  Below w1.heap.size w1 W ∧ (l 14 = true → ∃ q, val 14 = tupC q) ∧ (l 15 = true → ∃ q, val 15 = tupC q) ∧ (l 16 = true → ∃ q, val 16 = aggC q) ∧
    (l 18 = true → ∃ b, val 18 = .pointer (some ⟨b, 0, none⟩) ∧ w1.heap.size ≤ b ∧ (l 19 = false → At W b 45 zCode) ∧ (l 19 = true → ∃ q, At W b 45 (fullC q))) ∧ (l 19 = true → l 18 = true)
theorem come_other {l : Nat → Bool} {i j : Nat} (h : j ≠ i) : come l i j = l j := by simp [come, h]
theorem upd_other {val : Nat → Value} {i j : Nat} {v : Value} (h : j ≠ i) : upd val i v j = val j := by simp [upd, h]
theorem bwd_other {w1 : World} {i : Nat} (h : i ≠ 14 ∧ i ≠ 15 ∧ i ≠ 16 ∧ i ≠ 18 ∧ i ≠ 19) (v : Value) : ∀ l val W, BWd w1 l val W → BWd w1 (come l i) (upd val i v) W := fun l val W hW => by
  obtain ⟨h1, h2, h3, h4, h5⟩ := h
  unfold BWd
  rw [come_other h1.symm, come_other h2.symm, come_other h3.symm, come_other h4.symm, come_other h5.symm, upd_other h1.symm, upd_other h2.symm, upd_other h3.symm, upd_other h4.symm]
  exact hW
theorem bwd_below {w1 : World} {l : Nat → Bool} {val : Nat → Value} {W W' : World} (h : BWd w1 l val W) (hb : Below W.heap.size W W') : BWd w1 l val W' := by
  obtain ⟨h0, h1, h2, h3, h4, h5⟩ := h
  refine ⟨h0.trans (hb.mono h0.size), h1, h2, h3, fun hl => ?_, h5⟩
  obtain ⟨b, e, hb1, ha, hf⟩ := h4 hl
  exact ⟨b, e, hb1, fun x => (ha x).below hb (ha x).lt, fun x => by obtain ⟨q, hq⟩ := hf x; exact ⟨q, hq.below hb hq.lt⟩⟩
theorem bwd_14 {w1 : World} {l : Nat → Bool} {val : Nat → Value} {W : World} (h : BWd w1 l val W) (q : Nat) : BWd w1 (come l 14) (upd val 14 (tupC q)) W := by
  unfold BWd
  rw [come_other (show 15 ≠ 14 by decide), come_other (show 16 ≠ 14 by decide), come_other (show 18 ≠ 14 by decide), come_other (show 19 ≠ 14 by decide), upd_other (show 15 ≠ 14 by decide), upd_other (show 16 ≠ 14 by decide), upd_other (show 18 ≠ 14 by decide)]
  exact ⟨h.1, fun _ => ⟨q, by simp [upd]⟩, h.2.2⟩
theorem bwd_15 {w1 : World} {l : Nat → Bool} {val : Nat → Value} {W : World} (h : BWd w1 l val W) (q : Nat) : BWd w1 (come l 15) (upd val 15 (tupC q)) W := by
  unfold BWd
  rw [come_other (show 14 ≠ 15 by decide), come_other (show 16 ≠ 15 by decide), come_other (show 18 ≠ 15 by decide), come_other (show 19 ≠ 15 by decide), upd_other (show 14 ≠ 15 by decide), upd_other (show 16 ≠ 15 by decide), upd_other (show 18 ≠ 15 by decide)]
  exact ⟨h.1, h.2.1, fun _ => ⟨q, by simp [upd]⟩, h.2.2.2⟩
theorem bwd_16 {w1 : World} {l : Nat → Bool} {val : Nat → Value} {W : World} (h : BWd w1 l val W) (q : Nat) : BWd w1 (come l 16) (upd val 16 (aggC q)) W := by
  unfold BWd
  rw [come_other (show 14 ≠ 16 by decide), come_other (show 15 ≠ 16 by decide), come_other (show 18 ≠ 16 by decide), come_other (show 19 ≠ 16 by decide), upd_other (show 14 ≠ 16 by decide), upd_other (show 15 ≠ 16 by decide), upd_other (show 18 ≠ 16 by decide)]
  exact ⟨h.1, h.2.1, h.2.2.1, fun _ => ⟨q, by simp [upd]⟩, h.2.2.2.2⟩
theorem bwd_18 {w1 : World} {l : Nat → Bool} {val : Nat → Value} {W : World} (h : BWd w1 l val W) (hl : l 19 = false) : BWd w1 (come l 18) (upd val 18 (.pointer (some ⟨W.heap.size, 0, none⟩))) (W.alloc (.cells zCode.toArray 45)) := by
  have hb := (Below.refl W.heap.size W).alloc (Nat.le_refl _) (.cells zCode.toArray 45)
  unfold BWd
  rw [come_other (show 14 ≠ 18 by decide), come_other (show 15 ≠ 18 by decide), come_other (show 16 ≠ 18 by decide), come_other (show 19 ≠ 18 by decide), upd_other (show 14 ≠ 18 by decide), upd_other (show 15 ≠ 18 by decide), upd_other (show 16 ≠ 18 by decide)]
  refine ⟨h.1.trans (hb.mono h.1.size), h.2.1, h.2.2.1, h.2.2.2.1, fun _ => ⟨W.heap.size, by simp [upd], h.1.size, fun _ => At.new W 45 zCode, fun x => by rw [hl] at x; cases x⟩, fun _ => by simp [come]⟩
def put5C (b q : Nat) (W : World) : World := ((((W.setCell ⟨b, 0, none⟩ (.int .i64 1)).setCell ⟨b, 1, none⟩ (.int .i64 1)).setCell ⟨b, 2, none⟩ (.slice (some ⟨q, 0, none⟩) 1 1)).setCell ⟨b, 3, none⟩ (.slice none 0 0)).setCell ⟨b, 4, none⟩ (.slice none 0 0)
theorem bwd_19 {w1 : World} {l : Nat → Bool} {val : Nat → Value} {W : World} (h : BWd w1 l val W) (hl : l 18 = true) (hl0 : l 19 = false) (b q : Nat) (hb : val 18 = .pointer (some ⟨b, 0, none⟩)) : BWd w1 (come l 19) (upd val 19 undef) (put5C b q W) := by
  obtain ⟨h0, h1, h2, h3, h4, _⟩ := h
  obtain ⟨b', e, hB, ha, _⟩ := h4 hl
  obtain rfl : b' = b := by rw [hb] at e; injection e with e; injection e with e; injection e with e; exact e.symm
  have ha := ha hl0
  unfold BWd
  rw [come_other (show 14 ≠ 19 by decide), come_other (show 15 ≠ 19 by decide), come_other (show 16 ≠ 19 by decide), come_other (show 18 ≠ 19 by decide), upd_other (show 14 ≠ 19 by decide), upd_other (show 15 ≠ 19 by decide), upd_other (show 16 ≠ 19 by decide), upd_other (show 18 ≠ 19 by decide)]
  refine ⟨?_, h1, h2, h3, fun _ => ⟨b', hb, hB, fun x => by simp [come] at x, fun _ => ⟨q, ?_⟩⟩, fun _ => hl⟩
  · unfold put5C
    repeat (first | with_reducible exact h0 | (with_reducible refine Below.setCell ?_ ?hp _; case hp => exact hB))
  · exact ((((ha.set 0 (.int .i64 1)).set 1 (.int .i64 1)).set 2 (.slice (some ⟨q, 0, none⟩) 1 1)).set 3 (.slice none 0 0)).set 4 (.slice none 0 0)
theorem stepI_callx {P : Program} {ops : Array Oper} {own : List (Option Nat)} {a0 : Act} {tbl : List (Nat × Value)} {Wd : (Nat → Bool) → (Nat → Value) → World → Prop} {i : Nat} {o : Oper} (hv : ∀ p ∈ tbl, p.1 ≠ i) (f : FuncId) (args : Array Value)
    (hw : ∀ l val w, Tab tbl l val → Wd l val w → (∀ k ∈ depsOf o, l k = true) → Region.wanted o (yielded ops (actI own a0 (fun _ => true) val).tmps) = true ∧ (execOp (actI own a0 (fun _ => true) val).eval o).run P w = .ok (.enter f args) w)
    (hc : ∀ l val w, Wd l val w → Calls P f args w fun e w' => ∃ v, e = .returned v ∧ Wd (come l i) (upd val i v) w') :
    StepI P ops own a0 (Held2 tbl Wd) i o := fun l val w hS hd _ => by
  obtain ⟨h1, h2⟩ := hw l val w hS.1 hS.2 hd
  refine .inl ⟨h1, ?_⟩
  rw [h2]
  exact (hc l val w hS.2).mono fun e w' ⟨v, he, hh⟩ => ⟨v, he, hS.1.put (fun p hp e => absurd e (hv p hp)), hh⟩
section
variable {E : CEnv} {k : Nat} {mj fl : Int} {nm sp : ByteArray} {I F M : Value} {w : World}

set_option maxHeartbeats 4000000 in
set_option maxRecDepth 100000 in
/-- One attribute that is the body of one return. -/
theorem body_1 (h : CW E k (clsV E mj fl nm sp I F M) w) (hk : k + 8 + 13 ≤ E.xs.length) (h0 : numAt E.xs k 2 = 1) (ht : textAt E.ps (numAt E.xs (k + 2) 2) = some [67, 111, 100, 101]) (h4 : numAt E.xs (k + 4) 4 = 13) (hb13 : (E.xs.drop (k + 8)).take 13 = B13) (f a : Int) (ha : a ≤ 1) :
    Calls Tryz.prog 65 #[(.agg #[.pointer (some ⟨E.g, 0, none⟩), .pointer (some ⟨E.q, 0, none⟩)]), .int .i64 f, .int .i64 a] w fun e w' => ∃ (c0 c1 : Int) (A : Option Addr) (n : Nat), e = .returned (.tuple #[.agg #[.int .i64 c0, .int .i64 c1, .slice A n n, .slice none 0 0, .slice none 0 0], .bool (!has f 1024), .bool (!has f 1024)]) ∧ CW E (k + 8 + 13) (clsV E mj fl nm sp I F M) w' ∧ Grew E w w' := by
  have HK : Hid (∀ W, CW E k (clsV E mj fl nm sp I F M) W → Calls Tryz.prog 79 #[(.agg #[.pointer (some ⟨E.g, 0, none⟩), .pointer (some ⟨E.q, 0, none⟩)]), .string ⟨#[67, 111, 100, 101]⟩] W fun e w' => ∃ V, e = .returned (.tuple #[V, .bool true]) ∧ Known1 w' V B13 ∧ CW E (k + 8 + 13) (clsV E mj fl nm sp I F M) w' ∧ Grew E W w') := hide fun W hW => by
    have := known_code hW 13 hk h0 ht h4
    rwa [hb13] at this
  have HB := hide (h.boxed.alloc (.cells #[.int .i64 0, .int .i64 0, .slice none 0 0, .slice none 0 0, .slice none 0 0] 45))
  have HC := hide (At.new (w.alloc (.cells #[.pointer (some ⟨E.g, 0, none⟩), .pointer (some ⟨E.q, 0, none⟩)] 58)) 45 zCode)
  have hz : (w.alloc (.cells #[.pointer (some ⟨E.g, 0, none⟩), .pointer (some ⟨E.q, 0, none⟩)] 58)).heap.size = w.heap.size + 1 := by simp
  rw [hz] at HC
  clear h hk h0 hz ht h4 hb13
  unfold zCode at HC
  obtain ⟨a0, a1⟩ := HB.out.box
  obtain ⟨b, hb⟩ : ∃ b, has f 1024 = b := ⟨_, rfl⟩
  rw [hb]
  unfold has at hb
  go_enter Tryz.func65, Tryz.ntmps65
  go_wp2_with fail
  generalize (w.alloc (.cells #[.pointer (some ⟨E.g, 0, none⟩), .pointer (some ⟨E.q, 0, none⟩)] 58)).alloc (.cells #[.int .i64 0, .int .i64 0, .slice none 0 0, .slice none 0 0, .slice none 0 0] 45) = wa at *
  refine (HK.out _ HB.out.1).mono ?_
  rintro e w1 ⟨V, rfl, ⟨a', c', d, rfl, hlt, hv, hd⟩, h1, hg1⟩
  have HC1 := hide (HC.out.grew hg1 HB.out.1 (by decide) (by decide))
  have H1 := hide (HB.out.call h1 hg1)
  have HD := hide hd
  clear h1 hg1 HB HC a0 a1 hd
  replace hv : w1.cell? ⟨a', 0, none⟩ = some (.slice (some ⟨d, 0, none⟩) 13 13) := hv
  have z0 : w1.cell? ⟨w.heap.size + 1, 0, none⟩ = some (.int .i64 0) := HC1.out.cell 0
  have z1 : w1.cell? ⟨w.heap.size + 1, 1, none⟩ = some (.int .i64 0) := HC1.out.cell 1
  have z2 : w1.cell? ⟨w.heap.size + 1, 2, none⟩ = some (.slice none 0 0) := HC1.out.cell 2
  have z3 : w1.cell? ⟨w.heap.size + 1, 3, none⟩ = some (.slice none 0 0) := HC1.out.cell 3
  have z4 : w1.cell? ⟨w.heap.size + 1, 4, none⟩ = some (.slice none 0 0) := HC1.out.cell 4
  have f0 : w1.frozen? ⟨w.heap.size + 1, 0, none⟩ = false := HC1.out.free 0
  have f1 : w1.frozen? ⟨w.heap.size + 1, 1, none⟩ = false := HC1.out.free 1
  have f2 : w1.frozen? ⟨w.heap.size + 1, 2, none⟩ = false := HC1.out.free 2
  have f3 : w1.frozen? ⟨w.heap.size + 1, 3, none⟩ = false := HC1.out.free 3
  have f4 : w1.frozen? ⟨w.heap.size + 1, 4, none⟩ = false := HC1.out.free 4
  cases b
  · have HR : Hid (∀ W, Below w1.heap.size w1 W → Calls Tryz.prog 85 #[.slice (some ⟨d, 0, none⟩) 13 13, (.slice (some ⟨E.pb, E.po, none⟩) E.ps.length E.pc), .int .i64 mj, .int .i64 a] W fun e w' => ∃ q, e = .returned (.tuple #[.agg #[.int .i64 1, .int .i64 1, .slice (some ⟨q, 0, none⟩) 1 1, .slice none 0 0, .slice none 0 0], .bool true]) ∧ Below w1.heap.size w1 w' ∧ Below W.heap.size W w') := hide fun W hW => by
      have hd2 := HD.out.below hW HD.out.lt
      refine (codeRead_13 (some ⟨d, 0, none⟩) 13 _ _ _ mj a ha W.heap.size W (by have := hd2.rd 0 13 (by decide); exact this) (Nat.le_refl _)).mono ?_
      rintro e w2 ⟨q, rfl, _, hb⟩
      exact ⟨q, rfl, hW.trans (hb.mono hW.size), hb⟩
    have HKK : Hid (∀ W, Below w1.heap.size w1 W → W.cell? ⟨w.heap.size, 1, none⟩ = some (.pointer (some ⟨E.q, 0, none⟩)) ∧ W.cell? ⟨E.q, 0, none⟩ = some (.int .i64 mj) ∧ W.cell? ⟨E.q, 1, none⟩ = some (.slice (some ⟨E.pb, E.po, none⟩) E.ps.length E.pc) ∧ W.cell? ⟨a', 0, none⟩ = some (.slice (some ⟨d, 0, none⟩) 13 13) ∧ w1.heap.size ≤ W.heap.size) := hide fun W hW => by
      have hf := H1.out.below hW
      exact ⟨hf.box.2, hf.cells.1, hf.cells.2.1, (hW.cell (p := ⟨a', 0, none⟩) hlt).trans hv, hW.size⟩
    obtain ⟨a0, a1⟩ := H1.out.box
    obtain ⟨b0, b1, b2⟩ := H1.out.cells
    go_wp2_with fail
    clear a0 a1 b0 b1 b2 z0 z1 z2 z3 z4 f0 f1 f2 f3 f4 hb
    refine wp_region_inv [none, none, none, none, none, none, none, none, none, none, some 20, some 18, none, none, none, none, none, none, none, none, none, none, none, none, none, none, none, none, none, none, none, none, none, none, none, some 15, some 0, some 1, some 2, some 3, some 4, some 5, some 6, some 7, some 8, some 9, some 10, some 11, some 12, some 13, some 14, some 16, some 17]
      (Held2 [(0, .slice (some ⟨a', 0, none⟩) 1 c'), (1, .pointer (some ⟨a', 0, none⟩)), (2, .slice (some ⟨d, 0, none⟩) 13 13), (3, .pointer (some ⟨w.heap.size, 1, none⟩)), (4, .pointer (some ⟨E.q, 0, none⟩)), (5, .pointer (some ⟨E.q, 0, none⟩)), (6, .pointer (some ⟨E.q, 1, none⟩)), (7, .slice (some ⟨E.pb, E.po, none⟩) E.ps.length E.pc), (8, .pointer (some ⟨w.heap.size, 1, none⟩)), (9, .pointer (some ⟨E.q, 0, none⟩)), (10, .pointer (some ⟨E.q, 0, none⟩)), (11, .pointer (some ⟨E.q, 0, none⟩)), (12, .int .i64 mj), (13, .int .i64 a), (17, .bool true), (20, .bool true)] (BWd w1)) (by kernel_rfl) (by kernel_rfl) (by kernel_rfl) (by kernel_rfl) ⟨Tab.start _, ⟨(Below.refl _ _).drew, fun h => (by cases h), fun h => (by cases h), fun h => (by cases h), fun h => (by cases h), fun h => (by cases h)⟩⟩ ?_ ?_
    · refine ⟨?_, ?_, ?_, ?_, ?_, ?_, ?_, ?_, ?_, ?_, ?_, ?_, ?_, ?_, ?_, ?_, ?_, ?_, ?_, ?_, ?_, trivial⟩
      · refine stepI_value (.slice (some ⟨a', 0, none⟩) 1 c') (by simp) (bwd_other (by decide) _) ?_
        intro l val W hT hW hd
        obtain ⟨k0, k1, k2, k3, k4⟩ := HKK.out W hW.1
        refine ⟨rfl, ?_⟩
        simp only [actI, fillL, if_true]
        go_simp
      · refine stepI_value (.pointer (some ⟨a', 0, none⟩)) (by simp) (bwd_other (by decide) _) ?_
        intro l val W hT hW hd
        obtain ⟨k0, k1, k2, k3, k4⟩ := HKK.out W hW.1
        have v0 := hT (0, .slice (some ⟨a', 0, none⟩) 1 c') (by simp) (hd 0 (by decide))
        simp only at v0
        refine ⟨rfl, ?_⟩
        simp only [actI, fillL, if_true]
        rw [v0]
        go_simp
      · refine stepI_value (.slice (some ⟨d, 0, none⟩) 13 13) (by simp) (bwd_other (by decide) _) ?_
        intro l val W hT hW hd
        obtain ⟨k0, k1, k2, k3, k4⟩ := HKK.out W hW.1
        have v1 := hT (1, .pointer (some ⟨a', 0, none⟩)) (by simp) (hd 1 (by decide))
        simp only at v1
        refine ⟨rfl, ?_⟩
        simp only [actI, fillL, if_true]
        rw [v1]
        go_simp
      · refine stepI_value (.pointer (some ⟨w.heap.size, 1, none⟩)) (by simp) (bwd_other (by decide) _) ?_
        intro l val W hT hW hd
        obtain ⟨k0, k1, k2, k3, k4⟩ := HKK.out W hW.1
        refine ⟨rfl, ?_⟩
        simp only [actI, fillL, if_true]
        go_simp
      · refine stepI_value (.pointer (some ⟨E.q, 0, none⟩)) (by simp) (bwd_other (by decide) _) ?_
        intro l val W hT hW hd
        obtain ⟨k0, k1, k2, k3, k4⟩ := HKK.out W hW.1
        have v3 := hT (3, .pointer (some ⟨w.heap.size, 1, none⟩)) (by simp) (hd 3 (by decide))
        simp only at v3
        refine ⟨rfl, ?_⟩
        simp only [actI, fillL, if_true]
        rw [v3]
        go_simp
      · refine stepI_value (.pointer (some ⟨E.q, 0, none⟩)) (by simp) (bwd_other (by decide) _) ?_
        intro l val W hT hW hd
        obtain ⟨k0, k1, k2, k3, k4⟩ := HKK.out W hW.1
        have v4 := hT (4, .pointer (some ⟨E.q, 0, none⟩)) (by simp) (hd 4 (by decide))
        simp only at v4
        refine ⟨rfl, ?_⟩
        simp only [actI, fillL, if_true]
        rw [v4]
        go_simp
      · refine stepI_value (.pointer (some ⟨E.q, 1, none⟩)) (by simp) (bwd_other (by decide) _) ?_
        intro l val W hT hW hd
        obtain ⟨k0, k1, k2, k3, k4⟩ := HKK.out W hW.1
        have v5 := hT (5, .pointer (some ⟨E.q, 0, none⟩)) (by simp) (hd 5 (by decide))
        simp only at v5
        refine ⟨rfl, ?_⟩
        simp only [actI, fillL, if_true]
        rw [v5]
        go_simp
      · refine stepI_value (.slice (some ⟨E.pb, E.po, none⟩) E.ps.length E.pc) (by simp) (bwd_other (by decide) _) ?_
        intro l val W hT hW hd
        obtain ⟨k0, k1, k2, k3, k4⟩ := HKK.out W hW.1
        have v6 := hT (6, .pointer (some ⟨E.q, 1, none⟩)) (by simp) (hd 6 (by decide))
        simp only at v6
        refine ⟨rfl, ?_⟩
        simp only [actI, fillL, if_true]
        rw [v6]
        go_simp
      · refine stepI_value (.pointer (some ⟨w.heap.size, 1, none⟩)) (by simp) (bwd_other (by decide) _) ?_
        intro l val W hT hW hd
        obtain ⟨k0, k1, k2, k3, k4⟩ := HKK.out W hW.1
        refine ⟨rfl, ?_⟩
        simp only [actI, fillL, if_true]
        go_simp
      · refine stepI_value (.pointer (some ⟨E.q, 0, none⟩)) (by simp) (bwd_other (by decide) _) ?_
        intro l val W hT hW hd
        obtain ⟨k0, k1, k2, k3, k4⟩ := HKK.out W hW.1
        have v8 := hT (8, .pointer (some ⟨w.heap.size, 1, none⟩)) (by simp) (hd 8 (by decide))
        simp only at v8
        refine ⟨rfl, ?_⟩
        simp only [actI, fillL, if_true]
        rw [v8]
        go_simp
      · refine stepI_value (.pointer (some ⟨E.q, 0, none⟩)) (by simp) (bwd_other (by decide) _) ?_
        intro l val W hT hW hd
        obtain ⟨k0, k1, k2, k3, k4⟩ := HKK.out W hW.1
        have v9 := hT (9, .pointer (some ⟨E.q, 0, none⟩)) (by simp) (hd 9 (by decide))
        simp only at v9
        refine ⟨rfl, ?_⟩
        simp only [actI, fillL, if_true]
        rw [v9]
        go_simp
      · refine stepI_value (.pointer (some ⟨E.q, 0, none⟩)) (by simp) (bwd_other (by decide) _) ?_
        intro l val W hT hW hd
        obtain ⟨k0, k1, k2, k3, k4⟩ := HKK.out W hW.1
        have v10 := hT (10, .pointer (some ⟨E.q, 0, none⟩)) (by simp) (hd 10 (by decide))
        simp only at v10
        refine ⟨rfl, ?_⟩
        simp only [actI, fillL, if_true]
        rw [v10]
        go_simp
      · refine stepI_value (.int .i64 mj) (by simp) (bwd_other (by decide) _) ?_
        intro l val W hT hW hd
        obtain ⟨k0, k1, k2, k3, k4⟩ := HKK.out W hW.1
        have v11 := hT (11, .pointer (some ⟨E.q, 0, none⟩)) (by simp) (hd 11 (by decide))
        simp only at v11
        refine ⟨rfl, ?_⟩
        simp only [actI, fillL, if_true]
        rw [v11]
        go_simp
      · refine stepI_value (.int .i64 a) (by simp) (bwd_other (by decide) _) ?_
        intro l val W hT hW hd
        obtain ⟨k0, k1, k2, k3, k4⟩ := HKK.out W hW.1
        refine ⟨rfl, ?_⟩
        simp only [actI, fillL, if_true]
        go_simp
      · refine stepI_callx (by simp) 85 #[.slice (some ⟨d, 0, none⟩) 13 13, .slice (some ⟨E.pb, E.po, none⟩) E.ps.length E.pc, .int .i64 mj, .int .i64 a] ?_ (fun l val W hW => (HR.out W hW.1).mono fun e w' ⟨q, he, hb⟩ => ⟨tupC q, he, bwd_14 (bwd_below hW hb.2) q⟩)
        intro l val W hT hW hd
        have v2 := hT (2, .slice (some ⟨d, 0, none⟩) 13 13) (by simp) (hd 2 (by decide))
        simp only at v2
        have v7 := hT (7, .slice (some ⟨E.pb, E.po, none⟩) E.ps.length E.pc) (by simp) (hd 7 (by decide))
        simp only at v7
        have v12 := hT (12, .int .i64 mj) (by simp) (hd 12 (by decide))
        simp only at v12
        have v13 := hT (13, .int .i64 a) (by simp) (hd 13 (by decide))
        simp only at v13
        refine ⟨rfl, ?_⟩
        simp only [actI, fillL, if_true]
        rw [v2, v7, v12, v13]
        go_simp
      · refine stepI_turn (by simp) ?_
        intro l val W hT hW hd hl
        obtain ⟨q, hq⟩ := hW.2.1 (hd 14 (by decide))
        refine ⟨rfl, .inl ⟨tupC q, W, ?_, bwd_15 hW q⟩⟩
        simp only [actI, fillL, if_true]
        rw [hq]
        unfold tupC aggC
        go_simp
      · refine stepI_turn (by simp) ?_
        intro l val W hT hW hd hl
        obtain ⟨q, hq⟩ := hW.2.2.1 (hd 15 (by decide))
        refine ⟨rfl, .inl ⟨aggC q, W, ?_, bwd_16 hW q⟩⟩
        simp only [actI, fillL, if_true]
        rw [hq]
        unfold tupC aggC
        go_simp
      · refine stepI_value (.bool true) (by simp) (bwd_other (by decide) _) ?_
        intro l val W hT hW hd
        obtain ⟨k0, k1, k2, k3, k4⟩ := HKK.out W hW.1
        obtain ⟨q, hq⟩ := hW.2.2.1 (hd 15 (by decide))
        refine ⟨rfl, ?_⟩
        simp only [actI, fillL, if_true]
        rw [hq]
        unfold tupC aggC
        go_simp
      · refine stepI_turn (by simp) ?_
        intro l val W hT hW hd hl
        have hl19 : l 19 = false := by
          cases h19 : l 19
          · rfl
          · exact absurd (hW.2.2.2.2.2 h19) (by rw [hl]; simp)
        refine ⟨rfl, .inl ⟨.pointer (some ⟨W.heap.size, 0, none⟩), W.alloc (.cells zCode.toArray 45), ?_, bwd_18 hW hl19⟩⟩
        simp only [actI, fillL, if_true]
        unfold zCode
        go_simp
      · refine stepI_turn (by simp) ?_
        intro l val W hT hW hd hl
        have l18 : l 18 = true := hd 18 (by decide)
        obtain ⟨q, hq⟩ := hW.2.2.2.1 (hd 16 (by decide))
        obtain ⟨b, hb, hB, ha, _⟩ := hW.2.2.2.2.1 l18
        have ha := ha hl
        refine ⟨rfl, .inr ⟨put5C b q W, ?_, bwd_19 hW l18 hl b q hb⟩⟩
        have y0 : W.cell? ⟨b, 0, none⟩ = some (.int .i64 0) := ha.cell 0
        have y1 : W.cell? ⟨b, 1, none⟩ = some (.int .i64 0) := ha.cell 1
        have y2 : W.cell? ⟨b, 2, none⟩ = some (.slice none 0 0) := ha.cell 2
        have y3 : W.cell? ⟨b, 3, none⟩ = some (.slice none 0 0) := ha.cell 3
        have y4 : W.cell? ⟨b, 4, none⟩ = some (.slice none 0 0) := ha.cell 4
        have g0 := ha.free 0
        have g1 := ha.free 1
        have g2 := ha.free 2
        have g3 := ha.free 3
        have g4 := ha.free 4
        simp only [actI, fillL, if_true]
        rw [hb, hq]
        unfold aggC put5C
        go_simp
      · refine stepI_value (.bool true) (by simp) (bwd_other (by decide) _) ?_
        intro l val W hT hW hd
        obtain ⟨k0, k1, k2, k3, k4⟩ := HKK.out W hW.1
        have v17 := hT (17, .bool true) (by simp) (hd 17 (by decide))
        simp only at v17
        refine ⟨rfl, ?_⟩
        simp only [actI, fillL, if_true]
        rw [v17]
        go_simp
    · intro l val W hS hall
      obtain ⟨hT, h0, _, _, _, h18, _⟩ := hS
      obtain ⟨nb, e18, hnb, _, hf⟩ := h18 (hall 18 (by decide))
      obtain ⟨q, hq⟩ := hf (hall 19 (by decide))
      have v20 := hT (20, .bool true) (by simp) (hall 20 (by decide))
      simp only at v20
      have HC2 := hide (HC1.out.below h0 HC1.out.lt)
      have H2 := hide (H1.out.below h0)
      have lr : w.heap.size + 1 < w1.heap.size := HC1.out.lt
      have ne1 : nb ≠ w.heap.size + 1 := by omega
      have ne2 : w.heap.size + 1 ≠ nb := by omega
      have n0 : W.cell? ⟨nb, 0, none⟩ = some (.int .i64 1) := hq.cell 0
      have n1 : W.cell? ⟨nb, 1, none⟩ = some (.int .i64 1) := hq.cell 1
      have n2 : W.cell? ⟨nb, 2, none⟩ = some (.slice (some ⟨q, 0, none⟩) 1 1) := hq.cell 2
      have n3 : W.cell? ⟨nb, 3, none⟩ = some (.slice none 0 0) := hq.cell 3
      have n4 : W.cell? ⟨nb, 4, none⟩ = some (.slice none 0 0) := hq.cell 4
      have z0 : W.cell? ⟨w.heap.size + 1, 0, none⟩ = some (.int .i64 0) := HC2.out.cell 0
      have z1 : W.cell? ⟨w.heap.size + 1, 1, none⟩ = some (.int .i64 0) := HC2.out.cell 1
      have z2 : W.cell? ⟨w.heap.size + 1, 2, none⟩ = some (.slice none 0 0) := HC2.out.cell 2
      have z3 : W.cell? ⟨w.heap.size + 1, 3, none⟩ = some (.slice none 0 0) := HC2.out.cell 3
      have z4 : W.cell? ⟨w.heap.size + 1, 4, none⟩ = some (.slice none 0 0) := HC2.out.cell 4
      have f0 := HC2.out.free 0
      have f1 := HC2.out.free 1
      have f2 := HC2.out.free 2
      have f3 := HC2.out.free 3
      have f4 := HC2.out.free 4
      simp only [actI, fillL, if_true]
      rw [e18, v20]
      clear hT h0 h18 hf hall e18 v20 hq HR HKK H1 HC1 hv hlt HD HK
      go_wp2_with fail
      have HF := ((((H2.out.put (b := w.heap.size + 1) (i := 0) (by omega) (.int .i64 1)).put (b := w.heap.size + 1) (i := 1) (by omega) (.int .i64 1)).put (b := w.heap.size + 1) (i := 2) (by omega) (.slice (some ⟨q, 0, none⟩) 1 1)).put (b := w.heap.size + 1) (i := 3) (by omega) (.slice none 0 0)).put (b := w.heap.size + 1) (i := 4) (by omega) (.slice none 0 0)
      have HS := ((((HC2.out.set 0 (.int .i64 1)).set 1 (.int .i64 1)).set 2 (.slice (some ⟨q, 0, none⟩) 1 1)).set 3 (.slice none 0 0)).set 4 (.slice none 0 0)
      generalize World.setCell (World.setCell (World.setCell (World.setCell (World.setCell _ _ _) _ _) _ _) _ _) _ _ = w9 at *
      have q0 : w9.cell? ⟨w.heap.size + 1, 0, none⟩ = some (.int .i64 1) := HS.cell 0
      have q1 : w9.cell? ⟨w.heap.size + 1, 1, none⟩ = some (.int .i64 1) := HS.cell 1
      have q2 : w9.cell? ⟨w.heap.size + 1, 2, none⟩ = some (.slice (some ⟨q, 0, none⟩) 1 1) := HS.cell 2
      have q3 : w9.cell? ⟨w.heap.size + 1, 3, none⟩ = some (.slice none 0 0) := HS.cell 3
      have q4 : w9.cell? ⟨w.heap.size + 1, 4, none⟩ = some (.slice none 0 0) := HS.cell 4
      refine bodyPost_ret (v := .tuple #[.agg #[.int .i64 1, .int .i64 1, .slice (some ⟨q, 0, none⟩) 1 1, .slice none 0 0, .slice none 0 0], .bool true, .bool true]) ?_ rfl ⟨1, 1, some ⟨q, 0, none⟩, 1, rfl, HF.1, HF.2.2.1⟩
      simp [results, Tryz.results65, go_sem, q0, q1, q2, q3, q4]
  · go_wp2_with fail
    have HF := ((((H1.out.put (b := w.heap.size + 1) (i := 0) (by omega) (.int .i64 0)).put (b := w.heap.size + 1) (i := 1) (by omega) (.int .i64 0)).put (b := w.heap.size + 1) (i := 2) (by omega) (.slice none 0 0)).put (b := w.heap.size + 1) (i := 3) (by omega) (.slice none 0 0)).put (b := w.heap.size + 1) (i := 4) (by omega) (.slice none 0 0)
    have HS := ((((HC1.out.set 0 (.int .i64 0)).set 1 (.int .i64 0)).set 2 (.slice none 0 0)).set 3 (.slice none 0 0)).set 4 (.slice none 0 0)
    generalize World.setCell (World.setCell (World.setCell (World.setCell (World.setCell _ _ _) _ _) _ _) _ _) _ _ = w9 at *
    have q0 : w9.cell? ⟨w.heap.size + 1, 0, none⟩ = some (.int .i64 0) := HS.cell 0
    have q1 : w9.cell? ⟨w.heap.size + 1, 1, none⟩ = some (.int .i64 0) := HS.cell 1
    have q2 : w9.cell? ⟨w.heap.size + 1, 2, none⟩ = some (.slice none 0 0) := HS.cell 2
    have q3 : w9.cell? ⟨w.heap.size + 1, 3, none⟩ = some (.slice none 0 0) := HS.cell 3
    have q4 : w9.cell? ⟨w.heap.size + 1, 4, none⟩ = some (.slice none 0 0) := HS.cell 4
    refine bodyPost_ret (v := .tuple #[.agg #[.int .i64 0, .int .i64 0, .slice none 0 0, .slice none 0 0, .slice none 0 0], .bool false, .bool false]) ?_ rfl ⟨0, 0, none, 0, rfl, HF.1, HF.2.2.1⟩
    simp [results, Tryz.results65, go_sem, q0, q1, q2, q3, q4]
end
end Go.Proofs.YtbdbcalmjbmflaaGreatDoor
namespace Go.Proofs.YtbdbcalmjbmflaaGreatDoor
open Go.RowKit

section
variable {E : CEnv} {k : Nat} {mj fl : Int} {nm sp : ByteArray} {I F M : Value} {w : World}
theorem CW.putQ {cls : List Value} (h : CW E k cls w) (i : Nat) (v : Value) : CW E k (cls.set i v) (w.setCell ⟨E.q, i, none⟩ v) := by
  have hs : w.grownBy (w.setCell ⟨E.q, i, none⟩ v) (some E.q) := only_set v
  refine ⟨h.out.grown hs h.out.size (by intro j hj; cases hj; exact h.hq), h.mx, h.cur.grown hs (by simpa using h.qg.symm) (by simpa using (h.cls.ne h.cur.2.1 (by decide)).symm), h.cls.set i v, ⟨h.pool.1, fun hn => ?_⟩, h.hg, h.hq, h.pg, h.pq, Nat.lt_of_lt_of_le h.hp hs.size⟩
  obtain ⟨b', o, ha, hb, hcs⟩ := h.pool.2 hn
  obtain ⟨rfl, rfl⟩ : b' = E.pb ∧ o = E.po := by simpa [eq_comm] using ha
  refine ⟨_, _, rfl, hb, fun j u hu => ?_⟩
  rw [← hcs j u hu]
  have := hs.block E.pb h.hp (by simpa using h.pq)
  unfold World.cell?
  simp only [this]
theorem FB.putQ {wb : World} {cls : List Value} (h : FB E wb k cls w) (i : Nat) (v : Value) : FB E wb k (cls.set i v) (w.setCell ⟨E.q, i, none⟩ v) := by
  have hs : w.grownBy (w.setCell ⟨E.q, i, none⟩ v) (some E.q) := only_set v
  obtain ⟨h1, h2, h3, l1, l2, l3, l4⟩ := h
  exact ⟨h1.putQ i v, h2.grown hs (by simpa using (h2.ne h1.cls (by decide))),
    ⟨Nat.le_trans h3.1 hs.size, fun x hx g1 g2 => (hs.block x (Nat.lt_of_lt_of_le hx h3.1) (by simpa using g2)).trans (h3.2 x hx g1 g2)⟩, l1, l2, l3, l4⟩
def sObj : ByteArray := ⟨#[106, 97, 118, 97, 47, 108, 97, 110, 103, 47, 79, 98, 106, 101, 99, 116]⟩
set_option maxHeartbeats 2000000 in
set_option maxRecDepth 100000 in
theorem self_any (h : CW E k (clsV E mj fl nm sp I F M) w) (hk : k + 6 ≤ E.xs.length) (v : Int) (hv : numAt E.xs k 2 = v) (t1 t2 : List Int) (h1 : classAt E.ps (numAt E.xs (k + 2) 2) = some t1) (h2 : classAt E.ps (numAt E.xs (k + 4) 2) = some t2) (b1 : IsBytes t1) (b2 : IsBytes t2)
    (c1 : classB t1 = true) (c2 : classB t2 = true) (hsup : has v 512 = true → strOfNums t2 = sObj) :
    Calls Tryz.prog 26 #[(.agg #[.pointer (some ⟨E.g, 0, none⟩), .pointer (some ⟨E.q, 0, none⟩)])] w fun e w' => e = .returned (.bool (classFlagsB v)) ∧ CW E (k + 6) (clsV E mj v (strOfNums t1) (strOfNums t2) I F M) w' ∧ Grew E w w' := by
  have HB := hide h.boxed
  have HU := hasU2 E w k (clsV E mj fl nm sp I F M) (by omega)
  rw [HasU2, hv] at HU
  have HN1 : Hid (∀ W, CW E (k + 2) (clsV E mj fl nm sp I F M) W → Calls Tryz.prog 33 #[(.agg #[.pointer (some ⟨E.g, 0, none⟩), .pointer (some ⟨E.q, 0, none⟩)])] W fun e w' => e = .returned (.tuple #[.string (strOfNums t1), .bool true]) ∧ CW E (k + 4) (clsV E mj fl nm sp I F M) w' ∧ Grew E W w') := hide fun W hW => by
    have := named_any hW (by omega) t1 h1 b1
    rwa [c1] at this
  have HN2 : Hid (∀ W, CW E (k + 4) (clsV E mj fl nm sp I F M) W → Calls Tryz.prog 33 #[(.agg #[.pointer (some ⟨E.g, 0, none⟩), .pointer (some ⟨E.q, 0, none⟩)])] W fun e w' => e = .returned (.tuple #[.string (strOfNums t2), .bool true]) ∧ CW E (k + 6) (clsV E mj fl nm sp I F M) w' ∧ Grew E W w') := hide fun W hW => by
    have := named_any hW (by omega) t2 h2 b2
    rwa [c2] at this
  have HI := hide (cfisInterface_is v)
  have HM := hide (cfclassMay_is v)
  clear h hk hv h1 h2 b1 b2 c1 c2
  obtain ⟨i, hi⟩ : ∃ i, has v 512 = i := ⟨_, rfl⟩
  rw [hi] at HI hsup
  generalize classFlagsB v = R at *
  generalize strOfNums t1 = s1 at *
  generalize strOfNums t2 = s2 at *
  have HS := hide hsup
  clear hi hsup
  obtain ⟨a0, a1⟩ := HB.out.box
  go_enter Tryz.func26, Tryz.ntmps26
  go_wp2_with fail
  generalize w.alloc (.cells #[.pointer (some ⟨E.g, 0, none⟩), .pointer (some ⟨E.q, 0, none⟩)] 58) = wa at *
  refine (HU.out _ HB.out).mono ?_
  rintro e w1 ⟨rfl, h1⟩
  have H1 := hide h1
  clear h1 HB a0 a1
  obtain ⟨a0, a1⟩ := H1.out.box
  go_wp2_with fail
  refine (HN1.out _ H1.out.1).mono ?_
  rintro e w2 ⟨rfl, h2, g2⟩
  have H2 := hide (H1.out.call h2 g2)
  clear h2 g2 H1 a0 a1
  obtain ⟨a0, a1⟩ := H2.out.box
  go_wp2_with fail
  refine (HN2.out _ H2.out.1).mono ?_
  rintro e w3 ⟨rfl, h3, g3⟩
  have H3 := hide (H2.out.call h3 g3)
  clear h3 g3 H2 a0 a1
  obtain ⟨a0, a1⟩ := H3.out.box
  have c2 : w3.cell? ⟨E.q, 2, none⟩ = some (.int .i64 fl) := H3.out.1.cls.cell 2
  have c3 : w3.cell? ⟨E.q, 3, none⟩ = some (.string nm) := H3.out.1.cls.cell 3
  have c4 : w3.cell? ⟨E.q, 4, none⟩ = some (.string sp) := H3.out.1.cls.cell 4
  have f2 := H3.out.1.cls.free 2
  have f3 := H3.out.1.cls.free 3
  have f4 := H3.out.1.cls.free 4
  have lq : E.q < w.heap.size := H3.out.2.2.2.2.2.1
  have ne1 : E.q ≠ w.heap.size := by omega
  have ne2 : w.heap.size ≠ E.q := by omega
  go_wp2_with fail
  go_region
  have H4 : Hid (FB E w (k + 6) (clsV E mj v s1 s2 I F M) (((w3.setCell ⟨E.q, 2, none⟩ (.int .i64 v)).setCell ⟨E.q, 3, none⟩ (.string s1)).setCell ⟨E.q, 4, none⟩ (.string s2)).drew) :=
    hide (((((H3.out.putQ 2 (.int .i64 v)).putQ 3 (.string s1)).putQ 4 (.string s2))).below (Below.refl _ _).drew)
  clear H3 c2 c3 c4 f2 f3 f4 a0 a1
  generalize (((w3.setCell ⟨E.q, 2, none⟩ (.int .i64 v)).setCell ⟨E.q, 3, none⟩ (.string s1)).setCell ⟨E.q, 4, none⟩ (.string s2)).drew = w4 at *
  cases i
  · go_wp2_with fail
    refine (HI.out _).mono ?_
    rintro e w5 ⟨rfl, rfl⟩
    go_wp2_with fail
    refine (HM.out _).mono ?_
    rintro e w6 ⟨rfl, rfl⟩
    go_wp2_with fail
    go_ret
    exact ⟨rfl, H4.out.1, H4.out.2.2.1⟩
  · obtain rfl := HS.out rfl
    unfold sObj at *
    go_wp2_with fail
    refine (HI.out _).mono ?_
    rintro e w5 ⟨rfl, rfl⟩
    go_wp2_with fail
    refine (HM.out _).mono ?_
    rintro e w6 ⟨rfl, rfl⟩
    go_wp2_with fail
    go_ret
    exact ⟨rfl, H4.out.1, H4.out.2.2.1⟩

set_option maxHeartbeats 2000000 in
set_option maxRecDepth 100000 in
theorem others_0 (h : CW E k (clsV E mj fl nm sp I F M) w) (hk : k + 2 ≤ E.xs.length) (h0 : numAt E.xs k 2 = 0) :
    Calls Tryz.prog 30 #[(.agg #[.pointer (some ⟨E.g, 0, none⟩), .pointer (some ⟨E.q, 0, none⟩)])] w fun e w' => e = .returned (.bool true) ∧ CW E (k + 2) (clsV E mj fl nm sp I F M) w' ∧ Grew E w w' := by
  have HB := hide h.boxed
  have HA : Hid (∀ W, CW E k (clsV E mj fl nm sp I F M) W → Calls Tryz.prog 44 #[(.agg #[.pointer (some ⟨E.g, 0, none⟩), .pointer (some ⟨E.q, 0, none⟩)])] W fun e w' => e = .returned (.tuple #[.slice none 0 0, .bool true]) ∧ CW E (k + 2) (clsV E mj fl nm sp I F M) w' ∧ Grew E W w') := hide fun W hW => attributes_0 hW hk h0
  clear h hk h0
  obtain ⟨a0, a1⟩ := HB.out.box
  go_enter Tryz.func30, Tryz.ntmps30
  go_wp2_with fail
  generalize w.alloc (.cells #[.pointer (some ⟨E.g, 0, none⟩), .pointer (some ⟨E.q, 0, none⟩)] 58) = wa at *
  refine (HA.out _ HB.out.1).mono ?_
  rintro e w1 ⟨rfl, h1, g1⟩
  have H1 := hide (HB.out.call h1 g1)
  clear h1 g1 HB a0 a1
  go_wp2_with fail
  go_ret
  exact ⟨rfl, H1.out.1, H1.out.2.2.1⟩

end
end Go.Proofs.YtbdbcalmjbmflaaGreatDoor
namespace Go.Proofs.YtbdbcalmjbmflaaGreatDoor
open Go.RowKit

section
variable {E : CEnv} {k : Nat} {mj fl : Int} {nm sp : ByteArray} {I F M : Value} {w : World}
set_option maxRecDepth 100000 in
theorem idxS_0 (f : Fn) (a : Array Value) (b : Array Value) (w : World) : Calls Tryz.prog 74 #[.slice none 0 0, .func f a b] w fun e w' => e = .returned (.int .i64 (-1)) ∧ w = w' := by
  go_enter Tryz.func74, Tryz.ntmps74
  go_wp2_with fail
  go_loopw [8] (fun iv wr => iv = .int .i64 0 ∧ wr = w) (fun _ _ => 0)
  case atStart => exact ⟨rfl, rfl⟩
  case round =>
    obtain ⟨rfl, rfl⟩ := hrel
    go_wp2_with fail
    go_ret
    exact ⟨rfl, rfl⟩
theorem hasS_0 (f : Fn) (a : Array Value) (b : Array Value) (w : World) : Calls Tryz.prog 51 #[.slice none 0 0, .func f a b] w fun e w' => e = .returned (.bool false) ∧ w = w' := by
  have H := hide (idxS_0 f a b)
  go_enter Tryz.func51, Tryz.ntmps51
  go_wp2_with fail
  refine (H.out _).mono ?_
  rintro e w1 ⟨rfl, rfl⟩
  go_wp2_with fail
  go_ret
  exact ⟨rfl, rfl⟩
set_option maxRecDepth 100000 in
theorem listS_0 (h : CW E k (clsV E mj fl nm sp I F M) w) (hk : k + 2 ≤ E.xs.length) (h0 : numAt E.xs k 2 = 0) (f f' : Fn) (a a' b b' : Array Value) :
    Calls Tryz.prog 36 #[.pointer (some ⟨E.g, 0, none⟩), .func f a b, .func f' a' b'] w fun e w' => e = .returned (.tuple #[.slice none 0 0, .bool true]) ∧ CW E (k + 2) (clsV E mj fl nm sp I F M) w' ∧ Grew E w w' := by
  have HU : Hid (∀ W, CW E k (clsV E mj fl nm sp I F M) W → Calls Tryz.prog 23 #[.pointer (some ⟨E.g, 0, none⟩)] W fun e w' => e = .returned (.int .i64 0) ∧ CW E (k + 2) (clsV E mj fl nm sp I F M) w' ∧ W.grownBy w' (some E.g)) := hide fun W hW => by
    have := cu2 hW hk
    rwa [h0] at this
  have HC := hide h
  clear h hk h0
  go_enter Tryz.func36, Tryz.ntmps36
  go_wp2_with fail
  refine (HU.out _ (HC.out.below ((Below.refl _ _).alloc (Nat.le_refl _) _))).mono ?_
  rintro e w1 ⟨rfl, h1, g1⟩
  have H1 := hide h1
  have G1 : Hid (Grew E w w1) := hide ((Grew.below ((Below.refl w.heap.size w).alloc (Nat.le_refl _) _)).trans (.grown g1))
  clear h1 g1 HC
  go_wp2_with fail
  go_loopw [9, 17] (fun v iv wr => v = .slice none 0 0 ∧ iv = .int .i64 0 ∧ wr = w1) (fun _ _ _ => 0)
  case atStart => exact ⟨rfl, rfl, rfl⟩
  case round =>
    obtain ⟨rfl, rfl, rfl⟩ := hrel
    go_wp2_with fail
    go_ret2
    exact ⟨rfl, H1.out, G1.out⟩
set_option maxRecDepth 100000 in
theorem idxF_0 (f : Fn) (a : Array Value) (b : Array Value) (w : World) : Calls Tryz.prog 15 #[.slice none 0 0, .func f a b] w fun e w' => e = .returned (.int .i64 (-1)) ∧ w = w' := by
  go_enter Tryz.func15, Tryz.ntmps15
  go_wp2_with fail
  go_loopw [8] (fun iv wr => iv = .int .i64 0 ∧ wr = w) (fun _ _ => 0)
  case atStart => exact ⟨rfl, rfl⟩
  case round =>
    obtain ⟨rfl, rfl⟩ := hrel
    go_wp2_with fail
    go_ret
    exact ⟨rfl, rfl⟩
theorem hasF_0 (f : Fn) (a : Array Value) (b : Array Value) (w : World) : Calls Tryz.prog 53 #[.slice none 0 0, .func f a b] w fun e w' => e = .returned (.bool false) ∧ w = w' := by
  have H := hide (idxF_0 f a b)
  go_enter Tryz.func53, Tryz.ntmps53
  go_wp2_with fail
  refine (H.out _).mono ?_
  rintro e w1 ⟨rfl, rfl⟩
  go_wp2_with fail
  go_ret
  exact ⟨rfl, rfl⟩
set_option maxRecDepth 100000 in
theorem listF_0 (h : CW E k (clsV E mj fl nm sp I F M) w) (hk : k + 2 ≤ E.xs.length) (h0 : numAt E.xs k 2 = 0) (f f' : Fn) (a a' b b' : Array Value) :
    Calls Tryz.prog 38 #[.pointer (some ⟨E.g, 0, none⟩), .func f a b, .func f' a' b'] w fun e w' => e = .returned (.tuple #[.slice none 0 0, .bool true]) ∧ CW E (k + 2) (clsV E mj fl nm sp I F M) w' ∧ Grew E w w' := by
  have HU : Hid (∀ W, CW E k (clsV E mj fl nm sp I F M) W → Calls Tryz.prog 23 #[.pointer (some ⟨E.g, 0, none⟩)] W fun e w' => e = .returned (.int .i64 0) ∧ CW E (k + 2) (clsV E mj fl nm sp I F M) w' ∧ W.grownBy w' (some E.g)) := hide fun W hW => by
    have := cu2 hW hk
    rwa [h0] at this
  have HC := hide h
  clear h hk h0
  go_enter Tryz.func38, Tryz.ntmps38
  go_wp2_with fail
  refine (HU.out _ (HC.out.below ((Below.refl _ _).alloc (Nat.le_refl _) _))).mono ?_
  rintro e w1 ⟨rfl, h1, g1⟩
  have H1 := hide h1
  have G1 : Hid (Grew E w w1) := hide ((Grew.below ((Below.refl w.heap.size w).alloc (Nat.le_refl _) _)).trans (.grown g1))
  clear h1 g1 HC
  go_wp2_with fail
  go_loopw [9, 17] (fun v iv wr => v = .slice none 0 0 ∧ iv = .int .i64 0 ∧ wr = w1) (fun _ _ _ => 0)
  case atStart => exact ⟨rfl, rfl, rfl⟩
  case round =>
    obtain ⟨rfl, rfl, rfl⟩ := hrel
    go_wp2_with fail
    go_ret2
    exact ⟨rfl, H1.out, G1.out⟩
set_option maxRecDepth 100000 in
theorem idxM_0 (f : Fn) (a : Array Value) (b : Array Value) (w : World) : Calls Tryz.prog 13 #[.slice none 0 0, .func f a b] w fun e w' => e = .returned (.int .i64 (-1)) ∧ w = w' := by
  go_enter Tryz.func13, Tryz.ntmps13
  go_wp2_with fail
  go_loopw [8] (fun iv wr => iv = .int .i64 0 ∧ wr = w) (fun _ _ => 0)
  case atStart => exact ⟨rfl, rfl⟩
  case round =>
    obtain ⟨rfl, rfl⟩ := hrel
    go_wp2_with fail
    go_ret
    exact ⟨rfl, rfl⟩
theorem hasM_0 (f : Fn) (a : Array Value) (b : Array Value) (w : World) : Calls Tryz.prog 60 #[.slice none 0 0, .func f a b] w fun e w' => e = .returned (.bool false) ∧ w = w' := by
  have H := hide (idxM_0 f a b)
  go_enter Tryz.func60, Tryz.ntmps60
  go_wp2_with fail
  refine (H.out _).mono ?_
  rintro e w1 ⟨rfl, rfl⟩
  go_wp2_with fail
  go_ret
  exact ⟨rfl, rfl⟩
set_option maxRecDepth 100000 in
theorem listM_0 (h : CW E k (clsV E mj fl nm sp I F M) w) (hk : k + 2 ≤ E.xs.length) (h0 : numAt E.xs k 2 = 0) (f f' : Fn) (a a' b b' : Array Value) :
    Calls Tryz.prog 41 #[.pointer (some ⟨E.g, 0, none⟩), .func f a b, .func f' a' b'] w fun e w' => e = .returned (.tuple #[.slice none 0 0, .bool true]) ∧ CW E (k + 2) (clsV E mj fl nm sp I F M) w' ∧ Grew E w w' := by
  have HU : Hid (∀ W, CW E k (clsV E mj fl nm sp I F M) W → Calls Tryz.prog 23 #[.pointer (some ⟨E.g, 0, none⟩)] W fun e w' => e = .returned (.int .i64 0) ∧ CW E (k + 2) (clsV E mj fl nm sp I F M) w' ∧ W.grownBy w' (some E.g)) := hide fun W hW => by
    have := cu2 hW hk
    rwa [h0] at this
  have HC := hide h
  clear h hk h0
  go_enter Tryz.func41, Tryz.ntmps41
  go_wp2_with fail
  refine (HU.out _ (HC.out.below ((Below.refl _ _).alloc (Nat.le_refl _) _))).mono ?_
  rintro e w1 ⟨rfl, h1, g1⟩
  have H1 := hide h1
  have G1 : Hid (Grew E w w1) := hide ((Grew.below ((Below.refl w.heap.size w).alloc (Nat.le_refl _) _)).trans (.grown g1))
  clear h1 g1 HC
  go_wp2_with fail
  go_loopw [9, 17] (fun v iv wr => v = .slice none 0 0 ∧ iv = .int .i64 0 ∧ wr = w1) (fun _ _ _ => 0)
  case atStart => exact ⟨rfl, rfl, rfl⟩
  case round =>
    obtain ⟨rfl, rfl, rfl⟩ := hrel
    go_wp2_with fail
    go_ret2
    exact ⟨rfl, H1.out, G1.out⟩
set_option maxHeartbeats 2000000 in
set_option maxRecDepth 100000 in
theorem interfaces_0 (h : CW E k (clsV E mj fl nm sp I F M) w) (hk : k + 2 ≤ E.xs.length) (h0 : numAt E.xs k 2 = 0) :
    Calls Tryz.prog 27 #[(.agg #[.pointer (some ⟨E.g, 0, none⟩), .pointer (some ⟨E.q, 0, none⟩)])] w fun e w' => e = .returned (.bool true) ∧ CW E (k + 2) (clsV E mj fl nm sp (.slice none 0 0) F M) w' ∧ Grew E w w' := by
  have HB := hide h.boxed
  have HL := hide (fun W (hW : CW E k (clsV E mj fl nm sp I F M) W) => listS_0 hW hk h0 (.func 33) (.func 37) #[(.agg #[.pointer (some ⟨E.g, 0, none⟩), .pointer (some ⟨E.q, 0, none⟩)])] #[] #[] #[])
  clear h hk h0
  obtain ⟨a0, a1⟩ := HB.out.box
  go_enter Tryz.func27, Tryz.ntmps27
  go_wp2_with fail
  generalize w.alloc (.cells #[.pointer (some ⟨E.g, 0, none⟩), .pointer (some ⟨E.q, 0, none⟩)] 58) = wa at *
  refine (HL.out _ HB.out.1).mono ?_
  rintro e w1 ⟨rfl, h1, g1⟩
  have H1 := hide (HB.out.call h1 g1)
  clear h1 g1 HB a0 a1
  obtain ⟨a0, a1⟩ := H1.out.box
  have c5 : w1.cell? ⟨E.q, 5, none⟩ = some I := H1.out.1.cls.cell 5
  have f5 := H1.out.1.cls.free 5
  go_wp2_with fail
  go_ret
  have H2 := H1.out.putQ 5 (.slice none 0 0)
  exact ⟨rfl, H2.1, H2.2.2.1⟩
set_option maxHeartbeats 2000000 in
set_option maxRecDepth 100000 in
theorem fields_0 (h : CW E k (clsV E mj fl nm sp I F M) w) (hk : k + 2 ≤ E.xs.length) (h0 : numAt E.xs k 2 = 0) :
    Calls Tryz.prog 28 #[(.agg #[.pointer (some ⟨E.g, 0, none⟩), .pointer (some ⟨E.q, 0, none⟩)])] w fun e w' => e = .returned (.bool true) ∧ CW E (k + 2) (clsV E mj fl nm sp I (.slice none 0 0) M) w' ∧ Grew E w w' := by
  have HB := hide h.boxed
  have HL := hide (fun W (hW : CW E k (clsV E mj fl nm sp I F M) W) => listF_0 hW hk h0 (.func 39) (.func 40) #[(.agg #[.pointer (some ⟨E.g, 0, none⟩), .pointer (some ⟨E.q, 0, none⟩)])] #[] #[] #[])
  clear h hk h0
  obtain ⟨a0, a1⟩ := HB.out.box
  go_enter Tryz.func28, Tryz.ntmps28
  go_wp2_with fail
  generalize w.alloc (.cells #[.pointer (some ⟨E.g, 0, none⟩), .pointer (some ⟨E.q, 0, none⟩)] 58) = wa at *
  refine (HL.out _ HB.out.1).mono ?_
  rintro e w1 ⟨rfl, h1, g1⟩
  have H1 := hide (HB.out.call h1 g1)
  clear h1 g1 HB a0 a1
  obtain ⟨a0, a1⟩ := H1.out.box
  have c5 : w1.cell? ⟨E.q, 6, none⟩ = some F := H1.out.1.cls.cell 6
  have f5 := H1.out.1.cls.free 6
  go_wp2_with fail
  go_ret
  have H2 := H1.out.putQ 6 (.slice none 0 0)
  exact ⟨rfl, H2.1, H2.2.2.1⟩
set_option maxHeartbeats 2000000 in
set_option maxRecDepth 100000 in
theorem methods_0 (h : CW E k (clsV E mj fl nm sp I F M) w) (hk : k + 2 ≤ E.xs.length) (h0 : numAt E.xs k 2 = 0) :
    Calls Tryz.prog 29 #[(.agg #[.pointer (some ⟨E.g, 0, none⟩), .pointer (some ⟨E.q, 0, none⟩)])] w fun e w' => e = .returned (.bool true) ∧ CW E (k + 2) (clsV E mj fl nm sp I F (.slice none 0 0)) w' ∧ Grew E w w' := by
  have HB := hide h.boxed
  have HL := hide (fun W (hW : CW E k (clsV E mj fl nm sp I F M) W) => listM_0 hW hk h0 (.func 42) (.func 43) #[(.agg #[.pointer (some ⟨E.g, 0, none⟩), .pointer (some ⟨E.q, 0, none⟩)])] #[] #[] #[])
  clear h hk h0
  obtain ⟨a0, a1⟩ := HB.out.box
  go_enter Tryz.func29, Tryz.ntmps29
  go_wp2_with fail
  generalize w.alloc (.cells #[.pointer (some ⟨E.g, 0, none⟩), .pointer (some ⟨E.q, 0, none⟩)] 58) = wa at *
  refine (HL.out _ HB.out.1).mono ?_
  rintro e w1 ⟨rfl, h1, g1⟩
  have H1 := hide (HB.out.call h1 g1)
  clear h1 g1 HB a0 a1
  obtain ⟨a0, a1⟩ := H1.out.box
  have c5 : w1.cell? ⟨E.q, 7, none⟩ = some M := H1.out.1.cls.cell 7
  have f5 := H1.out.1.cls.free 7
  go_wp2_with fail
  go_ret
  have H2 := H1.out.putQ 7 (.slice none 0 0)
  exact ⟨rfl, H2.1, H2.2.2.1⟩
end
end Go.Proofs.YtbdbcalmjbmflaaGreatDoor
namespace Go.Proofs.YtbdbcalmjbmflaaGreatDoor
open Go.RowKit

section
variable {E : CEnv} {k : Nat} {mj fl : Int} {nm sp : ByteArray} {I F M : Value} {w : World}
theorem size_of (t : List Int) (h : IsBytes t) : (strOfNums t).size = t.length := by rw [← nums_len, nums_of t h]
set_option maxHeartbeats 4000000 in
set_option maxRecDepth 100000 in
theorem field9_any (h : CW E k (clsV E mj fl nm sp I F M) w) (hk : k + 8 ≤ E.xs.length) (v : Int) (hv : numAt E.xs k 2 = v) (v0 : 0 ≤ v) (v1 : v < 65536) (n d : List Int) (hn : textAt E.ps (numAt E.xs (k + 2) 2) = some n) (hd : textAt E.ps (numAt E.xs (k + 4) 2) = some d)
    (bn : IsBytes n) (bd : IsBytes d) (ln : n.length ≤ 1000000) (ld : d.length ≤ 1000000) (pn : plainB n = true) (t : Ty) (fd : field d = some t) (h0 : numAt E.xs (k + 6) 2 = 0) :
    Calls Tryz.prog 39 #[(.agg #[.pointer (some ⟨E.g, 0, none⟩), .pointer (some ⟨E.q, 0, none⟩)])] w fun e w' => ∃ (c0 c3 : Int) (c1 c2 : ByteArray) (k' : Nat), e = .returned (.tuple #[.agg #[.int .i64 c0, .string c1, .string c2, .int .i64 c3], .bool (fieldFlagsB v (has fl 512))]) ∧ (fieldFlagsB v (has fl 512) = true → k' = k + 8) ∧ CW E k' (clsV E mj fl nm sp I F M) w' ∧ Grew E w w' := by
  have HB := hide (h.boxed.alloc (.cells #[.int .i64 0, .string ⟨#[]⟩, .string ⟨#[]⟩, .int .i64 0] 51))
  have HC := hide (At.new (w.alloc (.cells #[.pointer (some ⟨E.g, 0, none⟩), .pointer (some ⟨E.q, 0, none⟩)] 58)) 51 [.int .i64 0, .string ⟨#[]⟩, .string ⟨#[]⟩, .int .i64 0])
  have hz : (w.alloc (.cells #[.pointer (some ⟨E.g, 0, none⟩), .pointer (some ⟨E.q, 0, none⟩)] 58)).heap.size = w.heap.size + 1 := by simp
  rw [hz] at HC
  have HM : Hid (∀ W, CW E k (clsV E mj fl nm sp I F M) W → Calls Tryz.prog 55 #[(.agg #[.pointer (some ⟨E.g, 0, none⟩), .pointer (some ⟨E.q, 0, none⟩)])] W fun e w' => e = .returned (.tuple #[.int .i64 v, .string (strOfNums n), .string (strOfNums d), .bool true]) ∧ CW E (k + 6) (clsV E mj fl nm sp I F M) w' ∧ Grew E W w') := hide fun W hW => by
    have := member_any hW (by omega) n d hn hd
    rwa [hv] at this
  have HD : Hid (∀ W, Maxed W → Calls Tryz.prog 56 #[.string (strOfNums d)] W fun e w' => e = .returned (.tuple #[t.val, .bool true]) ∧ Below W.heap.size W w') := hide fun W hW => by
    have := field_any (strOfNums d) W (by rw [size_of d bd]; exact ld) hW
    rwa [nums_of d bd, fd] at this
  have HP : Hid (∀ W, Calls Tryz.prog 57 #[.string (strOfNums n)] W (Tells true W)) := hide fun W => by
    have := plain_any (strOfNums n) W (by rw [size_of n bn]; exact ln)
    rwa [nums_of n bn, pn] at this
  have HI := hide (cfisInterface_is fl)
  have HFM := hide (cffieldMay_is v v0 v1 (has fl 512))
  have HV : Hid (∀ W, CW E (k + 6) (clsV E mj fl nm sp I F M) W → Calls Tryz.prog 59 #[(.agg #[.pointer (some ⟨E.g, 0, none⟩), .pointer (some ⟨E.q, 0, none⟩)]), .int .i64 v, .string (strOfNums d)] W fun e w' => e = .returned (.tuple #[.int .i64 0, .bool true]) ∧ CW E (k + 8) (clsV E mj fl nm sp I F M) w' ∧ Grew E W w') := hide fun W hW => value_0 hW (by omega) h0 v _
  clear h hk hv hn hd bn bd ln ld pn fd h0 hz v0 v1
  generalize strOfNums n = sn at *
  generalize strOfNums d = sd at *
  generalize fieldFlagsB v (has fl 512) = R at *
  generalize has fl 512 = fc at *
  obtain ⟨tk, tn, td, tx⟩ := t
  unfold Ty.val at HD
  simp only at HD
  generalize strOfNums tn = stn at *
  obtain ⟨a0, a1⟩ := HB.out.box
  go_enter Tryz.func39, Tryz.ntmps39
  go_wp2_with fail
  generalize (w.alloc (.cells #[.pointer (some ⟨E.g, 0, none⟩), .pointer (some ⟨E.q, 0, none⟩)] 58)).alloc (.cells #[.int .i64 0, .string ⟨#[]⟩, .string ⟨#[]⟩, .int .i64 0] 51) = wa at *
  refine (HM.out _ HB.out.1).mono ?_
  rintro e w1 ⟨rfl, h1, g1⟩
  have HC1 := hide (HC.out.grew g1 HB.out.1 (by decide) (by decide))
  have H1 := hide (HB.out.call h1 g1)
  clear h1 g1 HB HC a0 a1
  go_wp2_with fail
  refine (HD.out _ H1.out.1.maxed).mono ?_
  rintro e w2 ⟨rfl, b2⟩
  have HC2 := hide ((HC1.out.below b2 HC1.out.lt).alloc (.cells #[.int .u8 tk, .string stn, .int .i64 td, .int .u8 tx] 94))
  have H2 := hide ((H1.out.below b2).alloc (.cells #[.int .u8 tk, .string stn, .int .i64 td, .int .u8 tx] 94))
  clear b2 H1 HC1
  go_wp2_with fail
  generalize w2.alloc (.cells #[.int .u8 tk, .string stn, .int .i64 td, .int .u8 tx] 94) = w3 at *
  refine (HP.out _).mono ?_
  rintro e w4 ⟨rfl, b4⟩
  have HC4 := hide (HC2.out.below b4 HC2.out.lt)
  have H4 := hide (H2.out.below b4)
  clear b4 H2 HC2
  obtain ⟨a0, a1⟩ := H4.out.box
  obtain ⟨e0, e1, e2⟩ := H4.out.cells
  have z0 : w4.cell? ⟨w.heap.size + 1, 0, none⟩ = some (.int .i64 0) := HC4.out.cell 0
  have z1 : w4.cell? ⟨w.heap.size + 1, 1, none⟩ = some (.string ⟨#[]⟩) := HC4.out.cell 1
  have z2 : w4.cell? ⟨w.heap.size + 1, 2, none⟩ = some (.string ⟨#[]⟩) := HC4.out.cell 2
  have z3 : w4.cell? ⟨w.heap.size + 1, 3, none⟩ = some (.int .i64 0) := HC4.out.cell 3
  have f0 := HC4.out.free 0
  have f1 := HC4.out.free 1
  have f2 := HC4.out.free 2
  have f3 := HC4.out.free 3
  go_wp2_with fail
  refine (HI.out _).mono ?_
  rintro e w5 ⟨rfl, rfl⟩
  go_wp2_with fail
  refine (HFM.out _).mono ?_
  rintro e w5 ⟨rfl, rfl⟩
  cases R
  · go_wp2_with fail
    have HF := (((H4.out.put (b := w.heap.size + 1) (i := 0) (by omega) (.int .i64 0)).put (b := w.heap.size + 1) (i := 1) (by omega) (.string ⟨#[]⟩)).put (b := w.heap.size + 1) (i := 2) (by omega) (.string ⟨#[]⟩)).put (b := w.heap.size + 1) (i := 3) (by omega) (.int .i64 0)
    have HS := (((HC4.out.set 0 (.int .i64 0)).set 1 (.string ⟨#[]⟩)).set 2 (.string ⟨#[]⟩)).set 3 (.int .i64 0)
    generalize World.setCell (World.setCell (World.setCell (World.setCell _ _ _) _ _) _ _) _ _ = w9 at *
    have q0 : w9.cell? ⟨w.heap.size + 1, 0, none⟩ = some (.int .i64 0) := HS.cell 0
    have q1 : w9.cell? ⟨w.heap.size + 1, 1, none⟩ = some (.string ⟨#[]⟩) := HS.cell 1
    have q2 : w9.cell? ⟨w.heap.size + 1, 2, none⟩ = some (.string ⟨#[]⟩) := HS.cell 2
    have q3 : w9.cell? ⟨w.heap.size + 1, 3, none⟩ = some (.int .i64 0) := HS.cell 3
    refine bodyPost_ret (v := .tuple #[.agg #[.int .i64 0, .string ⟨#[]⟩, .string ⟨#[]⟩, .int .i64 0], .bool false]) ?_ rfl ⟨0, 0, _, _, _, rfl, by simp, HF.1, HF.2.2.1⟩
    simp [results, Tryz.results39, go_sem, q0, q1, q2, q3]
  · go_wp2_with fail
    refine (HV.out _ H4.out.1).mono ?_
    rintro e w6 ⟨rfl, h6, g6⟩
    have HC6 := hide (HC4.out.grew g6 H4.out.1 (by decide) (by decide))
    have H6 := hide (H4.out.call h6 g6)
    clear h6 g6 H4 HC4 a0 a1 z0 z1 z2 z3 f0 f1 f2 f3 e0 e1 e2
    have z0 : w6.cell? ⟨w.heap.size + 1, 0, none⟩ = some (.int .i64 0) := HC6.out.cell 0
    have z1 : w6.cell? ⟨w.heap.size + 1, 1, none⟩ = some (.string ⟨#[]⟩) := HC6.out.cell 1
    have z2 : w6.cell? ⟨w.heap.size + 1, 2, none⟩ = some (.string ⟨#[]⟩) := HC6.out.cell 2
    have z3 : w6.cell? ⟨w.heap.size + 1, 3, none⟩ = some (.int .i64 0) := HC6.out.cell 3
    have f0 := HC6.out.free 0
    have f1 := HC6.out.free 1
    have f2 := HC6.out.free 2
    have f3 := HC6.out.free 3
    go_wp2_with fail
    have HF := (((H6.out.put (b := w.heap.size + 1) (i := 0) (by omega) (.int .i64 v)).put (b := w.heap.size + 1) (i := 1) (by omega) (.string sn)).put (b := w.heap.size + 1) (i := 2) (by omega) (.string sd)).put (b := w.heap.size + 1) (i := 3) (by omega) (.int .i64 0)
    have HS := (((HC6.out.set 0 (.int .i64 v)).set 1 (.string sn)).set 2 (.string sd)).set 3 (.int .i64 0)
    generalize World.setCell (World.setCell (World.setCell (World.setCell _ _ _) _ _) _ _) _ _ = w9 at *
    have q0 : w9.cell? ⟨w.heap.size + 1, 0, none⟩ = some (.int .i64 v) := HS.cell 0
    have q1 : w9.cell? ⟨w.heap.size + 1, 1, none⟩ = some (.string sn) := HS.cell 1
    have q2 : w9.cell? ⟨w.heap.size + 1, 2, none⟩ = some (.string sd) := HS.cell 2
    have q3 : w9.cell? ⟨w.heap.size + 1, 3, none⟩ = some (.int .i64 0) := HS.cell 3
    refine bodyPost_ret (v := .tuple #[.agg #[.int .i64 v, .string sn, .string sd, .int .i64 0], .bool true]) ?_ rfl ⟨⟨v, 0, _, _, rfl⟩, HF.1, HF.2.2.1⟩
    simp [results, Tryz.results39, go_sem, q0, q1, q2, q3]
end
end Go.Proofs.YtbdbcalmjbmflaaGreatDoor
namespace Go.Proofs.YtbdbcalmjbmflaaGreatDoor
open Go.RowKit

section
variable {E : CEnv} {k : Nat} {mj fl : Int} {nm sp : ByteArray} {I F M : Value} {w : World}
set_option maxHeartbeats 1000000 in
set_option maxRecDepth 100000 in
theorem returns_is (s : ByteArray) (w : World) (hm : s.size ≤ 1000000) (hw : Maxed w) (ts : List Ty) (t : Ty) (hs : sig (nums s) = some (ts, t)) :
    Calls Tryz.prog 82 #[.string s] w fun e w' => e = .returned (.bool (t.kind == 86)) ∧ Below w.heap.size w w' := by
  have HM : Hid (Calls Tryz.prog 87 #[.string s] w (SigTold (some (ts, t)) w)) := hide (by
    have := method4_any s w hm hw
    rwa [hs] at this)
  clear hm hw hs
  go_enter Tryz.func82, Tryz.ntmps82
  go_wp2_with fail
  refine HM.out.mono ?_
  rintro e w1 ⟨hb, ⟨h, _⟩ | ⟨ts', t', A, c, h, rfl, _, _, _⟩⟩
  · cases h
  · cases h
    obtain ⟨tk, tn, td, tx⟩ := t
    have HB := hide hb
    clear hb
    unfold Ty.val
    simp only
    generalize strOfNums tn = stn at *
    go_wp2_with fail
    go_ret
    exact ⟨rfl, HB.out.alloc HB.out.size _⟩
theorem argWords_0 (s : ByteArray) (v : Int) (w : World) (hm : s.size ≤ 1000000) (hw : Maxed w) (hs : argsW (nums s) = 0) :
    Calls Tryz.prog 64 #[.int .i64 v, .string s] w fun e w' => e = .returned (.int .i64 (if has v 8 = true then 0 else 1)) ∧ Below w.heap.size w w' := by
  have HA : Hid (Calls Tryz.prog 84 #[.string s] w fun e w' => e = .returned (.int .i64 0) ∧ Below w.heap.size w w') := hide (by
    have := dargs_any s w hm hw
    rwa [hs] at this)
  clear hm hw hs
  obtain ⟨b, hb⟩ : ∃ b, has v 8 = b := ⟨_, rfl⟩
  rw [hb]
  unfold has at hb
  cases b <;>
  · go_enter Tryz.func64, Tryz.ntmps64
    go_wp2_with fail
    refine HA.out.mono ?_
    rintro e w1 ⟨rfl, hb1⟩
    have HB := hide hb1
    clear hb1
    go_wp2_with fail
    go_ret
    exact ⟨rfl, HB.out⟩
/-- May a method that is neither have such flags? -/
def plainFlagsB (v fl mj : Int) : Bool := !(has fl 512 && !faceFlagsB v mj) && methodFlagsB v
def initFlagsB (v fl mj : Int) (rv : Bool) : Bool := !(has fl 512 && !faceFlagsB v mj) && (!(has fl 512 || !inB v 7 || !rv) && methodFlagsB v)
def sInitB : ByteArray := ⟨#[60, 105, 110, 105, 116, 62]⟩
def sClinitB : ByteArray := ⟨#[60, 99, 108, 105, 110, 105, 116, 62]⟩
set_option maxHeartbeats 4000000 in
set_option maxRecDepth 100000 in
theorem allows_m (h : CW E k (clsV E mj fl nm sp I F M) w) (v : Int) (v0 : 0 ≤ v) (v1 : v < 65536) (sd : ByteArray) :
    Calls Tryz.prog 63 #[(.agg #[.pointer (some ⟨E.g, 0, none⟩), .pointer (some ⟨E.q, 0, none⟩)]), .int .i64 v, .string ⟨#[109]⟩, .string sd] w fun e w' => e = .returned (.bool (plainFlagsB v fl mj)) ∧ CW E k (clsV E mj fl nm sp I F M) w' ∧ Grew E w w' := by
  have HB := hide h.boxed
  have HI := hide (cfisInterface_is fl)
  have HF := hide (cffaceMethodMay_is v mj)
  have HM := hide (cfmethodMay_is v v0 v1)
  clear h v0 v1
  unfold plainFlagsB
  generalize has fl 512 = i at *
  generalize faceFlagsB v mj = f at *
  generalize methodFlagsB v = m at *
  obtain ⟨a0, a1⟩ := HB.out.box
  obtain ⟨b0, b1, b2⟩ := HB.out.cells
  cases i <;> cases f <;>
  · go_enter Tryz.func63, Tryz.ntmps63
    go_wp2_with fail
    refine (HI.out _).mono ?_
    rintro e w1 ⟨rfl, rfl⟩
    go_wp2_with fail
    repeat (first
      | (refine (HF.out _).mono ?_; rintro e w1 ⟨rfl, rfl⟩; go_wp2_with fail)
      | (refine (HM.out _).mono ?_; rintro e w1 ⟨rfl, rfl⟩; go_wp2_with fail))
    go_ret
    exact ⟨rfl, HB.out.1, HB.out.2.2.1⟩
set_option maxHeartbeats 4000000 in
set_option maxRecDepth 100000 in
theorem allows_clinit (h : CW E k (clsV E mj fl nm sp I F M) w) (v : Int) (sd : ByteArray) (b : Bool) (hb : (sd.toList == [40, 41, 86]) = b) :
    Calls Tryz.prog 63 #[(.agg #[.pointer (some ⟨E.g, 0, none⟩), .pointer (some ⟨E.q, 0, none⟩)]), .int .i64 v, .string ⟨#[60, 99, 108, 105, 110, 105, 116, 62]⟩, .string sd] w fun e w' => e = .returned (.bool (v == 8 && b)) ∧ CW E k (clsV E mj fl nm sp I F M) w' ∧ Grew E w w' := by
  have HB := hide h.boxed
  have HI := hide (cfisInterface_is fl)
  clear h
  generalize has fl 512 = i at *
  obtain ⟨a0, a1⟩ := HB.out.box
  obtain ⟨b0, b1, b2⟩ := HB.out.cells
  by_cases hv : v = 8
  · subst hv
    cases b <;>
    · go_enter Tryz.func63, Tryz.ntmps63
      go_wp2_with fail
      refine (HI.out _).mono ?_
      rintro e w1 ⟨rfl, rfl⟩
      go_wp2_with fail
      go_ret
      exact ⟨rfl, HB.out.1, HB.out.2.2.1⟩
  · have hv' : (v == 8) = false := by simpa using hv
    rw [hv']
    go_enter Tryz.func63, Tryz.ntmps63
    go_wp2_with fail
    refine (HI.out _).mono ?_
    rintro e w1 ⟨rfl, rfl⟩
    go_wp2_with fail
    go_ret
    exact ⟨rfl, HB.out.1, HB.out.2.2.1⟩
set_option maxHeartbeats 4000000 in
set_option maxRecDepth 100000 in
theorem allows_init (h : CW E k (clsV E mj fl nm sp I F M) w) (v : Int) (v0 : 0 ≤ v) (v1 : v < 65536) (sd : ByteArray) (hm : sd.size ≤ 1000000) (ts : List Ty) (t : Ty) (hs : sig (nums sd) = some (ts, t)) :
    Calls Tryz.prog 63 #[(.agg #[.pointer (some ⟨E.g, 0, none⟩), .pointer (some ⟨E.q, 0, none⟩)]), .int .i64 v, .string ⟨#[60, 105, 110, 105, 116, 62]⟩, .string sd] w fun e w' => e = .returned (.bool (initFlagsB v fl mj (t.kind == 86))) ∧ CW E k (clsV E mj fl nm sp I F M) w' ∧ Grew E w w' := by
  have HB := hide h.boxed
  have HI := hide (cfisInterface_is fl)
  have HF := hide (cffaceMethodMay_is v mj)
  have HM := hide (cfmethodMay_is v v0 v1)
  have HW := hide (cfwithin_is v 7)
  have HR : Hid (∀ W, FB E w k (clsV E mj fl nm sp I F M) W → Calls Tryz.prog 82 #[.string sd] W fun e w' => e = .returned (.bool (t.kind == 86)) ∧ FB E w k (clsV E mj fl nm sp I F M) w') := hide fun W hW => (returns_is sd W hm hW.1.maxed ts t hs).mono fun e w' ⟨he, hb⟩ => ⟨he, hW.below hb⟩
  clear h v0 v1 hs
  unfold initFlagsB
  generalize has fl 512 = i at *
  generalize faceFlagsB v mj = f at *
  generalize methodFlagsB v = m at *
  generalize inB v 7 = b at *
  generalize (t.kind == 86) = r at *
  obtain ⟨a0, a1⟩ := HB.out.box
  obtain ⟨b0, b1, b2⟩ := HB.out.cells
  cases i
  · cases b
    · go_enter Tryz.func63, Tryz.ntmps63
      go_wp2_with fail
      refine (HI.out _).mono ?_
      rintro e w1 ⟨rfl, rfl⟩
      go_wp2_with fail
      refine (HW.out _).mono ?_
      rintro e w1 ⟨rfl, rfl⟩
      go_wp2_with fail
      go_ret
      exact ⟨rfl, HB.out.1, HB.out.2.2.1⟩
    · go_enter Tryz.func63, Tryz.ntmps63
      go_wp2_with fail
      refine (HI.out _).mono ?_
      rintro e w1 ⟨rfl, rfl⟩
      go_wp2_with fail
      refine (HW.out _).mono ?_
      rintro e w1 ⟨rfl, rfl⟩
      go_wp2_with fail
      refine (HR.out _ HB.out).mono ?_
      rintro e w1 ⟨rfl, h1⟩
      have H1 := hide h1
      clear h1
      cases r
      · go_wp2_with fail
        go_ret
        exact ⟨rfl, H1.out.1, H1.out.2.2.1⟩
      · go_wp2_with fail
        refine (HM.out _).mono ?_
        rintro e w1 ⟨rfl, rfl⟩
        go_wp2_with fail
        go_ret
        exact ⟨rfl, H1.out.1, H1.out.2.2.1⟩
  · cases f <;>
    · go_enter Tryz.func63, Tryz.ntmps63
      go_wp2_with fail
      refine (HI.out _).mono ?_
      rintro e w1 ⟨rfl, rfl⟩
      go_wp2_with fail
      refine (HF.out _).mono ?_
      rintro e w1 ⟨rfl, rfl⟩
      go_wp2_with fail
      go_ret
      exact ⟨rfl, HB.out.1, HB.out.2.2.1⟩
end
end Go.Proofs.YtbdbcalmjbmflaaGreatDoor
namespace Go.Proofs.YtbdbcalmjbmflaaGreatDoor
open Go.RowKit

section
variable {E : CEnv} {k : Nat} {mj fl : Int} {nm sp : ByteArray} {I F M : Value} {w : World}
/-- A method's value. -/
def methodV (x0 x4 x5 : Int) (x1 x2 : ByteArray) (x3 : Bool) (A : Option Addr) (m : Nat) : Value := .agg #[.int .i64 x0, .string x1, .string x2, .bool x3, .int .i64 x4, .int .i64 x5, .slice A m m, .slice none 0 0, .slice none 0 0]
def MethodTold (E : CEnv) (kE : Nat) (cls : List Value) (R : Bool) (w : World) (e : Ending) (w' : World) : Prop :=
  (∃ x0 x4 x5 x1 x2 x3 A m, e = .returned (.tuple #[methodV x0 x4 x5 x1 x2 x3 A m, .bool R])) ∧ (∃ k', (R = true → k' = kE) ∧ CW E k' cls w') ∧ Grew E w w'
theorem told_mk {cls : List Value} {R : Bool} {w' : World} {kE k' : Nat} (x0 x4 x5 : Int) (x1 x2 : ByteArray) (x3 : Bool) (A : Option Addr) (m : Nat) (h : FB E w k' cls w') (hk : R = true → k' = kE) :
    MethodTold E kE cls R w (.returned (.tuple #[methodV x0 x4 x5 x1 x2 x3 A m, .bool R])) w' := ⟨⟨x0, x4, x5, x1, x2, x3, A, m, rfl⟩, ⟨k', hk, h.1⟩, h.2.2.1⟩
set_option maxHeartbeats 4000000 in
set_option maxRecDepth 100000 in
theorem method9_any (h : CW E k (clsV E mj fl nm sp I F M) w) (hk : k + 6 ≤ E.xs.length) (v : Int) (hv : numAt E.xs k 2 = v) (n d : List Int) (hn : textAt E.ps (numAt E.xs (k + 2) 2) = some n) (hd : textAt E.ps (numAt E.xs (k + 4) 2) = some d)
    (sn sd : ByteArray) (en : strOfNums n = sn) (ed : strOfNums d = sd) (pn : methodB (nums sn) = true) (ln : sn.size ≤ 1000000) (ld : sd.size ≤ 1000000) (ad : argsW (nums sd) = 0) (aR bR : Bool) (kE : Nat)
    (HA : Hid (∀ W, CW E (k + 6) (clsV E mj fl nm sp I F M) W → Calls Tryz.prog 63 #[(.agg #[.pointer (some ⟨E.g, 0, none⟩), .pointer (some ⟨E.q, 0, none⟩)]), .int .i64 v, .string sn, .string sd] W fun e w' => e = .returned (.bool aR) ∧ CW E (k + 6) (clsV E mj fl nm sp I F M) w' ∧ Grew E W w'))
    (HBd : Hid (∀ (a : Int) W, a ≤ 1 → CW E (k + 6) (clsV E mj fl nm sp I F M) W → Calls Tryz.prog 65 #[(.agg #[.pointer (some ⟨E.g, 0, none⟩), .pointer (some ⟨E.q, 0, none⟩)]), .int .i64 v, .int .i64 a] W fun e w' => ∃ (c0 c1 : Int) (A : Option Addr) (m : Nat) (hs : Bool), e = .returned (.tuple #[.agg #[.int .i64 c0, .int .i64 c1, .slice A m m, .slice none 0 0, .slice none 0 0], .bool hs, .bool bR]) ∧ CW E kE (clsV E mj fl nm sp I F M) w' ∧ Grew E W w')) :
    Calls Tryz.prog 42 #[(.agg #[.pointer (some ⟨E.g, 0, none⟩), .pointer (some ⟨E.q, 0, none⟩)])] w (MethodTold E kE (clsV E mj fl nm sp I F M) (aR && bR) w) := by
  have HB := hide (h.boxed.alloc (.cells #[.int .i64 0, .string ⟨#[]⟩, .string ⟨#[]⟩, .bool false, .int .i64 0, .int .i64 0, .slice none 0 0, .slice none 0 0, .slice none 0 0] 47))
  have HC := hide (At.new (w.alloc (.cells #[.pointer (some ⟨E.g, 0, none⟩), .pointer (some ⟨E.q, 0, none⟩)] 58)) 47 [.int .i64 0, .string ⟨#[]⟩, .string ⟨#[]⟩, .bool false, .int .i64 0, .int .i64 0, .slice none 0 0, .slice none 0 0, .slice none 0 0])
  have hz : (w.alloc (.cells #[.pointer (some ⟨E.g, 0, none⟩), .pointer (some ⟨E.q, 0, none⟩)] 58)).heap.size = w.heap.size + 1 := by simp
  rw [hz] at HC
  have HM : Hid (∀ W, CW E k (clsV E mj fl nm sp I F M) W → Calls Tryz.prog 55 #[(.agg #[.pointer (some ⟨E.g, 0, none⟩), .pointer (some ⟨E.q, 0, none⟩)])] W fun e w' => e = .returned (.tuple #[.int .i64 v, .string sn, .string sd, .bool true]) ∧ CW E (k + 6) (clsV E mj fl nm sp I F M) w' ∧ Grew E W w') := hide fun W hW => by
    have := member_any hW (by omega) n d hn hd
    rwa [hv, en, ed] at this
  have HN : Hid (∀ W, Calls Tryz.prog 62 #[.string sn] W (Tells true W)) := hide fun W => by
    have := method_any sn W ln
    rwa [pn] at this
  have HW : Hid (∀ W, CW E (k + 6) (clsV E mj fl nm sp I F M) W → Calls Tryz.prog 64 #[.int .i64 v, .string sd] W fun e w' => ∃ a : Int, 0 ≤ a ∧ a ≤ 1 ∧ e = .returned (.int .i64 a) ∧ Below W.heap.size W w') := hide fun W hW =>
    (argWords_0 sd v W ld hW.maxed ad).mono fun e w' ⟨he, hb⟩ => ⟨_, by split <;> omega, by split <;> omega, he, hb⟩
  clear h hk hv hn hd en ed pn ln ld ad hz
  obtain ⟨a0, a1⟩ := HB.out.box
  go_enter Tryz.func42, Tryz.ntmps42
  go_wp2_with fail
  generalize (w.alloc (.cells #[.pointer (some ⟨E.g, 0, none⟩), .pointer (some ⟨E.q, 0, none⟩)] 58)).alloc (.cells #[.int .i64 0, .string ⟨#[]⟩, .string ⟨#[]⟩, .bool false, .int .i64 0, .int .i64 0, .slice none 0 0, .slice none 0 0, .slice none 0 0] 47) = wa at *
  refine (HM.out _ HB.out.1).mono ?_
  rintro e w1 ⟨rfl, h1, g1⟩
  have HC1 := hide (HC.out.grew g1 HB.out.1 (by decide) (by decide))
  have H1 := hide (HB.out.call h1 g1)
  clear h1 g1 HB HC a0 a1
  go_wp2_with fail
  refine (HN.out _).mono ?_
  rintro e w2 ⟨rfl, b2⟩
  have HC2 := hide (HC1.out.below b2 HC1.out.lt)
  have H2 := hide (H1.out.below b2)
  clear b2 H1 HC1
  obtain ⟨a0, a1⟩ := H2.out.box
  go_wp2_with fail
  refine (HA.out _ H2.out.1).mono ?_
  rintro e w3 ⟨rfl, h3, g3⟩
  have HC3 := hide (HC2.out.grew g3 H2.out.1 (by decide) (by decide))
  have H3 := hide (H2.out.call h3 g3)
  clear h3 g3 H2 HC2 a0 a1
  cases aR
  · have z0 : w3.cell? ⟨w.heap.size + 1, 0, none⟩ = some (.int .i64 0) := HC3.out.cell 0
    have z1 : w3.cell? ⟨w.heap.size + 1, 1, none⟩ = some (.string ⟨#[]⟩) := HC3.out.cell 1
    have z2 : w3.cell? ⟨w.heap.size + 1, 2, none⟩ = some (.string ⟨#[]⟩) := HC3.out.cell 2
    have z3 : w3.cell? ⟨w.heap.size + 1, 3, none⟩ = some (.bool false) := HC3.out.cell 3
    have z4 : w3.cell? ⟨w.heap.size + 1, 4, none⟩ = some (.int .i64 0) := HC3.out.cell 4
    have z5 : w3.cell? ⟨w.heap.size + 1, 5, none⟩ = some (.int .i64 0) := HC3.out.cell 5
    have z6 : w3.cell? ⟨w.heap.size + 1, 6, none⟩ = some (.slice none 0 0) := HC3.out.cell 6
    have z7 : w3.cell? ⟨w.heap.size + 1, 7, none⟩ = some (.slice none 0 0) := HC3.out.cell 7
    have z8 : w3.cell? ⟨w.heap.size + 1, 8, none⟩ = some (.slice none 0 0) := HC3.out.cell 8
    have f0 := HC3.out.free 0
    have f1 := HC3.out.free 1
    have f2 := HC3.out.free 2
    have f3 := HC3.out.free 3
    have f4 := HC3.out.free 4
    have f5 := HC3.out.free 5
    have f6 := HC3.out.free 6
    have f7 := HC3.out.free 7
    have f8 := HC3.out.free 8
    go_wp2_with fail
    have HF := ((((((((H3.out.put (b := w.heap.size + 1) (i := 0) (by omega) (.int .i64 0)).put (b := w.heap.size + 1) (i := 1) (by omega) (.string ⟨#[]⟩)).put (b := w.heap.size + 1) (i := 2) (by omega) (.string ⟨#[]⟩)).put (b := w.heap.size + 1) (i := 3) (by omega) (.bool false)).put (b := w.heap.size + 1) (i := 4) (by omega) (.int .i64 0)).put (b := w.heap.size + 1) (i := 5) (by omega) (.int .i64 0)).put (b := w.heap.size + 1) (i := 6) (by omega) (.slice none 0 0)).put (b := w.heap.size + 1) (i := 7) (by omega) (.slice none 0 0)).put (b := w.heap.size + 1) (i := 8) (by omega) (.slice none 0 0)
    have HS := ((((((((HC3.out.set 0 (.int .i64 0)).set 1 (.string ⟨#[]⟩)).set 2 (.string ⟨#[]⟩)).set 3 (.bool false)).set 4 (.int .i64 0)).set 5 (.int .i64 0)).set 6 (.slice none 0 0)).set 7 (.slice none 0 0)).set 8 (.slice none 0 0)
    generalize World.setCell (World.setCell (World.setCell (World.setCell (World.setCell (World.setCell (World.setCell (World.setCell (World.setCell _ _ _) _ _) _ _) _ _) _ _) _ _) _ _) _ _) _ _ = w9 at *
    have q0 : w9.cell? ⟨w.heap.size + 1, 0, none⟩ = some (.int .i64 0) := HS.cell 0
    have q1 : w9.cell? ⟨w.heap.size + 1, 1, none⟩ = some (.string ⟨#[]⟩) := HS.cell 1
    have q2 : w9.cell? ⟨w.heap.size + 1, 2, none⟩ = some (.string ⟨#[]⟩) := HS.cell 2
    have q3 : w9.cell? ⟨w.heap.size + 1, 3, none⟩ = some (.bool false) := HS.cell 3
    have q4 : w9.cell? ⟨w.heap.size + 1, 4, none⟩ = some (.int .i64 0) := HS.cell 4
    have q5 : w9.cell? ⟨w.heap.size + 1, 5, none⟩ = some (.int .i64 0) := HS.cell 5
    have q6 : w9.cell? ⟨w.heap.size + 1, 6, none⟩ = some (.slice none 0 0) := HS.cell 6
    have q7 : w9.cell? ⟨w.heap.size + 1, 7, none⟩ = some (.slice none 0 0) := HS.cell 7
    have q8 : w9.cell? ⟨w.heap.size + 1, 8, none⟩ = some (.slice none 0 0) := HS.cell 8
    refine bodyPost_ret (v := .tuple #[.agg #[.int .i64 0, .string ⟨#[]⟩, .string ⟨#[]⟩, .bool false, .int .i64 0, .int .i64 0, .slice none 0 0, .slice none 0 0, .slice none 0 0], .bool false]) ?_ rfl (told_mk 0 0 0 _ _ false none 0 HF (fun h => by simp at h))
    simp [results, Tryz.results42, go_sem, q0, q1, q2, q3, q4, q5, q6, q7, q8]
  · go_wp2_with fail
    refine (HW.out _ H3.out.1).mono ?_
    rintro e w4 ⟨a, l0, l1, rfl, b4⟩
    have HC4 := hide (HC3.out.below b4 HC3.out.lt)
    have H4 := hide (H3.out.below b4)
    clear b4 H3 HC3
    obtain ⟨a0, a1⟩ := H4.out.box
    go_wp2_with fail
    refine (HBd.out a _ l1 H4.out.1).mono ?_
    rintro e w5 ⟨c0, c1, A, m, hs, rfl, h5, g5⟩
    have H5 := hide (H4.out.call h5 g5)
    have HX := hide (At.new w5 45 [.int .i64 c0, .int .i64 c1, .slice A m m, .slice none 0 0, .slice none 0 0])
    have HC5a := hide (HC4.out.grew g5 H4.out.1 (by decide) (by decide))
    have z0 : w5.cell? ⟨w.heap.size + 1, 0, none⟩ = some (.int .i64 0) := HC5a.out.cell 0
    have z1 : w5.cell? ⟨w.heap.size + 1, 1, none⟩ = some (.string ⟨#[]⟩) := HC5a.out.cell 1
    have z2 : w5.cell? ⟨w.heap.size + 1, 2, none⟩ = some (.string ⟨#[]⟩) := HC5a.out.cell 2
    have z3 : w5.cell? ⟨w.heap.size + 1, 3, none⟩ = some (.bool false) := HC5a.out.cell 3
    have z4 : w5.cell? ⟨w.heap.size + 1, 4, none⟩ = some (.int .i64 0) := HC5a.out.cell 4
    have z5 : w5.cell? ⟨w.heap.size + 1, 5, none⟩ = some (.int .i64 0) := HC5a.out.cell 5
    have z6 : w5.cell? ⟨w.heap.size + 1, 6, none⟩ = some (.slice none 0 0) := HC5a.out.cell 6
    have z7 : w5.cell? ⟨w.heap.size + 1, 7, none⟩ = some (.slice none 0 0) := HC5a.out.cell 7
    have z8 : w5.cell? ⟨w.heap.size + 1, 8, none⟩ = some (.slice none 0 0) := HC5a.out.cell 8
    have f0 := HC5a.out.free 0
    have f1 := HC5a.out.free 1
    have f2 := HC5a.out.free 2
    have f3 := HC5a.out.free 3
    have f4 := HC5a.out.free 4
    have f5 := HC5a.out.free 5
    have f6 := HC5a.out.free 6
    have f7 := HC5a.out.free 7
    have f8 := HC5a.out.free 8
    have lr : w.heap.size + 1 < w5.heap.size := Nat.lt_of_lt_of_le HC4.out.lt g5.1
    clear h5 g5 H4 HC4 a0 a1
    have ne1 : w.heap.size + 1 ≠ w5.heap.size := by omega
    have ne2 : w5.heap.size ≠ w.heap.size + 1 := by omega
    go_wp2_with fail
    have HF := ((((((((((H5.out).put (b := w.heap.size + 1) (i := 0) (by omega) (.int .i64 v)).put (b := w.heap.size + 1) (i := 1) (by omega) (.string sn)).put (b := w.heap.size + 1) (i := 2) (by omega) (.string sd)).put (b := w.heap.size + 1) (i := 3) (by omega) (.bool hs)).put (b := w.heap.size + 1) (i := 4) (by omega) (.int .i64 c0)).put (b := w.heap.size + 1) (i := 5) (by omega) (.int .i64 c1)).put (b := w.heap.size + 1) (i := 6) (by omega) (.slice A m m)).put (b := w.heap.size + 1) (i := 7) (by omega) (.slice none 0 0)).put (b := w.heap.size + 1) (i := 8) (by omega) (.slice none 0 0)).alloc (.cells #[.int .i64 c0, .int .i64 c1, .slice A m m, .slice none 0 0, .slice none 0 0] 45)
    have HS := ((((((((((HC5a.out).set 0 (.int .i64 v)).set 1 (.string sn)).set 2 (.string sd)).set 3 (.bool hs)).set 4 (.int .i64 c0)).set 5 (.int .i64 c1)).set 6 (.slice A m m)).set 7 (.slice none 0 0)).set 8 (.slice none 0 0)).alloc (.cells #[.int .i64 c0, .int .i64 c1, .slice A m m, .slice none 0 0, .slice none 0 0] 45)
    generalize World.alloc (World.setCell (World.setCell (World.setCell (World.setCell (World.setCell (World.setCell (World.setCell (World.setCell (World.setCell _ _ _) _ _) _ _) _ _) _ _) _ _) _ _) _ _) _ _) _ = w9 at *
    have q0 : w9.cell? ⟨w.heap.size + 1, 0, none⟩ = some (.int .i64 v) := HS.cell 0
    have q1 : w9.cell? ⟨w.heap.size + 1, 1, none⟩ = some (.string sn) := HS.cell 1
    have q2 : w9.cell? ⟨w.heap.size + 1, 2, none⟩ = some (.string sd) := HS.cell 2
    have q3 : w9.cell? ⟨w.heap.size + 1, 3, none⟩ = some (.bool hs) := HS.cell 3
    have q4 : w9.cell? ⟨w.heap.size + 1, 4, none⟩ = some (.int .i64 c0) := HS.cell 4
    have q5 : w9.cell? ⟨w.heap.size + 1, 5, none⟩ = some (.int .i64 c1) := HS.cell 5
    have q6 : w9.cell? ⟨w.heap.size + 1, 6, none⟩ = some (.slice A m m) := HS.cell 6
    have q7 : w9.cell? ⟨w.heap.size + 1, 7, none⟩ = some (.slice none 0 0) := HS.cell 7
    have q8 : w9.cell? ⟨w.heap.size + 1, 8, none⟩ = some (.slice none 0 0) := HS.cell 8
    refine bodyPost_ret (v := .tuple #[.agg #[.int .i64 v, .string sn, .string sd, .bool hs, .int .i64 c0, .int .i64 c1, .slice A m m, .slice none 0 0, .slice none 0 0], .bool bR]) ?_ rfl (told_mk v c0 c1 sn sd hs A m HF (fun _ => rfl))
    simp [results, Tryz.results42, go_sem, q0, q1, q2, q3, q4, q5, q6, q7, q8]
end
end Go.Proofs.YtbdbcalmjbmflaaGreatDoor
