/- Texts of one stage, merged. Nothing is claimed here. -/
import Derived.WalkKit
import Derived.Deep.Draws
import Derived.Laws.CopyOwn
import Derived.Lib.Strings
import Derived.Lib.IndexBytes
import Derived.Laws.BitsLemmas
import Derived.Laws.BytesArg
import Derived.Test.YtbdbcalmjbmflaaGreatDoorProg
import Derived.Deep.QuietTactic
import Derived.BigQuiet
import Derived.WalkSpells
import Derived.Deep.OwnRows
import Derived.Test.YtbdbcalmjbmflaaGreatDoorRows
import Derived.ProofKit
import Derived.OpenShut
import Derived.ShutString
import Derived.ChangeOld
namespace Go.Proofs.YtbdbcalmjbmflaaGreatDoor
open Go.RowKit

/-- A fact that the walk's rewriting must not see. -/
theorem hide {p : Prop} (h : p) : Hid p := h

/-- Block g holds just the cells cs, of element type t, none of them frozen. -/
def At (w : World) (g : Nat) (t : TypeId) (cs : List Value) : Prop := w.heap[g]? = some (.cells cs.toArray t (0, 0))

section
variable {w w' : World} {g : Nat} {t : TypeId} {cs : List Value}
theorem At.lt (h : At w g t cs) : g < w.heap.size := by
  unfold At at h
  rcases Nat.lt_or_ge g w.heap.size with a | a
  · exact a
  · rw [Array.getElem?_eq_none a] at h; cases h
theorem At.cell (h : At w g t cs) (i : Nat) : w.cell? ⟨g, i, none⟩ = cs[i]? := by
  rw [cell_of_row w g i cs.toArray t (0, 0) h]; simp
theorem At.free (h : At w g t cs) (i : Nat) : w.frozen? ⟨g, i, none⟩ = false := by
  unfold At at h; simp [World.frozen?, h]
theorem At.new (w : World) (t : TypeId) (cs : List Value) : At (w.alloc (.cells cs.toArray t)) w.heap.size t cs := heap_alloc_new w _
theorem At.drewN (h : At w g t cs) (n : Nat) : At (w.drewN n) g t cs := h
theorem At.alloc (h : At w g t cs) (o : Obj) : At (w.alloc o) g t cs := (Below.heap_alloc w o g h.lt).trans h
theorem At.set (h : At w g t cs) (i : Nat) (u : Value) : At (w.setCell ⟨g, i, none⟩ u) g t (cs.set i u) := by
  unfold At at h ⊢
  simp [World.setCell, Array.getElem?_modify, h]
theorem At.far (h : At w g t cs) {p : Addr} (hp : g ≠ p.block) (u : Value) : At (w.setCell p u) g t cs := (Below.heap_setCell w p u g hp).trans h
theorem At.below {B : Nat} (h : At w g t cs) (hb : Below B w w') (hg : g < B) : At w' g t cs := (hb.block g hg).trans h
theorem At.grown {row : Option Nat} (h : At w g t cs) (hb : w.grownBy w' row) (hg : some g ≠ row) : At w' g t cs := (hb.block g h.lt hg).trans h
theorem At.ne {g' : Nat} {t' : TypeId} {cs' : List Value} (h : At w g t cs) (h' : At w g' t' cs') (hne : t ≠ t') : g ≠ g' := by
  rintro rfl
  unfold At at h h'
  rw [h] at h'
  simp only [Option.some.injEq, Obj.cells.injEq] at h'
  exact hne h'.2.1
end

theorem add_none (g o j : Nat) : (⟨g, o, none⟩ : Addr).add j = ⟨g, o + j, none⟩ := by unfold Addr.add; split <;> simp_all

/-- The slice with address A and n elements reads as the cells xs, in blocks ahead of B. -/
def Rd (w : World) (B : Nat) (A : Option Addr) (n : Nat) (xs : List Value) : Prop :=
  xs.length = n ∧ (0 < n → ∃ g o, A = some ⟨g, o, none⟩ ∧ g < B ∧ ∀ j u, xs[j]? = some u → w.cell? ⟨g, o + j, none⟩ = some u)

section
variable {w w' : World} {B B' : Nat} {A : Option Addr} {n : Nat} {xs : List Value}
theorem Rd.nil (w : World) (B : Nat) (A : Option Addr) : Rd w B A 0 [] := ⟨rfl, fun h => absurd h (Nat.lt_irrefl 0)⟩
theorem Rd.keep (h : Rd w B A n xs) (hc : ∀ b o, b < B → w'.cell? ⟨b, o, none⟩ = w.cell? ⟨b, o, none⟩) : Rd w' B A n xs :=
  ⟨h.1, fun hn => by obtain ⟨g, o, e, hg, hh⟩ := h.2 hn; exact ⟨g, o, e, hg, fun j u hu => (hc _ _ hg).trans (hh j u hu)⟩⟩
theorem Rd.below (h : Rd w B A n xs) (hb : Below B w w') : Rd w' B A n xs := h.keep fun _ _ hg => hb.cell hg
theorem Rd.more (h : Rd w B A n xs) (hB : B ≤ B') : Rd w B' A n xs :=
  ⟨h.1, fun hn => by obtain ⟨g, o, e, hg, hh⟩ := h.2 hn; exact ⟨g, o, e, by omega, hh⟩⟩
/-- A stretch of a block that is known whole. -/
theorem At.rd {g : Nat} {t : TypeId} {cs : List Value} (h : At w g t cs) (k m : Nat) (hk : k + m ≤ cs.length) : Rd w w.heap.size (some ⟨g, k, none⟩) m ((cs.drop k).take m) :=
  ⟨by simp; omega, fun _ => ⟨g, k, rfl, h.lt, fun j u hu => by
    rw [h.cell]
    simp only [List.getElem?_take, List.getElem?_drop] at hu
    split at hu
    · exact hu
    · cases hu⟩⟩
theorem Rd.src (h : Rd w B A n xs) : 0 < xs.length → ∃ ad, A = some ad ∧ ∀ j v, xs[j]? = some v → w.cell? (ad.add j) = some v := fun hn => by
  obtain ⟨g, o, e, _, hh⟩ := h.2 (by have := h.1; omega)
  exact ⟨_, e, fun j v hv => by rw [add_none]; exact hh j v hv⟩
end

/-- What may have turned of the old blocks is one block alone. -/
theorem only_set {w : World} {g i : Nat} (u : Value) : w.grownBy (w.setCell ⟨g, i, none⟩ u) (some g) :=
  ⟨rfl, rfl, rfl, by simp [World.setCell], fun k _ hne => Below.heap_setCell w ⟨g, i, none⟩ u k (fun e => hne (by rw [e]))⟩
theorem grown_trans {a b c : World} {row : Option Nat} (h : a.grownBy b row) (k : b.grownBy c row) : a.grownBy c row :=
  ⟨k.os.trans h.os, k.tape.trans h.tape, k.output.trans h.output, Nat.le_trans h.size k.size, fun i hi hne => (k.block i (by have := h.size; omega) hne).trans (h.block i hi hne)⟩
theorem grown_drewN {a b : World} {row : Option Nat} (h : a.grownBy b row) (n : Nat) : a.grownBy (b.drewN n) row := ⟨h.os, h.tape, h.output, h.size, h.block⟩
theorem grown_refl (a : World) (row : Option Nat) : a.grownBy a row := ⟨rfl, rfl, rfl, Nat.le_refl _, fun _ _ _ => rfl⟩
theorem grown_below {a b : World} (h : Below a.heap.size a b) (row : Option Nat) : a.grownBy b row := ⟨h.os, h.tape, h.output, h.size, fun i hi _ => h.block i hi⟩
theorem below_grown {a b : World} (h : a.grownBy b none) : Below a.heap.size a b := ⟨h.os, h.tape, h.output, h.size, fun i hi => h.block i hi (by simp)⟩
theorem below_drewN {B : Nat} {a b : World} (h : Below B a b) (n : Nat) : Below B a (b.drewN n) := ⟨h.os, h.tape, h.output, h.size, h.block⟩

/-! ### rows of the call's own, of elements of one cell -/
/-- The slice with address A and n elements reads as the cells xs: it is nil, or begins at the head of a block from base on that is known whole. -/
def Src (w : World) (base : Nat) (e : TypeId) (A : Option Addr) (n : Nat) (xs : List Value) : Prop :=
  (A = none ∧ n = 0 ∧ xs = []) ∨ ∃ g ex, A = some ⟨g, 0, none⟩ ∧ base ≤ g ∧ xs.length = n ∧ At w g e (xs ++ ex)

section
variable {w w' : World} {base : Nat} {e : TypeId} {v : Value} {A : Option Addr} {n : Nat} {xs : List Value}
theorem own_src (h : w.ownsRow base e 1 v n xs) : ∃ A c, v = .slice A n c ∧ Src w base e A n xs ∧ n ≤ c := by
  obtain ⟨hl, ⟨rfl, rfl⟩ | ⟨g, cap, cur, rfl, hb, hg, hn, _, hs, ht⟩⟩ := h
  · exact ⟨none, 0, rfl, .inl ⟨rfl, rfl, List.eq_nil_of_length_eq_zero (by simpa using hl)⟩, Nat.le_refl _⟩
  · refine ⟨_, cap, rfl, .inr ⟨g, cur.toList.drop n, rfl, hb, by simpa using hl, ?_⟩, hn⟩
    have : xs ++ cur.toList.drop n = cur.toList := by rw [← ht, Nat.mul_one, List.take_append_drop]
    unfold At
    rw [this]
    exact hg
theorem Src.rd (h : Src w base e A n xs) : Rd w w.heap.size A n xs := by
  rcases h with ⟨rfl, rfl, rfl⟩ | ⟨g, ex, rfl, _, hl, ha⟩
  · exact Rd.nil _ _ _
  · have := ha.rd 0 n (by simp; omega)
    simpa [← hl] using this
theorem Src.grown {row : Option Nat} (h : Src w base e A n xs) (hb : w.grownBy w' row) (hr : ∀ g t cs, row = some g → At w g t cs → t ≠ e) (hx : ∀ g, row = some g → ∃ t cs, At w g t cs) : Src w' base e A n xs := by
  rcases h with h | ⟨g, ex, rfl, hg, hl, ha⟩
  · exact .inl h
  · refine .inr ⟨g, ex, rfl, hg, hl, ha.grown hb (fun he => ?_)⟩
    obtain ⟨t, cs, h2⟩ := hx g he.symm
    exact h2.ne ha (hr g t cs he.symm h2) rfl
theorem Src.drewN (h : Src w base e A n xs) (k : Nat) : Src (w.drewN k) base e A n xs := h
theorem Src.len (h : Src w base e A n xs) : xs.length = n := by
  rcases h with ⟨_, rfl, rfl⟩ | ⟨_, _, _, _, h, _⟩
  · rfl
  · exact h
end

section
variable {P : Program} (w : World)
theorem run_append_rd (base : Nat) (t ty e : TypeId) (i : TypeInfo) (z : Value) (bytes : Nat) (ht : P.underlying t = some (.slice e)) (hi : P.info? e = some i) (hz : i.zero = some z)
    (hsize : i.size = 1) (hby : i.bytes = bytes) (hzs : z.cells.size = 1) (v : Value) (n : Nat) (xs : List Value) (hown : w.ownsRow base e 1 v n xs)
    (B : Nat) (A : Option Addr) (m c : Nat) (news : List Value) (hr : Rd w B A m news) (h1 : ∀ u ∈ news, u.oneCell' = true)
    (h63 : n + m ≤ maxLen) (hbytes : (n + m) * bytes ≤ 140737488355328) (hbase : base ≤ w.heap.size) :
    ∃ v' w', (Builtin.append_ #[t, t] ty #[v, .slice A m c]).run P w = .ok v' w' ∧ w'.ownsRow base e 1 v' (n + m) (xs ++ news) ∧ w.grownBy w' v.ownBlock := by
  rcases A with _ | ad
  · obtain rfl : m = 0 := by
      rcases Nat.eq_zero_or_pos m with h | h
      · exact h
      · obtain ⟨_, _, h, _⟩ := hr.2 h; cases h
    obtain rfl : news = [] := List.eq_nil_of_length_eq_zero hr.1
    refine ⟨v, w, ?_, by simpa using hown, grown_refl w _⟩
    rcases hown.2 with ⟨rfl, rfl⟩ | ⟨g, cap, cur, rfl, _, _, hnc, _⟩
    · simp [Builtin.append_, run_underlying ht, sizeOf, typeInfo, hi, Builtin.lenOf, Builtin.firstCells]
    · simp [Builtin.append_, run_underlying ht, sizeOf, typeInfo, hi, Builtin.lenOf, Builtin.firstCells, hnc, storeCells]
  · obtain ⟨v', w', a, b, d, _⟩ := run_append_own (P := P) w base t ty e i z 1 bytes ht hi hz hsize hby hzs (by omega) v n xs hown ad m c news (by rw [hr.1, Nat.mul_one]) (fun j u hu => by
      have hp : 0 < news.length := by have := (List.getElem?_eq_some_iff.1 hu).1; omega
      obtain ⟨ad', he, hh⟩ := hr.src hp
      cases he
      exact hh j u hu) h1 h63 hbytes hbase
    exact ⟨v', w', a, b, d⟩

theorem wpList_wanted {w : World} {ops : Array Oper} {rest : List Oper} {o : Oper} {a : Act} {Q : Exit → Act → World → Prop} (hg : Region.wanted o (yielded ops a.tmps) = true)
    (h : ∀ K : Act → World → Prop, (∀ a w, wpList P ops Q rest a w → K a w) → o.wp P a w K Q) : wpList P ops Q (o :: rest) a w :=
  wpList_step fun K hK => by rw [if_pos hg]; exact h K hK

theorem wpList_append_rd {ops : Array Oper} {rest : List Oper} {o : Oper} {a : Act} {Q : Exit → Act → World → Prop} (hgd : Region.wanted o (yielded ops a.tmps) = true) (s x : Operand) (t : TypeId)
    (ho : o.op = .call { callee := .builtin .append, args := #[s, x], argTypes := #[t, t] })
    (base : Nat) (e : TypeId) (i : TypeInfo) (z : Value) (bytes : Nat) (ht : P.underlying t = some (.slice e)) (hi : P.info? e = some i) (hz : i.zero = some z)
    (hsize : i.size = 1) (hby : i.bytes = bytes) (hzs : z.cells.size = 1) (v : Value) (n : Nat) (xs : List Value) (hs : a.eval s = v) (hown : w.ownsRow base e 1 v n xs)
    (B : Nat) (A : Option Addr) (m c : Nat) (news : List Value) (hx : a.eval x = .slice A m c) (hr : Rd w B A m news) (h1 : ∀ u ∈ news, u.oneCell' = true)
    (h63 : n + m ≤ maxLen) (hbytes : (n + m) * bytes ≤ 140737488355328) (hbase : base ≤ w.heap.size)
    (h : ∀ v' w', w'.ownsRow base e 1 v' (n + m) (xs ++ news) → w.grownBy w' v.ownBlock → wpList P ops Q rest (a.put o.dst v') w') : wpList P ops Q (o :: rest) a w := by
  refine wpList_wanted hgd fun K hK => ?_
  obtain ⟨v', w', hrun, h2, h3⟩ := run_append_rd (P := P) w base t o.type e i z bytes ht hi hz hsize hby hzs v n xs hown B A m c news hr h1 h63 hbytes hbase
  unfold Oper.wp execOp
  simp only [ho, resolve, invoke, builtin, Sem.run_bind, Sem.run_pure, Result.andThen_ok, List.map_toArray, List.map_cons, List.map_nil, hs, hx, hrun]
  exact hK _ _ (h v' w' h2 h3)
end

/-- Bytes as cells. -/
def bys (xs : List Int) : List Value := xs.map (.int .u8)
theorem bys_len (xs : List Int) : (bys xs).length = xs.length := by simp [bys]
theorem bys_one (xs : List Int) : ∀ v ∈ bys xs, v.oneCell' = true := by
  intro v hv
  simp only [bys, List.mem_map] at hv
  obtain ⟨a, _, rfl⟩ := hv
  rfl
/-- Each is a byte. -/
def IsBytes (xs : List Int) : Prop := ∀ x ∈ xs, 0 ≤ x ∧ x < 256
theorem IsBytes.take {xs : List Int} (h : IsBytes xs) (n : Nat) : IsBytes (xs.take n) := fun x hx => h x (List.mem_of_mem_take hx)
theorem IsBytes.drop {xs : List Int} (h : IsBytes xs) (n : Nat) : IsBytes (xs.drop n) := fun x hx => h x (List.mem_of_mem_drop hx)
end Go.Proofs.YtbdbcalmjbmflaaGreatDoor
namespace Go.Proofs.YtbdbcalmjbmflaaGreatDoor
open Go.RowKit

/-- The bytes of a string as numbers. -/
def nums (s : ByteArray) : List Int := s.data.toList.map fun b => (b.toNat : Int)
theorem nums_len (s : ByteArray) : (nums s).length = s.size := by rw [Lib.size_eq, nums, List.length_map]
theorem nums_bytes (s : ByteArray) : IsBytes (nums s) := by
  intro x hx
  simp only [nums, List.mem_map] at hx
  obtain ⟨b, _, rfl⟩ := hx
  have := UInt8.toNat_lt b
  omega
theorem num_at (s : ByteArray) (i : Nat) (h : i < s.size) : (nums s).getD i 0 = ((s[i].toNat : Nat) : Int) := by
  have := Lib.data_getElem? s i h
  simp [nums, List.getD, List.getElem?_map, this]
theorem num_out (s : ByteArray) (i : Nat) (h : ¬ i < s.size) : (nums s).getD i 0 = 0 := by
  have : (nums s)[i]? = none := List.getElem?_eq_none (by rw [nums_len]; omega)
  simp [List.getD, this]
theorem nums_from (s : ByteArray) (n : Nat) : nums (s.extract n s.size) = (nums s).drop n := by
  unfold nums
  rw [Lib.extract_to_end, List.map_drop]
theorem nums_cut (s : ByteArray) (a b : Nat) : nums (s.extract a b) = ((nums s).drop a).take (b - a) := by
  unfold nums
  rw [Lib.extract_data, List.map_take, List.map_drop]
theorem nums_of (xs : List Int) (h : IsBytes xs) : nums (strOfNums xs) = xs := by
  unfold nums
  rw [strOfNums_data, List.map_map]
  refine (List.map_congr_left fun x hx => ?_).trans (List.map_id xs)
  have := h x hx
  simp
  omega
theorem of_nums (s : ByteArray) : strOfNums (nums s) = s := by
  cases s with
  | mk d =>
    have h : ∀ l : List UInt8, l.map ((fun n : Int => UInt8.ofNat n.toNat) ∘ fun x : UInt8 => (x.toNat : Int)) = l := by
      intro l
      induction l with
      | nil => rfl
      | cons x r ih => simp [ih]
    simp [strOfNums, nums, h]
theorem nums_inj {s t : ByteArray} (h : nums s = nums t) : s = t := by rw [← of_nums s, h, of_nums]
theorem byte_range (b : UInt8) : 0 ≤ (b.toNat : Int) ∧ (b.toNat : Int) < 256 := by have := UInt8.toNat_lt b; omega
theorem ret_int {k : IntKind} {a b : Int} (h : a = b) : Ending.returned (.int k a) = .returned (.int k b) := by rw [h]
theorem ret_tup2 {k k' : IntKind} {a b a' b' : Int} (h : a = b) (h' : a' = b') : Ending.returned (.tuple #[.int k a, .int k' a']) = .returned (.tuple #[.int k b, .int k' b']) := by rw [h, h']
theorem ret_bool {a b : Bool} (h : a = b) : Ending.returned (.bool a) = .returned (.bool b) := by rw [h]

/-- Numbers as cells of a kind. -/
def cells (k : IntKind) (xs : List Int) : List Value := xs.map (.int k)
theorem cells_len (k : IntKind) (xs : List Int) : (cells k xs).length = xs.length := by simp [cells]
theorem cells_one (k : IntKind) (xs : List Int) : ∀ v ∈ cells k xs, v.oneCell' = true := by
  intro v hv
  simp only [cells, List.mem_map] at hv
  obtain ⟨a, _, rfl⟩ := hv
  rfl
theorem cells_at {w : World} {B : Nat} {A : Option Addr} {n : Nat} {k : IntKind} {ys : List Int} (h : Rd w B A n (cells k ys)) {j : Nat} (hj : j < n) :
    ∃ g o, A = some ⟨g, o, none⟩ ∧ g < B ∧ w.cell? ⟨g, o + j, none⟩ = some (.int k (ys.getD j 0)) := by
  have hl := h.1
  rw [cells_len] at hl
  obtain ⟨g, o, rfl, hg, hc⟩ := h.2 (by omega)
  exact ⟨g, o, rfl, hg, hc j _ (by simp [cells, List.getD, show j < ys.length by omega])⟩
theorem Rd.drewN {w : World} {B : Nat} {A : Option Addr} {n : Nat} {xs : List Value} (h : Rd w B A n xs) (k : Nat) : Rd (w.drewN k) B A n xs := h
/-- A new block that holds some cells, as a slice. -/
theorem Rd.made (w : World) (e : TypeId) (cs : List Value) : Rd (w.alloc (.cells cs.toArray e)) (w.heap.size + 1) (some ⟨w.heap.size, 0, none⟩) cs.length cs := by
  refine ⟨rfl, fun _ => ⟨_, 0, rfl, Nat.lt_succ_self _, fun j u hu => ?_⟩⟩
  rw [(At.new w e cs).cell, Nat.zero_add]
  exact hu

theorem quiet_same {P : Program} {f : FuncId} {args : Array Value} {w : World} {n : Nat} {v : Value}
    (h : Calls P f args (w.drewN n) fun e w' => e = .returned v ∧ w.drewN n = w') : Calls P f args (w.drewN n) fun e w'' => e = .returned v ∧ ∃ m, w'' = w.drewN m :=
  h.mono fun _ _ ⟨he, hm⟩ => ⟨he, n, hm.symm⟩

theorem one_cells (l : List Value) (h : l.all Value.oneCell' = true) : ∀ u ∈ l, u.oneCell' = true := by simpa using h
/-- 'append(v, x, ..)' onto an own row: the new cells were laid in a block just ahead. -/
theorem wpList_append_lits {P : Program} (w : World) {ops : Array Oper} {rest : List Oper} {o : Oper} {a : Act} {Q : Exit → Act → World → Prop} (hgd : Region.wanted o (yielded ops a.tmps) = true) (s x : Operand) (t : TypeId)
    (ho : o.op = .call { callee := .builtin .append, args := #[s, x], argTypes := #[t, t] })
    (base : Nat) (e : TypeId) (i : TypeInfo) (z : Value) (bytes : Nat) (ht : P.underlying t = some (.slice e)) (hi : P.info? e = some i) (hz : i.zero = some z)
    (hsize : i.size = 1) (hby : i.bytes = bytes) (hzs : z.cells.size = 1) (v : Value) (n : Nat) (xs : List Value) (hs : a.eval s = v) (hown : w.ownsRow base e 1 v n xs)
    (news : List Value) (m : Nat) (hm : news.length = m) (hx : a.eval x = .slice (some ⟨w.heap.size, 0, none⟩) m m) (h1 : news.all Value.oneCell' = true)
    (h63 : n + m ≤ maxLen) (hbytes : (n + m) * bytes ≤ 140737488355328) (hbase : base ≤ w.heap.size)
    (h : ∀ v' w', w'.ownsRow base e 1 v' (n + m) (xs ++ news) → w.grownBy w' v.ownBlock → wpList P ops Q rest (a.put o.dst v') w') : wpList P ops Q (o :: rest) a (w.alloc (.cells news.toArray e)) := by
  subst hm
  refine wpList_append_rd _ hgd s x t ho base e i z bytes ht hi hz hsize hby hzs v n xs hs (hown.alloc _) _ _ _ _ news hx (Rd.made w e news) (one_cells _ h1) h63 hbytes (by simp; omega) fun v' w' h2 h3 => h v' w' h2 (grown_trans (grown_below ((Below.refl _ _).alloc (Nat.le_refl _) _) _) h3)

/-! ### bits -/
theorem wraps_u16 (n : Int) (h₀ : 0 ≤ n) (h₁ : n < 2 ^ 16) : IntKind.u16.wrap n = n := by simp [IntKind.wrap, IntKind.bits, IntKind.signed]; omega
theorem wraps_u32 (n : Int) (h₀ : 0 ≤ n) (h₁ : n < 2 ^ 32) : IntKind.u32.wrap n = n := by rw [IntKind.wrap_u32]; omega
end Go.Proofs.YtbdbcalmjbmflaaGreatDoor
namespace Go.Proofs.YtbdbcalmjbmflaaGreatDoor
open Go.RowKit

theorem u8info : (Tryz.prog.info? 5).map (fun i => (i.zero, i.size, i.bytes)) = some (some (.int .u8 0), 1, 1) := by kernel_rfl
theorem u8size : (Tryz.prog.info? 5).map (·.size) = some 1 := by kernel_rfl

theorem splice_all {α : Type} (L cs : List α) (h : L.length = cs.length) : splice L 0 cs = cs := by
  simp [splice, ← h]

theorem copied_any (A : Option Addr) (n c : Nat) (xs : List Int) (w : World) (B : Nat) (hr : Rd w B A n (bys xs)) (hB : B ≤ w.heap.size) (hn : n ≤ 140737488355328) :
    Calls Tryz.prog 24 #[.slice A n c] w fun e w' => e = .returned (.slice (some ⟨w.heap.size, 0, none⟩) n n) ∧ At w' w.heap.size 5 (bys xs) ∧ Below w.heap.size w w' := by
  obtain ⟨i0, hi0, hz0, hz1, hz2⟩ := info_parts u8info
  have hlen : (bys xs).length = n := hr.1
  obtain ⟨cs, hcs⟩ : ∃ cs, cs = bys xs := ⟨_, rfl⟩
  rw [← hcs] at hr hlen ⊢
  have hone : ∀ v ∈ cs, v.oneCell' = true := by rw [hcs]; exact bys_one xs
  obtain ⟨cur, hcur⟩ : ∃ cur, cur = (madeCells #[Value.int .u8 0] n).toList := ⟨_, rfl⟩
  have hlc : cur.length = n := by rw [hcur]; simp [madeCells]
  have Hcur := hide hcur
  have Hlen := hide hlen
  have Hlc := hide hlc
  have Hcs := hide hcs
  have Hr := hide hr
  clear hcur hlen hlc hcs hr
  go_enter Tryz.func24, Tryz.ntmps24
  go_wp2_with (first
    | (at_make; refine wpList_make_row _ rfl _ _ 29 rfl 5 i0 _ Tryz.underlying29 hi0 hz0 hz1 rfl .i64 .i64 n rfl rfl (by rw [hz2]; omega) (by omega) ?_)
    | (with_reducible refine wpList_copy_splice rfl (.tmp 7) (.tmp 8) 29 29 rfl 5 Tryz.underlying29 u8size (some ⟨w.heap.size, 0, none⟩) A n n n c rfl rfl w.heap.size 0 cur 5 ?_ cs ?_ ?_ ?_ hone w.heap.size w ?_ (Nat.le_refl _) ?_))
  · simpa [Hcur.out] using heap_alloc_new w (.cells (madeCells #[Value.int .u8 0] n) 5)
  · simp [Hlen.out]
  · intro h
    have hr := Rd.below Hr.out ((Below.refl _ _).alloc hB (.cells (madeCells #[Value.int .u8 0] n) 5))
    exact hr.src h
  · simp [Hlc.out, Hlen.out]
  · exact (Below.refl _ _).alloc (Nat.le_refl _) _
  · intro w2 hg2 hb2
    have Hb := hide hb2
    clear hb2
    go_wp2
    go_ret
    refine ⟨rfl, ?_, Hb.out⟩
    have := hg2.out
    rwa [splice_all _ _ (Hlc.out.trans Hlen.out.symm)] at this

/-- A cursor over the bytes xs, k of them read; bad: a read was refused. -/
def Cur (w : World) (g gb : Nat) (xs : List Int) (k : Nat) (bad : Bool) : Prop :=
  At w g 63 [.slice (some ⟨gb, 0, none⟩) xs.length xs.length, .int .i64 k, .bool bad] ∧ At w gb 5 (bys xs) ∧ k ≤ xs.length ∧ IsBytes xs ∧ xs.length ≤ 140737488355328

def Made (w : World) (xs : List Int) (e : Ending) (w' : World) : Prop :=
  ∃ g gb, e = .returned (.pointer (some ⟨g, 0, none⟩)) ∧ Cur w' g gb xs 0 false ∧ w.heap.size ≤ g ∧ w.heap.size ≤ gb ∧ Below w.heap.size w w'

theorem new_any (A : Option Addr) (n c : Nat) (xs : List Int) (w : World) (B : Nat) (hr : Rd w B A n (bys xs)) (hB : B ≤ w.heap.size) (hn : n ≤ 140737488355328) (hx : IsBytes xs) :
    Calls Tryz.prog 18 #[.slice A n c] w (Made w xs) := by
  have hlen := hr.1
  rw [bys_len] at hlen
  have Hlen := hide hlen
  clear hlen
  go_enter Tryz.func18, Tryz.ntmps18
  go_wp2_with (go_at_call 24; refine (copied_any A n c xs w B hr hB hn).mono ?_; rintro e w1 ⟨rfl, hat1, hb1⟩)
  go_ret
  refine ⟨w1.heap.size, w.heap.size, rfl, ⟨?_, hat1.alloc _, Nat.zero_le _, hx, by rw [Hlen.out]; exact hn⟩, hb1.size, Nat.le_refl _, hb1.alloc hb1.size _⟩
  rw [Hlen.out]
  exact At.new w1 63 [.slice (some ⟨w.heap.size, 0, none⟩) n n, .int .i64 0, .bool false]

theorem ok_any (g gb : Nat) (xs : List Int) (k : Nat) (bad : Bool) (w : World) (h : Cur w g gb xs k bad) :
    Calls Tryz.prog 20 #[.pointer (some ⟨g, 0, none⟩)] w fun e w' => e = .returned (.bool (!bad)) ∧ w = w' := by
  have h2 : w.cell? ⟨g, 2, none⟩ = some (.bool bad) := h.1.cell 2
  go_enter Tryz.func20, Tryz.ntmps20
  go_wp2
  go_ret
  exact ⟨rfl, rfl⟩

theorem left_any (g gb : Nat) (xs : List Int) (k : Nat) (bad : Bool) (w : World) (h : Cur w g gb xs k bad) :
    Calls Tryz.prog 21 #[.pointer (some ⟨g, 0, none⟩)] w fun e w' => e = .returned (.int .i64 ((xs.length : Int) - k)) ∧ ∃ m, w' = w.drewN m := by
  have h0 : w.cell? ⟨g, 0, none⟩ = some (.slice (some ⟨gb, 0, none⟩) xs.length xs.length) := h.1.cell 0
  have h1 : w.cell? ⟨g, 1, none⟩ = some (.int .i64 k) := h.1.cell 1
  have hk := h.2.2.1
  have hl := h.2.2.2.2
  generalize xs.length = l at *
  clear h
  go_enter Tryz.func21, Tryz.ntmps21
  go_wp2
  go_quiet (fail)
  go_wp2
  go_ret
  exact ⟨rfl, _, rfl⟩

theorem Cur.grown {w w' : World} {g gb : Nat} {xs : List Int} {k : Nat} {bad : Bool} (h : Cur w g gb xs k bad) {row : Option Nat} (hb : w.grownBy w' row) (h1 : some g ≠ row) (h2 : some gb ≠ row) : Cur w' g gb xs k bad :=
  ⟨h.1.grown hb h1, h.2.1.grown hb h2, h.2.2⟩
theorem Cur.ne {w : World} {g gb : Nat} {xs : List Int} {k : Nat} {bad : Bool} (h : Cur w g gb xs k bad) : g ≠ gb := h.1.ne h.2.1 (by decide)
theorem Cur.turn {w : World} {g gb : Nat} {xs : List Int} {k : Nat} {bad : Bool} (h : Cur w g gb xs k bad) (k' : Nat) (hk : k' ≤ xs.length) (m : Nat) : Cur ((w.setCell ⟨g, 1, none⟩ (.int .i64 k')).drewN m) g gb xs k' bad :=
  ⟨by have := (h.1.set 1 (.int .i64 k')).drewN m; simpa using this, (h.2.1.far (p := ⟨g, 1, none⟩) h.ne.symm _).drewN m, hk, h.2.2.2⟩
theorem Cur.fail {w : World} {g gb : Nat} {xs : List Int} {k : Nat} {bad : Bool} (h : Cur w g gb xs k bad) (m : Nat) : Cur ((w.setCell ⟨g, 2, none⟩ (.bool true)).drewN m) g gb xs k true :=
  ⟨by have := (h.1.set 2 (.bool true)).drewN m; simpa using this, (h.2.1.far (p := ⟨g, 2, none⟩) h.ne.symm _).drewN m, h.2.2⟩

theorem take_bad (g gb : Nat) (xs : List Int) (k : Nat) (n : Int) (w : World) (h : Cur w g gb xs k true) :
    Calls Tryz.prog 45 #[.pointer (some ⟨g, 0, none⟩), .int .i64 n] w fun e w' => e = .returned (.slice none 0 0) ∧ w = w' := by
  go_enter Tryz.func45, Tryz.ntmps45
  go_wp2_with (go_at_call 20; refine (ok_any g gb xs k true _ h).mono ?_; rintro e w1 ⟨rfl, rfl⟩)
  go_ret
  exact ⟨rfl, rfl⟩

theorem take_no (g gb : Nat) (xs : List Int) (k : Nat) (n : Int) (w : World) (h : Cur w g gb xs k false) (hn : n < 0 ∨ (xs.length : Int) - k < n) :
    Calls Tryz.prog 45 #[.pointer (some ⟨g, 0, none⟩), .int .i64 n] w fun e w' => e = .returned (.slice none 0 0) ∧ Cur w' g gb xs k true ∧ w.grownBy w' (some g) := by
  have c2 := h.1.cell 2
  have f2 := h.1.free 2
  by_cases h0 : n < 0
  · go_enter Tryz.func45, Tryz.ntmps45
    go_wp2_with (go_at_call 20; refine (ok_any g gb xs k false _ h).mono ?_; rintro e w1 ⟨rfl, rfl⟩)
    go_ret
    exact ⟨rfl, h.fail 0, only_set _⟩
  · have h1 : (xs.length : Int) - k < n := by omega
    have hk := h.2.2.1
    have hl := h.2.2.2.2
    go_enter Tryz.func45, Tryz.ntmps45
    go_wp2_with (first
      | (go_at_call 20; refine (ok_any g gb xs k false _ h).mono ?_; rintro e w1 ⟨rfl, rfl⟩)
      | (go_at_call 21; refine (left_any g gb xs k false _ h).mono ?_; rintro e w1 ⟨rfl, m, rfl⟩))
    go_ret
    exact ⟨rfl, h.fail m, grown_drewN (only_set _) m⟩

/-- What a read that is not refused gives: a slice that reads as the next n bytes; the cursor has gone past them. -/
def Taken (w : World) (g gb : Nat) (xs : List Int) (k n : Nat) (e : Ending) (w' : World) : Prop :=
  ∃ A c, e = .returned (.slice A n c) ∧ Rd w' w'.heap.size A n (bys ((xs.drop k).take n)) ∧ Cur w' g gb xs (k + n) false ∧ w.grownBy w' (some g)

theorem take_yes (g gb : Nat) (xs : List Int) (k : Nat) (n : Int) (w : World) (h : Cur w g gb xs k false) (h0 : 0 ≤ n) (hn : n ≤ (xs.length : Int) - k) :
    Calls Tryz.prog 45 #[.pointer (some ⟨g, 0, none⟩), .int .i64 n] w (Taken w g gb xs k n.toNat) := by
  obtain ⟨n, rfl⟩ := Int.eq_ofNat_of_zero_le h0
  rw [Int.toNat_natCast]
  have c0 := h.1.cell 0
  have c1 := h.1.cell 1
  have f1 := h.1.free 1
  have hk := h.2.2.1
  have hl := h.2.2.2.2
  have H := hide h
  clear h
  simp only [List.getElem?_cons_zero, List.getElem?_cons_succ] at c0 c1
  generalize hL : xs.length = l at *
  have HL := hide hL
  clear hL
  have fin : ∀ m q, Cur (((w.drewN m).setCell ⟨g, 1, none⟩ (.int .i64 ((k : Int) + n))).drewN q) g gb xs (k + n) false := fun m q => by
    have := (show Cur (w.drewN m) g gb xs k false from H.out).turn (k + n) (by rw [HL.out]; omega) q
    rwa [Int.natCast_add] at this
  have Fin := hide fin
  clear fin
  by_cases hkl : l = k
  · subst hkl
    obtain rfl : n = 0 := by omega
    go_enter Tryz.func45, Tryz.ntmps45
    go_wp2_with (first
      | (go_at_call 20; refine (ok_any g gb xs l false _ H.out).mono ?_; rintro e w1 ⟨rfl, rfl⟩)
      | (go_at_call 21; refine (left_any g gb xs l false _ H.out).mono ?_; rw [HL.out]; rintro e w1 ⟨rfl, m, rfl⟩))
    go_quiet (fail)
    go_wp2
    go_ret
    have hc := Fin.out m nq
    simp only [Int.natCast_zero, Int.add_zero] at hc
    exact ⟨some ⟨gb, 0, none⟩, 0, rfl, by simpa [bys] using Rd.nil _ _ _, hc, grown_trans (grown_drewN (grown_refl w _) m) (grown_drewN (only_set _) nq)⟩
  · go_enter Tryz.func45, Tryz.ntmps45
    go_wp2_with (first
      | (go_at_call 20; refine (ok_any g gb xs k false _ H.out).mono ?_; rintro e w1 ⟨rfl, rfl⟩)
      | (go_at_call 21; refine (left_any g gb xs k false _ H.out).mono ?_; rw [HL.out]; rintro e w1 ⟨rfl, m, rfl⟩))
    go_quiet (fail)
    go_wp2
    go_ret
    have hc := Fin.out m nq
    have hr := hc.2.1.rd k n (by rw [bys_len, HL.out]; omega)
    refine ⟨some ⟨gb, k, none⟩, l - k, ?_, ?_, hc, grown_trans (grown_drewN (grown_refl w _) m) (grown_drewN (only_set _) nq)⟩
    · show Ending.returned (.slice (some ⟨gb, k, none⟩) (k + n - k) (l - k)) = _
      rw [Nat.add_sub_cancel_left]
    · simpa [bys, List.map_take, List.map_drop] using hr


/-! ### the reads -/
/-- The number that bytes make, the highest first. -/
def be (xs : List Int) : Int := xs.foldl (fun v b => v * 256 + b) 0
theorem be_snoc (xs : List Int) (b : Int) : be (xs ++ [b]) = be xs * 256 + b := by simp [be]
theorem be_bound (xs : List Int) (h : IsBytes xs) (hl : xs.length ≤ 4) : 0 ≤ be xs ∧ be xs < 4294967296 := by
  match xs, hl with
  | [], _ => simp [be]
  | [a], _ => have := h a (by simp); simp [be]; omega
  | [a, b], _ => have := h a (by simp); have := h b (by simp); simp [be]; omega
  | [a, b, c], _ => have := h a (by simp); have := h b (by simp); have := h c (by simp); simp [be]; omega
  | [a, b, c, d], _ => have := h a (by simp); have := h b (by simp); have := h c (by simp); have := h d (by simp); simp [be]; omega

theorem take_step (ys : List Int) (j : Nat) (h : j < ys.length) : be (ys.take (j + 1)) = be (ys.take j) * 256 + ys.getD j 0 := by
  rw [List.take_succ_eq_append_getElem h, be_snoc]
  simp [List.getD, h]

theorem number_none (g gb : Nat) (xs : List Int) (k : Nat) (n : Int) (bad : Bool) (w : World) (h : Cur w g gb xs k bad) (hn : bad = true ∨ n < 0 ∨ (xs.length : Int) - k < n) :
    Calls Tryz.prog 31 #[.pointer (some ⟨g, 0, none⟩), .int .i64 n] w fun e w' => e = .returned (.int .i64 0) ∧ Cur w' g gb xs k true ∧ w.grownBy w' (some g) := by
  have hc : Calls Tryz.prog 45 #[.pointer (some ⟨g, 0, none⟩), .int .i64 n] w fun e w' => e = .returned (.slice none 0 0) ∧ Cur w' g gb xs k true ∧ w.grownBy w' (some g) := by
    rcases bad with _ | _
    · exact take_no g gb xs k n w h (by simpa using hn)
    · exact (take_bad g gb xs k n w h).mono fun e w' ⟨a, b⟩ => ⟨a, b ▸ h, b ▸ grown_refl w _⟩
  have HC := hide hc
  clear hc
  go_enter Tryz.func31, Tryz.ntmps31
  go_wp2_with (go_at_call 45; refine HC.out.mono ?_; rintro e w1 ⟨rfl, hc1, hg1⟩)
  go_loop [5, 12] (fun v i => v = .int .i64 0 ∧ i = .int .i64 0) (fun _ _ => 0)
  case atStart => exact ⟨rfl, rfl⟩
  case round =>
    obtain ⟨rfl, rfl⟩ := hrel
    go_wp2
    go_ret
    exact ⟨rfl, hc1, hg1⟩

end Go.Proofs.YtbdbcalmjbmflaaGreatDoor
namespace Go.Proofs.YtbdbcalmjbmflaaGreatDoor
open Go.RowKit

theorem or_byte (x y : Int) (h0 : 0 ≤ x) (h1 : x < 1099511627776) (h2 : 0 ≤ y) (h3 : y < 256) : bits .or .i64 (x * 256) y = x * 256 + y :=
  bits_join .i64 63 (by decide) (fun n _ _ => IntWalk.i64_in _ (by omega)) 8 _ _ (by omega) (by omega) (by omega) h2 (by omega) (by omega)

theorem rd_cell {w : World} {B : Nat} {A : Option Addr} {n : Nat} {ys : List Int} (h : Rd w B A n (bys ys)) {j : Nat} (hj : j < ys.length) :
    ∃ g o, A = some ⟨g, o, none⟩ ∧ w.cell? ⟨g, o + j, none⟩ = some (.int .u8 (ys.getD j 0)) := by
  have hl := h.1
  rw [bys_len] at hl
  obtain ⟨g, o, rfl, _, hc⟩ := h.2 (by omega)
  exact ⟨g, o, rfl, hc j _ (by simp [bys, List.getD, hj])⟩

theorem number_some (g gb : Nat) (xs : List Int) (k : Nat) (n : Int) (w : World) (h : Cur w g gb xs k false) (h0 : 0 ≤ n) (hn : n ≤ (xs.length : Int) - k) (h4 : n ≤ 4) :
    Calls Tryz.prog 31 #[.pointer (some ⟨g, 0, none⟩), .int .i64 n] w fun e w' => e = .returned (.int .i64 (be ((xs.drop k).take n.toNat))) ∧ Cur w' g gb xs (k + n.toNat) false ∧ w.grownBy w' (some g) := by
  obtain ⟨n, rfl⟩ := Int.eq_ofNat_of_zero_le h0
  have hc0 := take_yes g gb xs k n w h h0 hn
  rw [Int.toNat_natCast] at hc0 ⊢
  have HC := hide hc0
  obtain ⟨ys, hys⟩ : ∃ ys, ys = (xs.drop k).take n := ⟨_, rfl⟩
  have hyl : ys.length = n := by rw [hys]; simp; omega
  have hb : IsBytes ys := by rw [hys]; exact (h.2.2.2.1.drop k).take _
  unfold Taken at HC
  rw [← hys] at HC ⊢
  have Hb := hide hb
  have Hyl := hide hyl
  clear hb hyl hys h hn hc0 h0
  go_enter Tryz.func31, Tryz.ntmps31
  go_wp2_with (go_at_call 45; refine HC.out.mono ?_; rintro e w1 ⟨A, c, rfl, hr1, hc1, hg1⟩)
  have Hr1 := hide hr1
  clear hr1
  go_loop [5, 12] (fun v i => ∃ j : Nat, j ≤ n ∧ i = .int .i64 j ∧ v = .int .i64 (be (ys.take j))) (fun _ i => n - (intOf i).toNat)
  case atStart => exact ⟨0, Nat.zero_le _, rfl, rfl⟩
  case round =>
    obtain ⟨j, hj, rfl, rfl⟩ := hrel
    have hbd := be_bound (ys.take j) (Hb.out.take j) (by simp; omega)
    by_cases hlt : j < n
    · have hjl : j < ys.length := by rw [Hyl.out]; exact hlt
      have hy := Hb.out (ys.getD j 0) (by simp [List.getD, hjl])
      obtain ⟨gA, oA, rfl, hcell⟩ := rd_cell Hr1.out hjl
      have hst := take_step ys j hjl
      have Hst := hide hst
      have Hor := hide (or_byte (be (ys.take j)) (ys.getD j 0) hbd.1 (by omega) hy.1 hy.2)
      clear hst
      generalize ys.getD j 0 = y at *
      generalize be (ys.take j) = v at *
      go_wp2
      go_round
      case rel => exact ⟨j + 1, by omega, by go_num, by rw [Hst.out, Hor.out]⟩
      case measure => simp [intOf]; omega
    · obtain rfl : j = n := by omega
      have Hfull := hide (List.take_of_length_le (Nat.le_of_eq Hyl.out))
      go_wp2
      go_ret
      refine ⟨?_, hc1, hg1⟩
      rw [Hfull.out]
      rfl

/-- Is a read of n bytes not refused? -/
def okd (xs : List Int) (k : Nat) (bad : Bool) (n : Int) : Bool := !bad && decide (0 ≤ n) && decide (n ≤ (xs.length : Int) - k)
/-- The bytes that a read of n gives. -/
def got (xs : List Int) (k : Nat) (bad : Bool) (n : Int) : List Int := if okd xs k bad n then (xs.drop k).take n.toNat else []
/-- Where the cursor stands behind it. -/
def went (xs : List Int) (k : Nat) (bad : Bool) (n : Int) : Nat := if okd xs k bad n then k + n.toNat else k

theorem okd_false {xs : List Int} {k : Nat} {bad : Bool} {n : Int} (h : okd xs k bad n = false) : bad = true ∨ n < 0 ∨ (xs.length : Int) - k < n := by
  cases bad
  · simp [okd] at h; right; rcases Int.lt_or_le n 0 with a | a
    · exact .inl a
    · exact .inr (h a)
  · exact .inl rfl
theorem okd_true {xs : List Int} {k : Nat} {bad : Bool} {n : Int} (h : okd xs k bad n = true) : bad = false ∧ 0 ≤ n ∧ n ≤ (xs.length : Int) - k := by
  cases bad
  · simp [okd] at h; exact ⟨rfl, h.1, h.2⟩
  · simp [okd] at h

theorem number_is (g gb : Nat) (xs : List Int) (k : Nat) (n : Int) (bad : Bool) (w : World) (h : Cur w g gb xs k bad) (h4 : n ≤ 4) :
    Calls Tryz.prog 31 #[.pointer (some ⟨g, 0, none⟩), .int .i64 n] w fun e w' => e = .returned (.int .i64 (be (got xs k bad n))) ∧ Cur w' g gb xs (went xs k bad n) (!okd xs k bad n) ∧ w.grownBy w' (some g) := by
  unfold got went
  cases ho : okd xs k bad n
  · exact number_none g gb xs k n bad w h (okd_false ho)
  · obtain ⟨rfl, h0, hn⟩ := okd_true ho
    exact number_some g gb xs k n w h h0 hn h4

theorem u1_any (g gb : Nat) (xs : List Int) (k : Nat) (bad : Bool) (w : World) (h : Cur w g gb xs k bad) (v : Int) (k' : Nat) (bad' : Bool)
    (hv : be (got xs k bad 1) = v) (hk : went xs k bad 1 = k') (hb : (!okd xs k bad 1) = bad') :
    Calls Tryz.prog 86 #[.pointer (some ⟨g, 0, none⟩)] w fun e w' => e = .returned (.int .i64 v) ∧ Cur w' g gb xs k' bad' ∧ w.grownBy w' (some g) := by
  have HC := hide (number_is g gb xs k 1 bad w h (by omega))
  rw [hv, hk, hb] at HC
  clear hv hk hb
  go_enter Tryz.func86, Tryz.ntmps86
  go_wp2_with (go_at_call 31; refine HC.out.mono ?_; rintro e w1 ⟨rfl, hc1, hg1⟩)
  go_ret
  exact ⟨rfl, hc1, hg1⟩
theorem u2_any (g gb : Nat) (xs : List Int) (k : Nat) (bad : Bool) (w : World) (h : Cur w g gb xs k bad) (v : Int) (k' : Nat) (bad' : Bool)
    (hv : be (got xs k bad 2) = v) (hk : went xs k bad 2 = k') (hb : (!okd xs k bad 2) = bad') :
    Calls Tryz.prog 23 #[.pointer (some ⟨g, 0, none⟩)] w fun e w' => e = .returned (.int .i64 v) ∧ Cur w' g gb xs k' bad' ∧ w.grownBy w' (some g) := by
  have HC := hide (number_is g gb xs k 2 bad w h (by omega))
  rw [hv, hk, hb] at HC
  clear hv hk hb
  go_enter Tryz.func23, Tryz.ntmps23
  go_wp2_with (go_at_call 31; refine HC.out.mono ?_; rintro e w1 ⟨rfl, hc1, hg1⟩)
  go_ret
  exact ⟨rfl, hc1, hg1⟩
theorem u4_any (g gb : Nat) (xs : List Int) (k : Nat) (bad : Bool) (w : World) (h : Cur w g gb xs k bad) (v : Int) (k' : Nat) (bad' : Bool)
    (hv : be (got xs k bad 4) = v) (hk : went xs k bad 4 = k') (hb : (!okd xs k bad 4) = bad') :
    Calls Tryz.prog 22 #[.pointer (some ⟨g, 0, none⟩)] w fun e w' => e = .returned (.int .i64 v) ∧ Cur w' g gb xs k' bad' ∧ w.grownBy w' (some g) := by
  have HC := hide (number_is g gb xs k 4 bad w h (by omega))
  rw [hv, hk, hb] at HC
  clear hv hk hb
  go_enter Tryz.func22, Tryz.ntmps22
  go_wp2_with (go_at_call 31; refine HC.out.mono ?_; rintro e w1 ⟨rfl, hc1, hg1⟩)
  go_ret
  exact ⟨rfl, hc1, hg1⟩

/-- What Bytes gives: a copy, in a new block, of the bytes that were read. -/
def Copied (w : World) (g gb : Nat) (xs : List Int) (k : Nat) (bad : Bool) (n : Int) (e : Ending) (w' : World) : Prop :=
  ∃ q, e = .returned (.slice (some ⟨q, 0, none⟩) (got xs k bad n).length (got xs k bad n).length) ∧ w.heap.size ≤ q ∧ At w' q 5 (bys (got xs k bad n)) ∧
    Cur w' g gb xs (went xs k bad n) (!okd xs k bad n) ∧ w.grownBy w' (some g)

theorem took (g gb : Nat) (xs : List Int) (k : Nat) (n : Int) (bad : Bool) (w : World) (h : Cur w g gb xs k bad) :
    Calls Tryz.prog 45 #[.pointer (some ⟨g, 0, none⟩), .int .i64 n] w fun e w' => ∃ A c, e = .returned (.slice A (got xs k bad n).length c) ∧ Rd w' w'.heap.size A (got xs k bad n).length (bys (got xs k bad n)) ∧
      Cur w' g gb xs (went xs k bad n) (!okd xs k bad n) ∧ w.grownBy w' (some g) := by
  unfold got went
  cases ho : okd xs k bad n
  · rcases bad with _ | _
    · exact (take_no g gb xs k n w h (by simpa using okd_false ho)).mono fun e w' ⟨a, b, d⟩ => ⟨none, 0, a, Rd.nil _ _ _, b, d⟩
    · exact (take_bad g gb xs k n w h).mono fun e w' ⟨a, b⟩ => ⟨none, 0, a, Rd.nil _ _ _, b ▸ h, b ▸ grown_refl w _⟩
  · obtain ⟨rfl, h0, hn⟩ := okd_true ho
    refine (take_yes g gb xs k n w h h0 hn).mono fun e w' ⟨A, c, he, hr, hc, hg⟩ => ⟨A, c, ?_, ?_, hc, hg⟩
    · have : ((xs.drop k).take n.toNat).length = n.toNat := by simp; omega
      simp only [if_true, this]; exact he
    · have : ((xs.drop k).take n.toNat).length = n.toNat := by simp; omega
      simp only [if_true, this]; exact hr

theorem got_len (xs : List Int) (k : Nat) (bad : Bool) (n : Int) : (got xs k bad n).length ≤ xs.length := by
  unfold got; split
  · simp; omega
  · simp
theorem got_bytes {xs : List Int} (h : IsBytes xs) (k : Nat) (bad : Bool) (n : Int) : IsBytes (got xs k bad n) := by
  unfold got; split
  · exact (h.drop k).take _
  · intro x hx; cases hx

theorem bytes_any (g gb : Nat) (xs : List Int) (k : Nat) (n : Int) (bad : Bool) (w : World) (h : Cur w g gb xs k bad) :
    Calls Tryz.prog 67 #[.pointer (some ⟨g, 0, none⟩), .int .i64 n] w (Copied w g gb xs k bad n) := by
  have hl := got_len xs k bad n
  have hx := h.2.2.2.2
  have HC := hide (took g gb xs k n bad w h)
  unfold Copied
  generalize got xs k bad n = zs at *
  generalize went xs k bad n = k' at *
  generalize (!okd xs k bad n) = bad' at *
  go_enter Tryz.func67, Tryz.ntmps67
  go_wp2_with (first
    | (go_at_call 45; refine HC.out.mono ?_; rintro e w1 ⟨A, c, rfl, hr1, hc1, hg1⟩)
    | (go_at_call 24; refine (copied_any A zs.length c zs w1 _ hr1 (Nat.le_refl _) (by omega)).mono ?_; rintro e w2 ⟨rfl, hat2, hb2⟩))
  go_ret
  exact ⟨w1.heap.size, rfl, hg1.size, hat2, hc1.grown (grown_below hb2 none) (by simp) (by simp), grown_trans hg1 (grown_below hb2 _)⟩
end Go.Proofs.YtbdbcalmjbmflaaGreatDoor
namespace Go.Proofs.YtbdbcalmjbmflaaGreatDoor
open Go.RowKit

/-! ### no cursor -/
theorem ok_nil (w : World) : Calls Tryz.prog 20 #[.pointer none] w fun e w' => e = .returned (.bool false) ∧ w = w' := by
  go_enter Tryz.func20, Tryz.ntmps20
  go_wp2
  go_ret
  exact ⟨rfl, rfl⟩
theorem left_nil (w : World) : Calls Tryz.prog 21 #[.pointer none] w fun e w' => e = .returned (.int .i64 0) ∧ w = w' := by
  go_enter Tryz.func21, Tryz.ntmps21
  go_wp2
  go_ret
  exact ⟨rfl, rfl⟩
theorem take_nil (n : Int) (w : World) : Calls Tryz.prog 45 #[.pointer none, .int .i64 n] w fun e w' => e = .returned (.slice none 0 0) ∧ w = w' := by
  go_enter Tryz.func45, Tryz.ntmps45
  go_wp2_with (go_at_call 20; refine (ok_nil _).mono ?_; rintro e w1 ⟨rfl, rfl⟩)
  go_ret
  exact ⟨rfl, rfl⟩
theorem number_nil (n : Int) (w : World) : Calls Tryz.prog 31 #[.pointer none, .int .i64 n] w fun e w' => e = .returned (.int .i64 0) ∧ w = w' := by
  go_enter Tryz.func31, Tryz.ntmps31
  go_wp2_with (go_at_call 45; refine (take_nil _ _).mono ?_; rintro e w1 ⟨rfl, rfl⟩)
  go_loop [5, 12] (fun v i => v = .int .i64 0 ∧ i = .int .i64 0) (fun _ _ => 0)
  case atStart => exact ⟨rfl, rfl⟩
  case round =>
    obtain ⟨rfl, rfl⟩ := hrel
    go_wp2
    go_ret
    exact ⟨rfl, rfl⟩
theorem u1_nil (w : World) : Calls Tryz.prog 86 #[.pointer none] w fun e w' => e = .returned (.int .i64 0) ∧ w = w' := by
  go_enter Tryz.func86, Tryz.ntmps86
  go_wp2_with (go_at_call 31; refine (number_nil _ _).mono ?_; rintro e w1 ⟨rfl, rfl⟩)
  go_ret
  exact ⟨rfl, rfl⟩
theorem u2_nil (w : World) : Calls Tryz.prog 23 #[.pointer none] w fun e w' => e = .returned (.int .i64 0) ∧ w = w' := by
  go_enter Tryz.func23, Tryz.ntmps23
  go_wp2_with (go_at_call 31; refine (number_nil _ _).mono ?_; rintro e w1 ⟨rfl, rfl⟩)
  go_ret
  exact ⟨rfl, rfl⟩
theorem u4_nil (w : World) : Calls Tryz.prog 22 #[.pointer none] w fun e w' => e = .returned (.int .i64 0) ∧ w = w' := by
  go_enter Tryz.func22, Tryz.ntmps22
  go_wp2_with (go_at_call 31; refine (number_nil _ _).mono ?_; rintro e w1 ⟨rfl, rfl⟩)
  go_ret
  exact ⟨rfl, rfl⟩
theorem bytes_nil (n : Int) (w : World) : Calls Tryz.prog 67 #[.pointer none, .int .i64 n] w fun e w' => e = .returned (.slice (some ⟨w.heap.size, 0, none⟩) 0 0) ∧ Below w.heap.size w w' := by
  go_enter Tryz.func67, Tryz.ntmps67
  go_wp2_with (first
    | (go_at_call 45; refine (take_nil _ _).mono ?_; rintro e w1 ⟨rfl, rfl⟩)
    | (go_at_call 24; refine (copied_any none 0 0 [] w 0 (Rd.nil _ _ _) (Nat.zero_le _) (by omega)).mono ?_; rintro e w2 ⟨rfl, hat2, hb2⟩))
  go_ret
  exact ⟨rfl, hb2⟩

end Go.Proofs.YtbdbcalmjbmflaaGreatDoor
namespace Go.Proofs.YtbdbcalmjbmflaaGreatDoor
open Go.RowKit

def trl (b : Int) : Bool := decide (128 ≤ b) && decide (b < 192)
/-- The char that a list of bytes begins with, and of how many bytes it is; none of them: 0. -/
def one (l : List Int) : Int × Nat :=
  if 1 ≤ l.getD 0 0 ∧ l.getD 0 0 ≤ 127 then (l.getD 0 0, 1)
  else if 192 ≤ l.getD 0 0 ∧ l.getD 0 0 < 224 ∧ 2 ≤ l.length ∧ trl (l.getD 1 0) = true then ((l.getD 0 0 - 192) * 64 + (l.getD 1 0 - 128), 2)
  else if 224 ≤ l.getD 0 0 ∧ l.getD 0 0 < 240 ∧ 3 ≤ l.length ∧ trl (l.getD 1 0) = true ∧ trl (l.getD 2 0) = true then ((l.getD 0 0 - 224) * 4096 + (l.getD 1 0 - 128) * 64 + (l.getD 2 0 - 128), 3)
  else (0, 0)
theorem trl_iff (b : Int) : trl b = true ↔ 128 ≤ b ∧ b < 192 := by simp [trl]
theorem one_le (l : List Int) : (one l).2 ≤ l.length := by
  unfold one
  split
  · cases l with
    | nil => simp at *
    | cons a t => simp
  · split
    · simp; omega
    · split
      · simp; omega
      · simp
theorem one_range (l : List Int) : 0 ≤ (one l).1 ∧ (one l).1 < 65536 := by
  unfold one
  split
  · dsimp only; omega
  · split
    · rename_i h; have := (trl_iff _).1 h.2.2.2; dsimp only; omega
    · split
      · rename_i h; have := (trl_iff _).1 h.2.2.2.1; have := (trl_iff _).1 h.2.2.2.2; dsimp only; omega
      · dsimp only; omega

def decF : Nat → List Int → Option (List Int)
  | 0, l => if l = [] then some [] else none
  | f + 1, l => if l = [] then some [] else if (one l).2 = 0 then none else (decF f (l.drop (one l).2)).map ((one l).1 :: ·)
theorem decF_more (f : Nat) : ∀ (g : Nat) (l : List Int), l.length ≤ f → l.length ≤ g → decF f l = decF g l := by
  induction f with
  | zero =>
    intro g l h _
    have : l = [] := List.eq_nil_of_length_eq_zero (by omega)
    subst this
    cases g <;> simp [decF]
  | succ f ih =>
    intro g l h hg
    by_cases hl : l = []
    · subst hl; cases g <;> simp [decF]
    · cases g with
      | zero => exact absurd (List.eq_nil_of_length_eq_zero (by omega)) hl
      | succ g =>
        simp only [decF, hl, if_false]
        split
        · rfl
        · rw [ih g _ (by simp; omega) (by simp; omega)]
/-- The chars of a text; none: it is no such text. -/
def dec (l : List Int) : Option (List Int) := decF l.length l
theorem dec_nil : dec [] = some [] := rfl
theorem dec_none {l : List Int} (hl : l ≠ []) (h : (one l).2 = 0) : dec l = none := by
  unfold dec
  cases hn : l.length with
  | zero => exact absurd (List.eq_nil_of_length_eq_zero hn) hl
  | succ n => simp [decF, hl, h]
theorem dec_some {l : List Int} (h : (one l).2 ≠ 0) : dec l = (dec (l.drop (one l).2)).map ((one l).1 :: ·) := by
  have hl : l ≠ [] := by
    intro e
    subst e
    exact h rfl
  unfold dec
  cases hn : l.length with
  | zero => exact absurd (List.eq_nil_of_length_eq_zero hn) hl
  | succ n =>
    simp only [decF, hl, h, if_false]
    rw [decF_more n (l.drop (one l).2).length _ (by simp; omega) (Nat.le_refl _)]
theorem dec_len (n : Nat) : ∀ (l u : List Int), l.length ≤ n → dec l = some u → u.length ≤ l.length := by
  induction n with
  | zero =>
    intro l u h hd
    have : l = [] := List.eq_nil_of_length_eq_zero (by omega)
    subst this
    cases hd
    simp
  | succ n ih =>
    intro l u h hd
    by_cases h0 : (one l).2 = 0
    · by_cases hl : l = []
      · subst hl; cases hd; simp
      · rw [dec_none hl h0] at hd; cases hd
    · rw [dec_some h0] at hd
      have h1 := one_le l
      cases hu : dec (l.drop (one l).2) with
      | none => rw [hu] at hd; cases hd
      | some u' =>
        rw [hu] at hd
        cases hd
        have := ih (l.drop (one l).2) u' (by simp; omega) hu
        simp at this ⊢
        omega

/-- A text behind another one. -/
theorem one_join {l : List Int} (m : List Int) (h : (one l).2 ≠ 0) : one (l ++ m) = one l := by
  have g : ∀ i, i < l.length → (l ++ m).getD i 0 = l.getD i 0 := fun i hi => by simp [List.getD, List.getElem?_append_left hi]
  have h1 := one_le l
  have e : ∀ k, (one l).2 = k → one (l ++ m) = one l := by
    intro k hk
    unfold one at hk
    split at hk
    · rename_i h0
      have hl : 0 < l.length := by
        cases l with
        | nil => simp at h0
        | cons a t => simp
      unfold one
      rw [g 0 hl, if_pos h0, if_pos h0]
    · rename_i h0
      split at hk
      · rename_i h2
        unfold one
        rw [g 0 (by omega), g 1 (by omega), if_neg h0, if_neg h0, if_pos h2, if_pos ⟨h2.1, h2.2.1, by rw [List.length_append]; omega, h2.2.2.2⟩]
      · rename_i h2
        split at hk
        · rename_i h3
          unfold one
          rw [g 0 (by omega), g 1 (by omega), g 2 (by omega), if_neg h0, if_neg h0, if_neg (fun x => by omega), if_neg h2, if_pos h3, if_pos ⟨h3.1, h3.2.1, by rw [List.length_append]; omega, h3.2.2.2⟩]
        · rename_i h3
          exact absurd (by unfold one; rw [if_neg h0, if_neg h2, if_neg h3]) h
  exact e _ rfl
theorem dec_join (n : Nat) : ∀ (l m u v : List Int), l.length ≤ n → dec l = some u → dec m = some v → dec (l ++ m) = some (u ++ v) := by
  induction n with
  | zero =>
    intro l m u v h hu hv
    have : l = [] := List.eq_nil_of_length_eq_zero (by omega)
    subst this
    cases hu
    simpa using hv
  | succ n ih =>
    intro l m u v h hu hv
    by_cases h0 : (one l).2 = 0
    · by_cases hl : l = []
      · subst hl; cases hu; simpa using hv
      · rw [dec_none hl h0] at hu; cases hu
    · rw [dec_some h0] at hu
      have h1 := one_le l
      cases hu' : dec (l.drop (one l).2) with
      | none => rw [hu'] at hu; cases hu
      | some u' =>
        rw [hu'] at hu
        cases hu
        rw [dec_some (by rw [one_join m h0]; exact h0), one_join m h0, List.drop_append_of_le_length h1, ih _ m u' v (by simp; omega) hu' hv]
        rfl

/-- A char in the shortest form, but that of 0. -/
def put (c : Int) : List Int :=
  if c < 128 then [c] else if c < 2048 then [192 + c / 64, 128 + c % 64] else [224 + c / 4096, 128 + c / 64 % 64, 128 + c % 64]
def enc1 (c : Int) : List Int := if c = 0 then [192, 128] else put c
def enc (u : List Int) : List Int := u.flatMap enc1
/-- Each is a char. -/
def IsChars (u : List Int) : Prop := ∀ c ∈ u, 0 ≤ c ∧ c < 65536
theorem put_bytes {c : Int} (h : 0 ≤ c ∧ c < 65536) : IsBytes (put c) := by
  unfold put
  intro x hx
  split at hx
  · simp at hx; omega
  · split at hx
    · simp at hx; omega
    · simp at hx; omega
theorem enc1_bytes {c : Int} (h : 0 ≤ c ∧ c < 65536) : IsBytes (enc1 c) := by
  unfold enc1
  split
  · intro x hx; simp at hx; omega
  · exact put_bytes h
theorem enc_bytes {u : List Int} (h : IsChars u) : IsBytes (enc u) := by
  intro x hx
  simp only [enc, List.mem_flatMap] at hx
  obtain ⟨c, hc, hx⟩ := hx
  exact enc1_bytes (h c hc) x hx
theorem put_len (c : Int) : 1 ≤ (put c).length ∧ (put c).length ≤ 3 := by unfold put; split; simp; split <;> simp
theorem enc1_len (c : Int) : 1 ≤ (enc1 c).length ∧ (enc1 c).length ≤ 3 := by unfold enc1; split; simp; exact put_len c
theorem enc_len (u : List Int) : (enc u).length ≤ 3 * u.length := by
  induction u with
  | nil => simp [enc]
  | cons c u ih =>
    have := enc1_len c
    simp only [enc, List.flatMap_cons, List.length_append, List.length_cons] at ih ⊢
    omega
theorem enc_snoc (u : List Int) (c : Int) : enc (u ++ [c]) = enc u ++ enc1 c := by simp [enc]
theorem one_enc1 {c : Int} (h : 0 ≤ c ∧ c < 65536) (m : List Int) : one (enc1 c ++ m) = (c, (enc1 c).length) := by
  unfold enc1
  by_cases h0 : c = 0
  · subst h0; simp [one, trl]
  · rw [if_neg h0]
    unfold put
    by_cases h1 : c < 128
    · rw [if_pos h1]
      unfold one
      simp only [List.cons_append, List.getD_cons_zero, List.nil_append]
      rw [if_pos (by omega)]
      simp
    · rw [if_neg h1]
      by_cases h2 : c < 2048
      · rw [if_pos h2]
        unfold one
        simp only [List.cons_append, List.getD_cons_zero, List.getD_cons_succ, List.nil_append, trl_iff, List.length_cons]
        rw [if_neg (by omega), if_pos (by omega)]
        simp
        omega
      · rw [if_neg h2]
        unfold one
        simp only [List.cons_append, List.getD_cons_zero, List.getD_cons_succ, List.nil_append, trl_iff, List.length_cons]
        rw [if_neg (by omega), if_neg (by omega), if_pos (by omega)]
        simp
        omega
theorem dec_enc (u : List Int) (h : IsChars u) : dec (enc u) = some u := by
  induction u with
  | nil => rfl
  | cons c u ih =>
    have h1 := one_enc1 (h c (by simp)) (enc u)
    have h2 := enc1_len c
    have e : enc (c :: u) = enc1 c ++ enc u := by simp [enc]
    rw [e, dec_some (by rw [h1]; dsimp only; omega), h1]
    simp only [List.drop_left]
    rw [ih (fun x hx => h x (by simp [hx]))]
    rfl

/-! ### UTF-8 -/
def isHi (c : Int) : Bool := decide (55296 ≤ c) && decide (c ≤ 56319)
def isLo (c : Int) : Bool := decide (56320 ≤ c) && decide (c ≤ 57343)
def pairOf (h l : Int) : Int := 65536 + (h - 55296) * 1024 + (l - 56320)
def four (v : Int) : List Int := [240 + v / 262144, 128 + v / 4096 % 64, 128 + v / 64 % 64, 128 + v % 64]
def alone (c : Int) : List Int := if isHi c || isLo c then [63] else put c
/-- Chars in UTF-8. -/
def outs : List Int → List Int
  | [] => []
  | [c] => alone c
  | h :: l :: t => if isHi h && isLo l then four (pairOf h l) ++ outs t else alone h ++ outs (l :: t)
end Go.Proofs.YtbdbcalmjbmflaaGreatDoor
namespace Go.Proofs.YtbdbcalmjbmflaaGreatDoor
open Go.RowKit

theorem and192 : ∀ n : Fin 256, (bits BinOp.and IntKind.u8 (n.val : Int) 192 == 128) = trl (n.val : Int) := by decide +kernel
theorem and224 : ∀ n : Fin 256, (bits BinOp.and IntKind.u8 (n.val : Int) 224 == 192) = (decide (192 ≤ (n.val : Int)) && decide ((n.val : Int) < 224)) := by decide +kernel
theorem and240 : ∀ n : Fin 256, (bits BinOp.and IntKind.u8 (n.val : Int) 240 == 224) = (decide (224 ≤ (n.val : Int)) && decide ((n.val : Int) < 240)) := by decide +kernel
theorem byte_fin {b : Int} (h : 0 ≤ b ∧ b < 256) : ∃ n : Fin 256, b = (n.val : Int) := ⟨⟨b.toNat, by omega⟩, by simp; omega⟩

theorem istrail_any (b : Int) (h : 0 ≤ b ∧ b < 256) (w : World) : Calls Tryz.prog 120 #[.int .u8 b] w fun e w' => e = .returned (.bool (trl b)) ∧ w = w' := by
  obtain ⟨n, rfl⟩ := byte_fin h
  have H := hide (and192 n)
  go_enter Tryz.func120, Tryz.ntmps120
  go_wp2
  go_ret
  exact ⟨ret_bool H.out, rfl⟩
theorem mbits_any (b : Int) (h : 0 ≤ b ∧ b < 256) (w : World) : Calls Tryz.prog 121 #[.int .u8 b] w fun e w' => e = .returned (.int .u16 (b % 64)) ∧ w = w' := by
  go_enter Tryz.func121, Tryz.ntmps121
  go_wp2
  go_ret
  exact ⟨rfl, rfl⟩

theorem or6 (x y : Int) (h0 : 0 ≤ x) (h1 : x < 1024) (h2 : 0 ≤ y) (h3 : y < 64) : bits .or .u16 (x * 64) y = x * (64 : Int) + y :=
  bits_join .u16 16 (by decide) wraps_u16 6 _ _ (by omega) (by omega) (by omega) h2 (by omega) (by omega)
theorem or12 (x y : Int) (h0 : 0 ≤ x) (h1 : x < 16) (h2 : 0 ≤ y) (h3 : y < 4096) : bits .or .u16 (x * 4096) y = x * (4096 : Int) + y :=
  bits_join .u16 16 (by decide) wraps_u16 12 _ _ (by omega) (by omega) (by omega) h2 (by omega) (by omega)

theorem or18 (x y z : Int) (h0 : 0 ≤ x) (h1 : x < 16) (h2 : 0 ≤ y) (h3 : y < 64) (h4 : 0 ≤ z) (h5 : z < 64) : bits .or .u16 (x * 4096 + y * 64) z = x * 4096 + y * 64 + z :=
  bits_join .u16 16 (by decide) wraps_u16 6 _ _ (by omega) (by omega) (by omega) h4 (by omega) (by omega)

/-- What first gives. -/
def Firsts (s : ByteArray) (w : World) (e : Ending) (w' : World) : Prop :=
  e = .returned (.tuple #[.int .u16 (one (nums s)).1, .int .i64 ((one (nums s)).2 : Nat)]) ∧ ∃ m, w' = w.drewN m
theorem Firsts.mk {s : ByteArray} {w w' : World} {e : Ending} {c k : Int} {n : Nat} (h : one (nums s) = (c, n)) (hk : k = (n : Int)) (he : e = .returned (.tuple #[.int .u16 c, .int .i64 k])) (hw : ∃ m, w' = w.drewN m) : Firsts s w e w' := by
  unfold Firsts
  rw [h, he, hk]
  exact ⟨rfl, hw⟩

set_option maxRecDepth 100000 in
theorem first_one (s : ByteArray) (w : World) (hz : 1 ≤ s.size) (hm : s.size ≤ 1000000) (h0 : (1 : Int) ≤ ((s[0].toNat : Nat) : Int)) (h1 : ((s[0].toNat : Nat) : Int) ≤ (127 : Int)) :
    Calls Tryz.prog 96 #[.string s] w (Firsts s w) := by
  have Hone := hide (show one (nums s) = (((s[0].toNat : Nat) : Int), 1) by unfold one; rw [num_at s 0 (by omega), if_pos ⟨h0, h1⟩])
  go_enter Tryz.func96, Tryz.ntmps96
  go_wp2_with fail
  go_ret2
  exact Firsts.mk Hone.out rfl rfl ⟨0, rfl⟩

set_option maxRecDepth 100000 in
theorem first_two (s : ByteArray) (w : World) (hz : 2 ≤ s.size) (hm : s.size ≤ 1000000) (h0 : (192 : Int) ≤ ((s[0].toNat : Nat) : Int)) (h1 : ((s[0].toNat : Nat) : Int) < (224 : Int)) (h2 : trl (s[1].toNat : Nat) = true) :
    Calls Tryz.prog 96 #[.string s] w (Firsts s w) := by
  have Hone := hide (show one (nums s) = ((((s[0].toNat : Nat) : Int) - (192 : Int)) * (64 : Int) + (((s[1].toNat : Nat) : Int) - (128 : Int)), 2) by
    unfold one; rw [num_at s 0 (by omega), num_at s 1 (by omega), if_neg (by omega), if_pos ⟨h0, h1, by rw [nums_len]; omega, h2⟩])
  have e1 : (bits BinOp.and IntKind.u8 ((s[0].toNat : Nat) : Int) 224 == 192) = true := by
    obtain ⟨n, hn⟩ := byte_fin (byte_range s[0]); rw [hn, and224]; rw [hn] at h0 h1; simp; omega
  have ht := (trl_iff _).1 h2
  have Hor := hide (or6 (((s[0].toNat : Nat) : Int) % 32) (((s[1].toNat : Nat) : Int) % 64) (by omega) (by omega) (by omega) (by omega))
  go_enter Tryz.func96, Tryz.ntmps96
  go_wp2_with (first
    | (go_at_call 120; refine (istrail_any _ (byte_range _) _).mono ?_; rintro e w1 ⟨rfl, rfl⟩)
    | (go_at_call 121; refine (mbits_any _ (byte_range _) _).mono ?_; rintro e w1 ⟨rfl, rfl⟩))
  go_ret2
  exact Firsts.mk Hone.out rfl (ret_tup2 (Hor.out.trans (by omega)) rfl) ⟨0, rfl⟩

set_option maxRecDepth 100000 in
theorem first_three (s : ByteArray) (w : World) (hz : 3 ≤ s.size) (hm : s.size ≤ 1000000) (h0 : (224 : Int) ≤ ((s[0].toNat : Nat) : Int)) (h1 : ((s[0].toNat : Nat) : Int) < (240 : Int)) (h2 : trl (s[1].toNat : Nat) = true) (h3 : trl (s[2].toNat : Nat) = true) :
    Calls Tryz.prog 96 #[.string s] w (Firsts s w) := by
  have Hone := hide (show one (nums s) = ((((s[0].toNat : Nat) : Int) - (224 : Int)) * (4096 : Int) + (((s[1].toNat : Nat) : Int) - (128 : Int)) * (64 : Int) + (((s[2].toNat : Nat) : Int) - (128 : Int)), 3) by
    unfold one; rw [num_at s 0 (by omega), num_at s 1 (by omega), num_at s 2 (by omega), if_neg (by omega), if_neg (by omega), if_pos ⟨h0, h1, by rw [nums_len]; omega, h2, h3⟩])
  have e1 : (bits BinOp.and IntKind.u8 ((s[0].toNat : Nat) : Int) 224 == 192) = false := by
    obtain ⟨n, hn⟩ := byte_fin (byte_range s[0]); rw [hn, and224]; rw [hn] at h0 h1; simp; omega
  have e2 : (bits BinOp.and IntKind.u8 ((s[0].toNat : Nat) : Int) 240 == 224) = true := by
    obtain ⟨n, hn⟩ := byte_fin (byte_range s[0]); rw [hn, and240]; rw [hn] at h0 h1; simp; omega
  have ht := (trl_iff _).1 h2
  have ht3 := (trl_iff _).1 h3
  have Hor1 := hide (or12 (((s[0].toNat : Nat) : Int) % 16) (((s[1].toNat : Nat) : Int) % 64 * 64) (by omega) (by omega) (by omega) (by omega))
  have Hor2 := hide (or18 (((s[0].toNat : Nat) : Int) % 16) (((s[1].toNat : Nat) : Int) % 64) (((s[2].toNat : Nat) : Int) % 64) (by omega) (by omega) (by omega) (by omega) (by omega) (by omega))
  go_enter Tryz.func96, Tryz.ntmps96
  go_wp2_with (first
    | (go_at_call 120; refine (istrail_any _ (byte_range _) _).mono ?_; rintro e w1 ⟨rfl, rfl⟩)
    | (go_at_call 121; refine (mbits_any _ (byte_range _) _).mono ?_; rintro e w1 ⟨rfl, rfl⟩))
  go_quiet ((go_at_call 121; exact quiet_same (mbits_any _ (byte_range _) _)))
  go_wp2
  go_ret2
  rw [Hor1.out, Hor2.out]
  exact Firsts.mk Hone.out rfl (ret_tup2 (by omega) rfl) ⟨_, rfl⟩

set_option maxRecDepth 100000 in
theorem first_none (s : ByteArray) (w : World) (hz : 1 ≤ s.size) (hm : s.size ≤ 1000000) (h : (one (nums s)).2 = 0) :
    Calls Tryz.prog 96 #[.string s] w (Firsts s w) := by
  have hone : one (nums s) = (0, 0) := by
    unfold one at h ⊢
    split at h
    · cases h
    · split at h
      · cases h
      · split at h
        · cases h
        · rename_i a b c
          rw [if_neg a, if_neg b, if_neg c]
  have n1 : ¬ ((1 : Int) ≤ ((s[0].toNat : Nat) : Int) ∧ ((s[0].toNat : Nat) : Int) ≤ (127 : Int)) := fun c => by
    unfold one at h; rw [num_at s 0 (by omega), if_pos c] at h; cases h
  have n2 : ∀ h1 : 1 < s.size, (192 : Int) ≤ ((s[0].toNat : Nat) : Int) → ((s[0].toNat : Nat) : Int) < (224 : Int) → trl (s[1].toNat : Nat) = false := fun h1 a b => by
    cases e : trl (s[1].toNat : Nat)
    · rfl
    · unfold one at h
      rw [num_at s 0 (by omega), num_at s 1 h1, if_neg n1, if_pos ⟨a, b, by rw [nums_len]; omega, e⟩] at h; cases h
  have n3 : ∀ h2 : 2 < s.size, (224 : Int) ≤ ((s[0].toNat : Nat) : Int) → ((s[0].toNat : Nat) : Int) < (240 : Int) → trl (s[1].toNat : Nat) = true → trl (s[2].toNat : Nat) = false := fun h2 a b d => by
    cases e : trl (s[2].toNat : Nat)
    · rfl
    · unfold one at h
      rw [num_at s 0 (by omega), num_at s 1 (by omega), num_at s 2 h2, if_neg n1, if_neg (fun x => by omega), if_pos ⟨a, b, by rw [nums_len]; omega, d, e⟩] at h; cases h
  have b0 := byte_range s[0]
  have e1 : (bits BinOp.and IntKind.u8 ((s[0].toNat : Nat) : Int) 224 == 192) = (decide ((192 : Int) ≤ ((s[0].toNat : Nat) : Int)) && decide (((s[0].toNat : Nat) : Int) < (224 : Int))) := by
    obtain ⟨n, hn⟩ := byte_fin b0; rw [hn, and224]
  have e2 : (bits BinOp.and IntKind.u8 ((s[0].toNat : Nat) : Int) 240 == 224) = (decide ((224 : Int) ≤ ((s[0].toNat : Nat) : Int)) && decide (((s[0].toNat : Nat) : Int) < (240 : Int))) := by
    obtain ⟨n, hn⟩ := byte_fin b0; rw [hn, and240]
  have Hone := hide hone
  have N2 := hide n2
  have N3 := hide n3
  clear h hone n2 n3
  by_cases c1 : (192 : Int) ≤ ((s[0].toNat : Nat) : Int) ∧ ((s[0].toNat : Nat) : Int) < (224 : Int)
  · have f1 : (bits BinOp.and IntKind.u8 ((s[0].toNat : Nat) : Int) 224 == 192) = true := by rw [e1]; simp [c1]
    have f2 : (bits BinOp.and IntKind.u8 ((s[0].toNat : Nat) : Int) 240 == 224) = false := by rw [e2]; simp; omega
    have g1 : (127 : Int) < ((s[0].toNat : Nat) : Int) := by omega
    by_cases hz2 : 2 ≤ s.size
    · have t1 := N2.out (by omega) c1.1 c1.2
      clear n1 c1 e1 e2
      go_enter Tryz.func96, Tryz.ntmps96
      go_wp2_with (go_at_call 120; refine (istrail_any _ (byte_range _) _).mono ?_; rintro e w1 ⟨rfl, rfl⟩)
      go_ret2
      exact Firsts.mk Hone.out rfl rfl ⟨0, rfl⟩
    · clear n1 c1 e1 e2
      go_enter Tryz.func96, Tryz.ntmps96
      go_wp2_with fail
      go_ret2
      exact Firsts.mk Hone.out rfl rfl ⟨0, rfl⟩
  · have f1 : (bits BinOp.and IntKind.u8 ((s[0].toNat : Nat) : Int) 224 == 192) = false := by rw [e1]; simp; omega
    by_cases c2 : (224 : Int) ≤ ((s[0].toNat : Nat) : Int) ∧ ((s[0].toNat : Nat) : Int) < (240 : Int)
    · have f2 : (bits BinOp.and IntKind.u8 ((s[0].toNat : Nat) : Int) 240 == 224) = true := by rw [e2]; simp [c2]
      have g1 : (127 : Int) < ((s[0].toNat : Nat) : Int) := by omega
      by_cases hz2 : 3 ≤ s.size
      · cases t1 : trl (s[1].toNat : Nat)
        · clear n1 c1 c2 e1 e2
          go_enter Tryz.func96, Tryz.ntmps96
          go_wp2_with (go_at_call 120; refine (istrail_any _ (byte_range _) _).mono ?_; rintro e w1 ⟨rfl, rfl⟩)
          go_ret2
          exact Firsts.mk Hone.out rfl rfl ⟨0, rfl⟩
        · have t2 := N3.out (by omega) c2.1 c2.2 t1
          clear n1 c1 c2 e1 e2
          go_enter Tryz.func96, Tryz.ntmps96
          go_wp2_with (go_at_call 120; refine (istrail_any _ (byte_range _) _).mono ?_; rintro e w1 ⟨rfl, rfl⟩)
          go_ret2
          exact Firsts.mk Hone.out rfl rfl ⟨0, rfl⟩
      · clear n1 c1 c2 e1 e2
        go_enter Tryz.func96, Tryz.ntmps96
        go_wp2_with fail
        go_ret2
        exact Firsts.mk Hone.out rfl rfl ⟨0, rfl⟩
    · have f2 : (bits BinOp.and IntKind.u8 ((s[0].toNat : Nat) : Int) 240 == 224) = false := by rw [e2]; simp; omega
      rcases Int.lt_or_le ((s[0].toNat : Nat) : Int) (1 : Int) with g1 | g1
      · clear n1 c1 c2 e1 e2
        go_enter Tryz.func96, Tryz.ntmps96
        go_wp2_with fail
        go_ret2
        exact Firsts.mk Hone.out rfl rfl ⟨0, rfl⟩
      · have g2 : (127 : Int) < ((s[0].toNat : Nat) : Int) := by omega
        clear n1 c1 c2 e1 e2
        go_enter Tryz.func96, Tryz.ntmps96
        go_wp2_with fail
        go_ret2
        exact Firsts.mk Hone.out rfl rfl ⟨0, rfl⟩

theorem first_any (s : ByteArray) (w : World) (hz : 1 ≤ s.size) (hm : s.size ≤ 1000000) : Calls Tryz.prog 96 #[.string s] w (Firsts s w) := by
  by_cases h : (one (nums s)).2 = 0
  · exact first_none s w hz hm h
  · have h2 := h
    unfold one at h2
    split at h2
    · rename_i c
      rw [num_at s 0 (by omega)] at c
      exact first_one s w hz hm c.1 c.2
    · split at h2
      · rename_i c
        have hl := c.2.2.1
        rw [nums_len] at hl
        rw [num_at s 0 (by omega), num_at s 1 (by omega)] at c
        exact first_two s w hl hm c.1 c.2.1 c.2.2.2
      · split at h2
        · rename_i c
          have hl := c.2.2.1
          rw [nums_len] at hl
          rw [num_at s 0 (by omega), num_at s 1 (by omega), num_at s 2 (by omega)] at c
          exact first_three s w hl hm c.1 c.2.1 c.2.2.2.1 c.2.2.2.2
        · exact absurd rfl h2
end Go.Proofs.YtbdbcalmjbmflaaGreatDoor
namespace Go.Proofs.YtbdbcalmjbmflaaGreatDoor
open Go.RowKit

theorem u16info : (Tryz.prog.info? 146).map (fun i => (i.zero, i.size, i.bytes)) = some (some (.int .u16 0), 1, 2) := by kernel_rfl
/-- The size of a string, of any value. -/
def strLen : Value → Nat
  | .string s => s.size
  | _ => 0
theorem below_own {B : Nat} {w w' : World} {e : TypeId} {n : Nat} {xs : List Value} {v : Value} {w0 : World} (hb : Below B w0 w) (h : w.ownsRow B e 1 v n xs) (hg : w.grownBy w' v.ownBlock) (hB : B ≤ w.heap.size) : Below B w0 w' :=
  hb.grown hg hB (fun k hk => (h.lt k hk).1)

/-- What Decode gives. -/
def Decoded (d : Option (List Int)) (w : World) (e : Ending) (w' : World) : Prop :=
  Below w.heap.size w w' ∧ ((d = none ∧ e = .returned (.tuple #[.slice none 0 0, .bool false])) ∨
    ∃ u v, d = some u ∧ e = .returned (.tuple #[v, .bool true]) ∧ w'.ownsRow w.heap.size 146 1 v u.length (cells .u16 u))

set_option maxRecDepth 100000 in
theorem decode_any (s : ByteArray) (w : World) (hm : s.size ≤ 1000000) : Calls Tryz.prog 77 #[.string s] w (Decoded (dec (nums s)) w) := by
  obtain ⟨i0, hi0, hz0, hz1, hz2⟩ := info_parts u16info
  obtain ⟨D, hD⟩ : ∃ D, dec (nums s) = D := ⟨_, rfl⟩
  rw [hD]
  have HD := hide hD
  clear hD
  go_enter Tryz.func77, Tryz.ntmps77
  go_wp2_with (at_make; refine wpList_make_own _ rfl _ _ 126 rfl w.heap.size 146 i0 _ 1 Tryz.underlying126 hi0 hz0 hz1 .i64 .i64 _ s.size rfl rfl rfl (by rw [hz2]; omega) (by unfold maxLen; omega) (Nat.le_refl _) ?_; intro w1 hown1 hg1)
  have hb1 : Below w.heap.size w w1 := below_grown hg1
  have Hown1 := hide hown1
  clear hg1 hown1
  go_loopw [0, 4] (fun sv uv wr => ∃ (s' : ByteArray) (us : List Int), sv = .string s' ∧ us.length + s'.size ≤ s.size ∧ D = (dec (nums s')).map (us ++ ·) ∧ wr.ownsRow w.heap.size 146 1 uv us.length (cells .u16 us) ∧ Below w.heap.size w wr) (fun sv _ _ => strLen sv)
  case atStart => exact ⟨s, [], rfl, by simp, by rw [← HD.out]; simp, Hown1.out, hb1⟩
  case round =>
    obtain ⟨s', us, rfl, hl, hd, hown, hb⟩ := hrel
    have Hd := hide hd
    have Hown := hide hown
    have Hb := hide hb
    clear hd hown hb HD Hown1 hb1
    by_cases hz : s'.size = 0
    · have Hz := hide hz
      have hz' : ¬ (0 < s'.size) := by omega
      clear hz
      go_wp2_with fail
      go_ret2
      have hn : nums s' = [] := List.eq_nil_of_length_eq_zero (by rw [nums_len]; exact Hz.out)
      refine ⟨Hb.out, .inr ⟨us, u4, ?_, rfl, Hown.out⟩⟩
      rw [Hd.out, hn]
      simp [dec_nil]
    · have hz' : 0 < s'.size := by omega
      clear hz
      obtain ⟨c, hc⟩ : ∃ c, (one (nums s')).1 = c := ⟨_, rfl⟩
      obtain ⟨n, hn⟩ : ∃ n, (one (nums s')).2 = n := ⟨_, rfl⟩
      have hns : n ≤ s'.size := by have := one_le (nums s'); rw [nums_len] at this; omega
      have HF : Hid (∀ W, Calls Tryz.prog 96 #[.string s'] W fun e w' => e = .returned (.tuple #[.int .u16 c, .int .i64 (n : Int)]) ∧ ∃ m, w' = W.drewN m) := hide fun W => by
        have := first_any s' W (by omega) (by omega)
        unfold Firsts at this
        rwa [hc, hn] at this
      have Hc := hide hc
      have Hn := hide hn
      clear hc hn
      by_cases h0 : n = 0
      · subst h0
        go_wp2_with (go_at_call 96; refine (HF.out _).mono ?_; rintro e w2 ⟨rfl, m, rfl⟩)
        go_ret2
        refine ⟨below_drewN Hb.out _, .inl ⟨?_, rfl⟩⟩
        rw [Hd.out, dec_none (fun e => by have := nums_len s'; rw [e] at this; simp at this; omega) Hn.out]
        rfl
      · have hn0 : ((n : Int) == 0) = false := by simp; omega
        have Hown2 : Hid (∀ m, ((wr.drewN m).alloc (.cells #[.int .u16 c] 146)).ownsRow w.heap.size 146 1 u4 us.length (cells .u16 us)) := hide fun m => World.ownsRow.alloc (w := wr.drewN m) Hown.out _
        have Hb2 : Hid (∀ m, Below w.heap.size w ((wr.drewN m).alloc (.cells #[.int .u16 c] 146))) := hide fun m => (below_drewN Hb.out m).alloc Hb.out.size _
        have Hr2 : Hid (∀ m, Rd ((wr.drewN m).alloc (.cells #[.int .u16 c] 146)) (wr.heap.size + 1) (some ⟨wr.heap.size, 0, none⟩) 1 [.int .u16 c]) := hide fun m => Rd.made (wr.drewN m) 146 [.int .u16 c]
        go_wp2_with (first
          | (go_at_call 96; refine (HF.out _).mono ?_; rintro e w2 ⟨rfl, m, rfl⟩)
          | (at_builtin; go_loud (refine wpList_append_rd _ rfl (.tmp 20) (.tmp 22) 126 rfl w.heap.size 146 i0 _ 2 Tryz.underlying126 hi0 hz0 hz1 hz2 rfl u4 us.length (cells .u16 us) rfl (Hown2.out m) (wr.heap.size + 1) (some ⟨wr.heap.size, 0, none⟩) 1 1 [.int .u16 c] rfl (Hr2.out m) ?_ ?_ ?_ ?_ ?_)))
        · intro v hv; simp at hv; subst hv; rfl
        · unfold maxLen; omega
        · omega
        · exact (Hb2.out m).size
        · intro v3 w3 hown3 hg3
          have Hown3 := hide hown3
          have Hb3 := hide (below_own (Hb2.out m) (Hown2.out m) hg3 (Hb2.out m).size)
          clear hown3 hg3
          go_wp2
          have hlen : (s'.extract n s'.size).size = s'.size - n := by rw [← nums_len, nums_from, List.length_drop, nums_len]
          go_roundw
          case rel =>
            refine ⟨_, us ++ [c], rfl, by rw [hlen]; simp; omega, ?_, by simpa [cells] using Hown3.out, Hb3.out⟩
            rw [Hd.out, nums_from, dec_some (by rw [Hn.out]; exact h0), Hn.out, Hc.out, Option.map_map]
            congr 1
            funext x
            simp
          case measure => simp only [strLen]; omega
end Go.Proofs.YtbdbcalmjbmflaaGreatDoor
namespace Go.Proofs.YtbdbcalmjbmflaaGreatDoor
open Go.RowKit

theorem drop_at (l : List Int) (k j : Nat) : (l.drop k).getD j 0 = l.getD (k + j) 0 := by simp [List.getD]
theorem nand192 : ∀ n : Fin 256, (bits BinOp.and IntKind.u8 (n.val : Int) 192 != 128) = !trl (n.val : Int) := by decide +kernel

theorem rdec_step {l us : List Int} {k n : Nat} {c : Int} {D : Option (List Int)} (h1 : one (l.drop k) = (c, n)) (h0 : n ≠ 0) (hd : D = (dec (l.drop k)).map (us ++ ·)) : D = (dec (l.drop (k + n))).map ((us ++ [c]) ++ ·) := by
  rw [hd, dec_some (by rw [h1]; exact h0), h1, Option.map_map, List.drop_drop]
  congr 1
  funext x
  simp

/-- The ways that a char may begin at a place. -/
inductive Kind1 (s : ByteArray) (k : Nat) (hk : k < s.size) : Prop
  | one (h0 : (1 : Int) ≤ ((s[k].toNat : Nat) : Int)) (h1 : ((s[k].toNat : Nat) : Int) ≤ (127 : Int)) (h : one ((nums s).drop k) = (((s[k].toNat : Nat) : Int), 1))
  | two (h0 : (192 : Int) ≤ ((s[k].toNat : Nat) : Int)) (h1 : ((s[k].toNat : Nat) : Int) < (224 : Int)) (hl : k + 1 < s.size) (ht : trl ((s[k + 1].toNat : Nat) : Int) = true)
      (h : one ((nums s).drop k) = (((s[k].toNat : Nat) : Int) % 32 * 64 + ((s[k + 1].toNat : Nat) : Int) % 64, 2))
  | three (h0 : (224 : Int) ≤ ((s[k].toNat : Nat) : Int)) (h1 : ((s[k].toNat : Nat) : Int) < (240 : Int)) (hl : k + 2 < s.size) (ht : trl ((s[k + 1].toNat : Nat) : Int) = true) (ht2 : trl ((s[k + 2].toNat : Nat) : Int) = true)
      (h : one ((nums s).drop k) = (((s[k].toNat : Nat) : Int) % 16 * 4096 + ((s[k + 1].toNat : Nat) : Int) % 64 * 64 + ((s[k + 2].toNat : Nat) : Int) % 64, 3))
  | two_no (h0 : (192 : Int) ≤ ((s[k].toNat : Nat) : Int)) (h1 : ((s[k].toNat : Nat) : Int) < (224 : Int)) (ht : ∀ hl : k + 1 < s.size, trl ((s[k + 1].toNat : Nat) : Int) = false) (h : (one ((nums s).drop k)).2 = 0)
  | three_no1 (h0 : (224 : Int) ≤ ((s[k].toNat : Nat) : Int)) (h1 : ((s[k].toNat : Nat) : Int) < (240 : Int)) (ht : ∀ hl : k + 1 < s.size, trl ((s[k + 1].toNat : Nat) : Int) = false) (ht2 : ∀ hl : k + 2 < s.size, trl ((s[k + 2].toNat : Nat) : Int) = false) (h : (one ((nums s).drop k)).2 = 0)
  | three_no2 (h0 : (224 : Int) ≤ ((s[k].toNat : Nat) : Int)) (h1 : ((s[k].toNat : Nat) : Int) < (240 : Int)) (hl : k + 1 < s.size) (ht : trl ((s[k + 1].toNat : Nat) : Int) = true) (ht2 : ∀ hl : k + 2 < s.size, trl ((s[k + 2].toNat : Nat) : Int) = false) (h : (one ((nums s).drop k)).2 = 0)
  | three_no3 (h0 : (224 : Int) ≤ ((s[k].toNat : Nat) : Int)) (h1 : ((s[k].toNat : Nat) : Int) < (240 : Int)) (hl : k + 2 < s.size) (ht : ∀ hl : k + 1 < s.size, trl ((s[k + 1].toNat : Nat) : Int) = false) (ht2 : trl ((s[k + 2].toNat : Nat) : Int) = true) (h : (one ((nums s).drop k)).2 = 0)
  | low (h0 : ((s[k].toNat : Nat) : Int) < (1 : Int)) (h : (one ((nums s).drop k)).2 = 0)
  | other (h0 : (127 : Int) < ((s[k].toNat : Nat) : Int)) (h1 : ((s[k].toNat : Nat) : Int) < (192 : Int) ∨ (240 : Int) ≤ ((s[k].toNat : Nat) : Int)) (h : (one ((nums s).drop k)).2 = 0)
theorem one_drop (s : ByteArray) (k : Nat) (hk : k < s.size) (a : Int) (ha : a = ((s[k].toNat : Nat) : Int)) : one ((nums s).drop k) =
    if 1 ≤ a ∧ a ≤ 127 then (a, 1)
    else if 192 ≤ a ∧ a < 224 ∧ k + 1 < s.size ∧ trl ((nums s).getD (k + 1) 0) = true then ((a - 192) * 64 + ((nums s).getD (k + 1) 0 - 128), 2)
    else if 224 ≤ a ∧ a < 240 ∧ k + 2 < s.size ∧ trl ((nums s).getD (k + 1) 0) = true ∧ trl ((nums s).getD (k + 2) 0) = true then ((a - 224) * 4096 + ((nums s).getD (k + 1) 0 - 128) * 64 + ((nums s).getD (k + 2) 0 - 128), 3)
    else (0, 0) := by
  have e1 : (2 ≤ ((nums s).drop k).length) = (k + 1 < s.size) := by rw [List.length_drop, nums_len]; exact propext ⟨fun _ => by omega, fun _ => by omega⟩
  have e2 : (3 ≤ ((nums s).drop k).length) = (k + 2 < s.size) := by rw [List.length_drop, nums_len]; exact propext ⟨fun _ => by omega, fun _ => by omega⟩
  unfold one
  rw [drop_at, drop_at, drop_at, Nat.add_zero, num_at s k hk, ← ha]
  simp only [e1, e2]
theorem kind1 (s : ByteArray) (k : Nat) (hk : k < s.size) : Kind1 s k hk := by
  obtain ⟨a, ha⟩ : ∃ a : Int, a = ((s[k].toNat : Nat) : Int) := ⟨_, rfl⟩
  have h := one_drop s k hk a ha
  have ba := byte_range s[k]
  rw [← ha] at ba
  by_cases c1 : 1 ≤ a ∧ a ≤ 127
  · rw [if_pos c1, ha] at h
    rw [ha] at c1
    exact .one c1.1 c1.2 h
  · rw [if_neg c1] at h
    by_cases c2 : 192 ≤ a ∧ a < 224
    · by_cases c3 : ∃ hl : k + 1 < s.size, trl ((s[k + 1].toNat : Nat) : Int) = true
      · obtain ⟨hl, ht⟩ := c3
        rw [num_at s _ hl, if_pos ⟨c2.1, c2.2, hl, ht⟩] at h
        have t := (trl_iff _).1 ht
        refine .two (by omega) (by omega) hl ht (h.trans ?_)
        rw [← ha, Prod.mk.injEq]
        exact ⟨by omega, rfl⟩
      · have ht : ∀ hl : k + 1 < s.size, trl ((s[k + 1].toNat : Nat) : Int) = false := fun hl => by
          cases e : trl ((s[k + 1].toNat : Nat) : Int)
          · rfl
          · exact absurd ⟨hl, e⟩ c3
        rw [if_neg (fun x => by have := ht x.2.2.1; rw [← num_at s _ x.2.2.1, x.2.2.2] at this; cases this), if_neg (fun x => by omega)] at h
        exact .two_no (by omega) (by omega) ht (by rw [h])
    · rw [if_neg (fun x => c2 ⟨x.1, x.2.1⟩)] at h
      by_cases c3 : 224 ≤ a ∧ a < 240
      · by_cases d1 : ∃ hl : k + 1 < s.size, trl ((s[k + 1].toNat : Nat) : Int) = true
        · obtain ⟨hl, ht⟩ := d1
          by_cases d2 : ∃ hl : k + 2 < s.size, trl ((s[k + 2].toNat : Nat) : Int) = true
          · obtain ⟨hl2, ht2⟩ := d2
            rw [num_at s _ hl, num_at s _ hl2, if_pos ⟨c3.1, c3.2, hl2, ht, ht2⟩] at h
            have t := (trl_iff _).1 ht
            have t2 := (trl_iff _).1 ht2
            refine .three (by omega) (by omega) hl2 ht ht2 (h.trans ?_)
            rw [← ha, Prod.mk.injEq]
            exact ⟨by omega, rfl⟩
          · have ht2 : ∀ hl : k + 2 < s.size, trl ((s[k + 2].toNat : Nat) : Int) = false := fun hl => by
              cases e : trl ((s[k + 2].toNat : Nat) : Int)
              · rfl
              · exact absurd ⟨hl, e⟩ d2
            rw [if_neg (fun x => by have := ht2 x.2.2.1; rw [← num_at s _ x.2.2.1, x.2.2.2.2] at this; cases this)] at h
            exact .three_no2 (by omega) (by omega) hl ht ht2 (by rw [h])
        · have ht : ∀ hl : k + 1 < s.size, trl ((s[k + 1].toNat : Nat) : Int) = false := fun hl => by
            cases e : trl ((s[k + 1].toNat : Nat) : Int)
            · rfl
            · exact absurd ⟨hl, e⟩ d1
          rw [if_neg (fun x => by have := ht (by omega); rw [← num_at s _ (by omega), x.2.2.2.1] at this; cases this)] at h
          by_cases d2 : ∃ hl : k + 2 < s.size, trl ((s[k + 2].toNat : Nat) : Int) = true
          · obtain ⟨hl2, ht2⟩ := d2
            exact .three_no3 (by omega) (by omega) hl2 ht ht2 (by rw [h])
          · have ht2 : ∀ hl : k + 2 < s.size, trl ((s[k + 2].toNat : Nat) : Int) = false := fun hl => by
              cases e : trl ((s[k + 2].toNat : Nat) : Int)
              · rfl
              · exact absurd ⟨hl, e⟩ d2
            exact .three_no1 (by omega) (by omega) ht ht2 (by rw [h])
      · rw [if_neg (fun x => c3 ⟨x.1, x.2.1⟩)] at h
        by_cases c4 : a < 1
        · exact .low (by omega) (by rw [h])
        · exact .other (by omega) (by omega) (by rw [h])

theorem lead224 (b : UInt8) : (bits BinOp.and IntKind.u8 ((b.toNat : Nat) : Int) 224 == 192) = (decide ((192 : Int) ≤ ((b.toNat : Nat) : Int)) && decide (((b.toNat : Nat) : Int) < (224 : Int))) := by
  obtain ⟨n, hn⟩ := byte_fin (byte_range b); rw [hn, and224]
theorem lead240 (b : UInt8) : (bits BinOp.and IntKind.u8 ((b.toNat : Nat) : Int) 240 == 224) = (decide ((224 : Int) ≤ ((b.toNat : Nat) : Int)) && decide (((b.toNat : Nat) : Int) < (240 : Int))) := by
  obtain ⟨n, hn⟩ := byte_fin (byte_range b); rw [hn, and240]

end Go.Proofs.YtbdbcalmjbmflaaGreatDoor
namespace Go.Proofs.YtbdbcalmjbmflaaGreatDoor
open Go.RowKit

/-- What a row's walk is told of a slice of numbers that came in: it is nil, or it leads to cap numbers, the first len of them its elements. -/
def Came (k : IntKind) (w : World) (a : Option Addr) (len cap : Nat) (zs : List Int) : Prop :=
  (a = none ∧ len = 0 ∧ cap = 0 ∧ zs = []) ∨
  ∃ x, a = some x ∧ len ≤ cap ∧ cap ≤ maxLen ∧ zs.length = cap ∧ (∀ i, i < zs.length → w.cell? (x.add i) = some (.int k (zs.getD i 0))) ∧ ∀ n ∈ zs, (Lit.int k n).wf = true
theorem came_lens {k : IntKind} {w : World} {a : Option Addr} {len cap : Nat} {zs : List Int} (h : Came k w a len cap zs) : len ≤ cap ∧ cap ≤ maxLen ∧ (a = none → len = 0) := by
  rcases h with ⟨_, rfl, rfl, _⟩ | ⟨x, h, h1, h2, _⟩
  · exact ⟨Nat.le_refl _, Nat.zero_le _, fun _ => rfl⟩
  · exact ⟨h1, h2, fun e => by rw [h] at e; cases e⟩
theorem came_cells {w : World} {a : Option Addr} {len cap : Nat} {zs : List Int} {k : IntKind} (h : Came k w a len cap zs) (m : Nat) (hm : m ≤ len) :
    Rd w w.heap.size a m (cells k (zs.take m)) := by
  rcases h with ⟨rfl, rfl, rfl, rfl⟩ | ⟨x, rfl, hl, _, hz, hc, _⟩
  · obtain rfl : m = 0 := by omega
    exact Rd.nil _ _ _
  · refine ⟨by simp [cells]; omega, fun hp => ?_⟩
    obtain ⟨g, o, spot⟩ := x
    have h0 := hc 0 (by omega)
    have hs : spot = none := by simpa [Addr.add] using World.cell?_spot h0
    subst hs
    refine ⟨g, o, rfl, World.block_lt_of_cell? w _ (by simpa [add_none] using h0), fun j u hu => ?_⟩
    have hj : j < m := by
      have := (List.getElem?_eq_some_iff.1 hu).1
      simp [cells] at this; omega
    have := hc j (by omega)
    rw [add_none] at this
    rw [this]
    simp only [cells, List.getElem?_map, List.getElem?_take, if_pos hj] at hu
    rw [← hu]
    simp [List.getD, show j < zs.length by omega]
theorem came_wf {k : IntKind} {w : World} {a : Option Addr} {len cap : Nat} {zs : List Int} (h : Came k w a len cap zs) : ∀ x ∈ zs, (Lit.int k x).wf = true := by
  rcases h with ⟨_, _, _, rfl⟩ | ⟨x, _, _, _, _, _, hw⟩
  · intro x hx; cases hx
  · exact hw

theorem str_of {w : World} {B : Nat} {A : Option Addr} {n c : Nat} {xs : List Int} (h : Rd w B A n (cells .u8 xs)) :
    (convert 29 9 (.slice A n c)).run Tryz.prog w = .ok (.string (strOfNums xs)) w := by
  have hl := h.1
  rw [cells_len] at hl
  rcases Nat.eq_zero_or_pos n with h0 | h0
  · subst h0
    obtain rfl : xs = [] := List.eq_nil_of_length_eq_zero hl
    rw [run_convert_bytes_string w 29 9 5 A 0 c Tryz.underlying29 Tryz.underlying5 Tryz.underlying9]
    rcases A with _ | x
    · simp [Conv.bytesToString, strOfNums]; rfl
    · rw [run_bytesToString w x 0 c [] (by simp [loadCells, loadCellsFrom])]
      rfl
  · obtain ⟨g, o, rfl, _, hc⟩ := h.2 h0
    exact run_convert_bytes_arg w 29 5 Tryz.underlying29 Tryz.underlying5 g o n c xs hl (fun i hi => by
      rw [hc i _ (by simp [cells, show i < xs.length by omega]; rfl)]; simp [List.getD, show i < xs.length by omega]) 9 Tryz.underlying9
end Go.Proofs.YtbdbcalmjbmflaaGreatDoor
namespace Go.Proofs.YtbdbcalmjbmflaaGreatDoor
open Go.RowKit

theorem came_rd {w : World} {a : Option Addr} {len cap : Nat} {zs : List Int} {k : IntKind} (h : Came k w a len cap zs) (m : Nat) (hm : m ≤ len) :
    Rd w w.heap.size a m ((zs.take m).map (.int k)) := by
  rcases h with ⟨rfl, rfl, rfl, rfl⟩ | ⟨x, rfl, hl, _, hz, hc, _⟩
  · obtain rfl : m = 0 := by omega
    exact Rd.nil _ _ _
  · refine ⟨by simp; omega, fun hp => ?_⟩
    obtain ⟨g, o, spot⟩ := x
    have h0 := hc 0 (by omega)
    have hs : spot = none := by simpa [Addr.add] using World.cell?_spot h0
    subst hs
    refine ⟨g, o, rfl, World.block_lt_of_cell? w _ (by simpa [add_none] using h0), fun j u hu => ?_⟩
    have hj : j < m := by
      have := (List.getElem?_eq_some_iff.1 hu).1
      simp at this; omega
    have := hc j (by omega)
    rw [add_none] at this
    rw [this]
    simp only [List.getElem?_map, List.getElem?_take, if_pos hj] at hu
    rw [← hu]
    simp [List.getD, show j < zs.length by omega]
theorem came_bytes {w : World} {a : Option Addr} {len cap : Nat} {zs : List Int} (h : Came .u8 w a len cap zs) : IsBytes zs := by
  rcases h with ⟨_, _, _, rfl⟩ | ⟨x, _, _, _, _, _, hw⟩
  · intro x hx; cases hx
  · intro x hx
    have := hw x hx
    have h2 : 0 ≤ x ∧ x ≤ 255 := by simpa [Lit.wf, IntKind.min, IntKind.max, IntKind.signed, IntKind.bits] using this
    omega

theorem str_rd {w : World} {B : Nat} {A : Option Addr} {n c : Nat} {xs : List Int} (h : Rd w B A n (bys xs)) :
    (convert 29 9 (.slice A n c)).run Tryz.prog w = .ok (.string (strOfNums xs)) w := by
  have hl := h.1
  rw [bys_len] at hl
  rcases Nat.eq_zero_or_pos n with h0 | h0
  · subst h0
    obtain rfl : xs = [] := List.eq_nil_of_length_eq_zero hl
    rw [run_convert_bytes_string w 29 9 5 A 0 c Tryz.underlying29 Tryz.underlying5 Tryz.underlying9]
    rcases A with _ | x
    · simp [Conv.bytesToString, strOfNums]; rfl
    · rw [run_bytesToString w x 0 c [] (by simp [loadCells, loadCellsFrom])]
      rfl
  · obtain ⟨g, o, rfl, _, hc⟩ := h.2 h0
    exact run_convert_bytes_arg w 29 5 Tryz.underlying29 Tryz.underlying5 g o n c xs hl (fun i hi => by
      rw [hc i _ (by simp [bys, show i < xs.length by omega]; rfl)]; simp [List.getD, show i < xs.length by omega]) 9 Tryz.underlying9

theorem okd_of {xs : List Int} {k n : Nat} (h : k + n ≤ xs.length) : okd xs k false (n : Int) = true := by simp [okd]; omega
theorem got_of {xs : List Int} {k n : Nat} (h : k + n ≤ xs.length) : got xs k false (n : Int) = (xs.drop k).take n := by simp [got, okd_of h]
theorem went_of {xs : List Int} {k n : Nat} (h : k + n ≤ xs.length) : went xs k false (n : Int) = k + n := by simp [went, okd_of h]

theorem be_one (l : List Int) (h : 0 < l.length) : be (l.take 1) = l.getD 0 0 := by
  cases l with
  | nil => simp at h
  | cons a t => simp [be]
theorem be_four (l : List Int) (h : 4 ≤ l.length) : be (l.take 2) * 65536 + be ((l.drop 2).take 2) = be (l.take 4) := by
  match l, h with
  | a :: b :: c :: d :: t, _ => simp [be]; omega

theorem step_one (xs : List Int) (k c : Nat) (h : k + c < xs.length) : be ((xs.drop (k + c)).take 1) = (xs.drop k).getD c 0 := by
  rw [be_one _ (by simp; omega)]
  simp [List.getD]
theorem int_eq {k : IntKind} {a b : Int} (h : a = b) : Value.int k a = Value.int k b := by rw [h]

/-- Three cursors over the same bytes, each in blocks of its own from B on. -/
structure Three (B : Nat) (w : World) (g1 b1 g2 b2 g3 b3 : Nat) (xs : List Int) (k1 k2 k3 : Nat) : Prop where
  c1 : Cur w g1 b1 xs k1 false
  c2 : Cur w g2 b2 xs k2 false
  c3 : Cur w g3 b3 xs k3 false
  l1 : B ≤ g1
  l2 : B ≤ g2
  l3 : B ≤ g3
  n12 : g1 ≠ g2
  n13 : g1 ≠ g3
  n23 : g2 ≠ g3

theorem Cur.other {w w' : World} {g gb : Nat} {xs : List Int} {k : Nat} {bad : Bool} {g' gb' : Nat} {xs' : List Int} {k' : Nat} {bad' : Bool} (h : Cur w g gb xs k bad) (h' : Cur w g' gb' xs' k' bad') (hb : w.grownBy w' (some g')) (hn : g ≠ g') : Cur w' g gb xs k bad :=
  h.grown hb (by simpa using hn) (by simpa using (h'.1.ne h.2.1 (by decide)).symm)

section
variable {B : Nat} {w w' : World} {g1 b1 g2 b2 g3 b3 : Nat} {xs : List Int} {k1 k2 k3 k' : Nat}
theorem Three.turn1 (h : Three B w g1 b1 g2 b2 g3 b3 xs k1 k2 k3) (hc : Cur w' g1 b1 xs k' false) (hg : w.grownBy w' (some g1)) : Three B w' g1 b1 g2 b2 g3 b3 xs k' k2 k3 :=
  ⟨hc, h.c2.other h.c1 hg h.n12.symm, h.c3.other h.c1 hg h.n13.symm, h.l1, h.l2, h.l3, h.n12, h.n13, h.n23⟩
theorem Three.turn2 (h : Three B w g1 b1 g2 b2 g3 b3 xs k1 k2 k3) (hc : Cur w' g2 b2 xs k' false) (hg : w.grownBy w' (some g2)) : Three B w' g1 b1 g2 b2 g3 b3 xs k1 k' k3 :=
  ⟨h.c1.other h.c2 hg h.n12, hc, h.c3.other h.c2 hg h.n23.symm, h.l1, h.l2, h.l3, h.n12, h.n13, h.n23⟩
theorem Three.turn3 (h : Three B w g1 b1 g2 b2 g3 b3 xs k1 k2 k3) (hc : Cur w' g3 b3 xs k' false) (hg : w.grownBy w' (some g3)) : Three B w' g1 b1 g2 b2 g3 b3 xs k1 k2 k' :=
  ⟨h.c1.other h.c3 hg h.n13, h.c2.other h.c3 hg h.n23, hc, h.l1, h.l2, h.l3, h.n12, h.n13, h.n23⟩
theorem Three.keep (h : Three B w g1 b1 g2 b2 g3 b3 xs k1 k2 k3) (hg : w.grownBy w' none) : Three B w' g1 b1 g2 b2 g3 b3 xs k1 k2 k3 :=
  ⟨h.c1.grown hg (by simp) (by simp), h.c2.grown hg (by simp) (by simp), h.c3.grown hg (by simp) (by simp), h.l1, h.l2, h.l3, h.n12, h.n13, h.n23⟩
end

theorem u1_yes (g gb : Nat) (xs : List Int) (k : Nat) (w : World) (h : Cur w g gb xs k false) (v : Int) (hk : k + 1 ≤ xs.length) (hv : be ((xs.drop k).take 1) = v) :
    Calls Tryz.prog 86 #[.pointer (some ⟨g, 0, none⟩)] w fun e w' => e = .returned (.int .i64 v) ∧ Cur w' g gb xs (k + 1) false ∧ w.grownBy w' (some g) :=
  u1_any g gb xs k false w h v (k + 1) false ((congrArg be (got_of hk)).trans hv) (went_of hk) (by rw [show (1 : Int) = ((1 : Nat) : Int) from rfl, okd_of hk]; rfl)
theorem u2_yes (g gb : Nat) (xs : List Int) (k : Nat) (w : World) (h : Cur w g gb xs k false) (v : Int) (hk : k + 2 ≤ xs.length) (hv : be ((xs.drop k).take 2) = v) :
    Calls Tryz.prog 23 #[.pointer (some ⟨g, 0, none⟩)] w fun e w' => e = .returned (.int .i64 v) ∧ Cur w' g gb xs (k + 2) false ∧ w.grownBy w' (some g) :=
  u2_any g gb xs k false w h v (k + 2) false ((congrArg be (got_of hk)).trans hv) (went_of hk) (by rw [show (2 : Int) = ((2 : Nat) : Int) from rfl, okd_of hk]; rfl)
theorem u4_yes (g gb : Nat) (xs : List Int) (k : Nat) (w : World) (h : Cur w g gb xs k false) (v : Int) (hk : k + 4 ≤ xs.length) (hv : be ((xs.drop k).take 4) = v) :
    Calls Tryz.prog 22 #[.pointer (some ⟨g, 0, none⟩)] w fun e w' => e = .returned (.int .i64 v) ∧ Cur w' g gb xs (k + 4) false ∧ w.grownBy w' (some g) :=
  u4_any g gb xs k false w h v (k + 4) false ((congrArg be (got_of hk)).trans hv) (went_of hk) (by rw [show (4 : Int) = ((4 : Nat) : Int) from rfl, okd_of hk]; rfl)
theorem bytes_all (g gb : Nat) (xs : List Int) (w : World) (h : Cur w g gb xs 0 false) (n : Int) (m : Nat) (hm : xs.length = m) (hn : n = (m : Int)) :
    Calls Tryz.prog 67 #[.pointer (some ⟨g, 0, none⟩), .int .i64 n] w fun e w' => ∃ q, e = .returned (.slice (some ⟨q, 0, none⟩) m m) ∧ w.heap.size ≤ q ∧ At w' q 5 (bys xs) ∧ w.grownBy w' (some g) := by
  subst hn
  subst hm
  have hg : got xs 0 false xs.length = xs := by rw [got_of (by omega)]; simp
  refine (bytes_any g gb xs 0 xs.length false w h).mono fun e w' ⟨q, he, hq, ha, _, hgr⟩ => ⟨q, ?_, hq, ?_, hgr⟩
  · rw [he, hg]
  · rwa [hg] at ha

end Go.Proofs.YtbdbcalmjbmflaaGreatDoor
namespace Go.Proofs.YtbdbcalmjbmflaaGreatDoor
open Go.RowKit

section
variable {w w' : World} {r base : Nat} {A : Option Addr} {c : Nat} {xs : List Int} {k : Nat} {bad : Bool}
end

theorem src_cell {w : World} {base : Nat} {A : Option Addr} {n : Nat} {xs : List Int} (h : Src w base 5 A n (bys xs)) {j : Nat} (hj : j < n) :
    ∃ g, A = some ⟨g, 0, none⟩ ∧ w.cell? ⟨g, j, none⟩ = some (.int .u8 (xs.getD j 0)) := by
  rcases h with ⟨_, rfl, _⟩ | ⟨g, ex, rfl, _, hl, ha⟩
  · omega
  · rw [bys_len] at hl
    refine ⟨g, rfl, ?_⟩
    rw [ha.cell, List.getElem?_append_left (by rw [bys_len]; omega)]
    simp [bys, List.getD, show j < xs.length by omega]

theorem src_cut {w : World} {base : Nat} {e : TypeId} {A : Option Addr} {l : Nat} {xs : List Value} (h : Src w base e A l xs) {k n : Nat} (hk : k + n ≤ l) :
    Rd w w.heap.size (A.map fun x => x.add k) n ((xs.drop k).take n) := by
  rcases h with ⟨rfl, rfl, rfl⟩ | ⟨g, ex, rfl, _, hl, ha⟩
  · obtain rfl : n = 0 := by omega
    simpa using Rd.nil w w.heap.size none
  · have := ha.rd k n (by simp; omega)
    rw [List.drop_append_of_le_length (by omega), List.take_append_of_le_length (by simp; omega)] at this
    simpa [add_none] using this

end Go.Proofs.YtbdbcalmjbmflaaGreatDoor
namespace Go.Proofs.YtbdbcalmjbmflaaGreatDoor
open Go.RowKit

theorem Src.far {w w' : World} {base : Nat} {e : TypeId} {A : Option Addr} {n : Nat} {xs : List Value} {g : Nat} {t : TypeId} {cs : List Value} (h : Src w base e A n xs) (hg : At w g t cs) (ht : t ≠ e) (hb : w.grownBy w' (some g)) : Src w' base e A n xs := by
  rcases h with h | ⟨g', ex, rfl, hb', hl, ha⟩
  · exact .inl h
  · exact .inr ⟨g', ex, rfl, hb', hl, ha.grown hb (by simpa using (hg.ne ha ht).symm)⟩
theorem Src.new {w w' : World} {base : Nat} {e : TypeId} {A : Option Addr} {n : Nat} {xs : List Value} (h : Src w base e A n xs) {row : Option Nat} (hb : w.grownBy w' row) (hr : ∀ q, row = some q → w.heap.size ≤ q) : Src w' base e A n xs := by
  rcases h with h | ⟨g', ex, rfl, hb', hl, ha⟩
  · exact .inl h
  · exact .inr ⟨g', ex, rfl, hb', hl, ha.grown hb (fun e => by have := hr g' e.symm; have := ha.lt; omega)⟩

section
variable {B : Nat} {w w' : World} {g gb r : Nat} {A1 A2 : Option Addr} {c2 : Nat} {xs : List Int} {k k2 k' : Nat} {bad bad2 bad' : Bool}
end

theorem ok_q {g gb : Nat} {xs : List Int} {k : Nat} {bad : Bool} {w : World} (h : Cur w g gb xs k bad) (x : Nat) :
    Calls Tryz.prog 20 #[.pointer (some ⟨g, 0, none⟩)] (w.drewN x) fun e w' => e = .returned (.bool (!bad)) ∧ ∃ n, w' = w.drewN n :=
  (ok_any g gb xs k bad (w.drewN x) h).mono fun _ _ ⟨a, b⟩ => ⟨a, x, b.symm⟩
theorem left_q {g gb : Nat} {xs : List Int} {k : Nat} {bad : Bool} {w : World} (h : Cur w g gb xs k bad) (x : Nat) (l : Nat) (hl : xs.length = l) :
    Calls Tryz.prog 21 #[.pointer (some ⟨g, 0, none⟩)] (w.drewN x) fun e w' => e = .returned (.int .i64 ((l : Int) - k)) ∧ ∃ n, w' = w.drewN n :=
  (left_any g gb xs k bad (w.drewN x) h).mono fun _ _ ⟨a, m, b⟩ => ⟨by rw [a, hl], x + m, by rw [b, World.drewN_drewN]⟩
end Go.Proofs.YtbdbcalmjbmflaaGreatDoor
