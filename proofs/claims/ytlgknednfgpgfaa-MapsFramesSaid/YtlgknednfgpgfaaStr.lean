/- Small lemmas of my own on strings as lists of numbers. Nothing is claimed here. -/
import Derived.Test.YtlgknednfgpgfaaMem
import Derived.Lib.Strings
import Derived.Lib.IndexBytes
import Derived.Laws.BitsLemmas
import Derived.Laws.BytesArg
namespace Go.Proofs.Ytlgknednfgpgfaa
open Go.RowKit

/-- The bytes of a string as numbers. -/
def nums (s : ByteArray) : List Int := s.data.toList.map fun b => (b.toNat : Int)
theorem nums_len (s : ByteArray) : (nums s).length = s.size := by rw [Lib.size_eq, nums, List.length_map]
theorem nums_bytes (s : ByteArray) : IsBytes (nums s) := by
  intro x hx
  simp only [nums, List.mem_map] at hx
  obtain ⟨b, _, rfl⟩ := hx
  have := UInt8.toNat_lt b
  omega
theorem num_at (s : ByteArray) (i : Nat) (h : i < s.size) : (nums s).getD i 0 = ((s[i].toNat : Nat) : Int) := by
  have := Lib.data_getElem? s i h
  simp [nums, List.getD, List.getElem?_map, this]
theorem num_out (s : ByteArray) (i : Nat) (h : ¬ i < s.size) : (nums s).getD i 0 = 0 := by
  have : (nums s)[i]? = none := List.getElem?_eq_none (by rw [nums_len]; omega)
  simp [List.getD, this]
theorem nums_from (s : ByteArray) (n : Nat) : nums (s.extract n s.size) = (nums s).drop n := by
  unfold nums
  rw [Lib.extract_to_end, List.map_drop]
theorem nums_cut (s : ByteArray) (a b : Nat) : nums (s.extract a b) = ((nums s).drop a).take (b - a) := by
  unfold nums
  rw [Lib.extract_data, List.map_take, List.map_drop]
theorem nums_of (xs : List Int) (h : IsBytes xs) : nums (strOfNums xs) = xs := by
  unfold nums
  rw [strOfNums_data, List.map_map]
  refine (List.map_congr_left fun x hx => ?_).trans (List.map_id xs)
  have := h x hx
  simp
  omega
theorem of_nums (s : ByteArray) : strOfNums (nums s) = s := by
  cases s with
  | mk d =>
    have h : ∀ l : List UInt8, l.map ((fun n : Int => UInt8.ofNat n.toNat) ∘ fun x : UInt8 => (x.toNat : Int)) = l := by
      intro l
      induction l with
      | nil => rfl
      | cons x r ih => simp [ih]
    simp [strOfNums, nums, h]
theorem nums_inj {s t : ByteArray} (h : nums s = nums t) : s = t := by rw [← of_nums s, h, of_nums]
theorem byte_range (b : UInt8) : 0 ≤ (b.toNat : Int) ∧ (b.toNat : Int) < 256 := by have := UInt8.toNat_lt b; omega
theorem ret_int {k : IntKind} {a b : Int} (h : a = b) : Ending.returned (.int k a) = .returned (.int k b) := by rw [h]
theorem ret_tup2 {k k' : IntKind} {a b a' b' : Int} (h : a = b) (h' : a' = b') : Ending.returned (.tuple #[.int k a, .int k' a']) = .returned (.tuple #[.int k b, .int k' b']) := by rw [h, h']
theorem ret_bool {a b : Bool} (h : a = b) : Ending.returned (.bool a) = .returned (.bool b) := by rw [h]

/-- Numbers as cells of a kind. -/
def cells (k : IntKind) (xs : List Int) : List Value := xs.map (.int k)
theorem cells_len (k : IntKind) (xs : List Int) : (cells k xs).length = xs.length := by simp [cells]
theorem cells_one (k : IntKind) (xs : List Int) : ∀ v ∈ cells k xs, v.oneCell' = true := by
  intro v hv
  simp only [cells, List.mem_map] at hv
  obtain ⟨a, _, rfl⟩ := hv
  rfl
theorem cells_at {w : World} {B : Nat} {A : Option Addr} {n : Nat} {k : IntKind} {ys : List Int} (h : Rd w B A n (cells k ys)) {j : Nat} (hj : j < n) :
    ∃ g o, A = some ⟨g, o, none⟩ ∧ g < B ∧ w.cell? ⟨g, o + j, none⟩ = some (.int k (ys.getD j 0)) := by
  have hl := h.1
  rw [cells_len] at hl
  obtain ⟨g, o, rfl, hg, hc⟩ := h.2 (by omega)
  exact ⟨g, o, rfl, hg, hc j _ (by simp [cells, List.getD, show j < ys.length by omega])⟩
theorem Rd.drewN {w : World} {B : Nat} {A : Option Addr} {n : Nat} {xs : List Value} (h : Rd w B A n xs) (k : Nat) : Rd (w.drewN k) B A n xs := h
/-- A new block that holds some cells, as a slice. -/
theorem Rd.made (w : World) (e : TypeId) (cs : List Value) : Rd (w.alloc (.cells cs.toArray e)) (w.heap.size + 1) (some ⟨w.heap.size, 0, none⟩) cs.length cs := by
  refine ⟨rfl, fun _ => ⟨_, 0, rfl, Nat.lt_succ_self _, fun j u hu => ?_⟩⟩
  rw [(At.new w e cs).cell, Nat.zero_add]
  exact hu

theorem quiet_same {P : Program} {f : FuncId} {args : Array Value} {w : World} {n : Nat} {v : Value}
    (h : Calls P f args (w.drewN n) fun e w' => e = .returned v ∧ w.drewN n = w') : Calls P f args (w.drewN n) fun e w'' => e = .returned v ∧ ∃ m, w'' = w.drewN m :=
  h.mono fun _ _ ⟨he, hm⟩ => ⟨he, n, hm.symm⟩

theorem one_cells (l : List Value) (h : l.all Value.oneCell' = true) : ∀ u ∈ l, u.oneCell' = true := by simpa using h
/-- 'append(v, x, ..)' onto an own row: the new cells were laid in a block just ahead. -/
theorem wpList_append_lits {P : Program} (w : World) {ops : Array Oper} {rest : List Oper} {o : Oper} {a : Act} {Q : Exit → Act → World → Prop} (hgd : Region.wanted o (yielded ops a.tmps) = true) (s x : Operand) (t : TypeId)
    (ho : o.op = .call { callee := .builtin .append, args := #[s, x], argTypes := #[t, t] })
    (base : Nat) (e : TypeId) (i : TypeInfo) (z : Value) (bytes : Nat) (ht : P.underlying t = some (.slice e)) (hi : P.info? e = some i) (hz : i.zero = some z)
    (hsize : i.size = 1) (hby : i.bytes = bytes) (hzs : z.cells.size = 1) (v : Value) (n : Nat) (xs : List Value) (hs : a.eval s = v) (hown : w.ownsRow base e 1 v n xs)
    (news : List Value) (m : Nat) (hm : news.length = m) (hx : a.eval x = .slice (some ⟨w.heap.size, 0, none⟩) m m) (h1 : news.all Value.oneCell' = true)
    (h63 : n + m ≤ maxLen) (hbytes : (n + m) * bytes ≤ 140737488355328) (hbase : base ≤ w.heap.size)
    (h : ∀ v' w', w'.ownsRow base e 1 v' (n + m) (xs ++ news) → w.grownBy w' v.ownBlock → wpList P ops Q rest (a.put o.dst v') w') : wpList P ops Q (o :: rest) a (w.alloc (.cells news.toArray e)) := by
  subst hm
  refine wpList_append_rd _ hgd s x t ho base e i z bytes ht hi hz hsize hby hzs v n xs hs (hown.alloc _) _ _ _ _ news hx (Rd.made w e news) (one_cells _ h1) h63 hbytes (by simp; omega) fun v' w' h2 h3 => h v' w' h2 (grown_trans (grown_below ((Below.refl _ _).alloc (Nat.le_refl _) _) _) h3)

/-! ### bits -/
theorem wraps_u16 (n : Int) (h₀ : 0 ≤ n) (h₁ : n < 2 ^ 16) : IntKind.u16.wrap n = n := by simp [IntKind.wrap, IntKind.bits, IntKind.signed]; omega
theorem wraps_u32 (n : Int) (h₀ : 0 ≤ n) (h₁ : n < 2 ^ 32) : IntKind.u32.wrap n = n := by rw [IntKind.wrap_u32]; omega
end Go.Proofs.Ytlgknednfgpgfaa
