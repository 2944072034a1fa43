/- The walk of DescrBuild. Nothing is claimed here. -/
import Derived.Test.YtjlcocalpjeghaaDoorDescrLawM
import Derived.Test.YtjlcocalpjeghaaDoorArgs
namespace Go.Proofs.YtjlcocalpjeghaaDoor
open Go.RowKit

/-- The types that a descriptor is put together of. -/
def allTys : List Ty := [⟨73, [], 0, 0⟩, ⟨74, [], 0, 0⟩, ⟨66, [], 0, 0⟩, ⟨67, [], 0, 0⟩, ⟨83, [], 0, 0⟩, ⟨90, [], 0, 0⟩, ⟨76, [97, 47, 98], 0, 0⟩]
theorem all_cells : tcells allTys = [.int .u8 73, .string ⟨#[]⟩, .int .i64 0, .int .u8 0, .int .u8 74, .string ⟨#[]⟩, .int .i64 0, .int .u8 0, .int .u8 66, .string ⟨#[]⟩, .int .i64 0, .int .u8 0,
    .int .u8 67, .string ⟨#[]⟩, .int .i64 0, .int .u8 0, .int .u8 83, .string ⟨#[]⟩, .int .i64 0, .int .u8 0, .int .u8 90, .string ⟨#[]⟩, .int .i64 0, .int .u8 0, .int .u8 76, .string ⟨#[97, 47, 98]⟩, .int .i64 0, .int .u8 0] := by
  have : strOfNums [97, 47, 98] = ⟨#[97, 47, 98]⟩ := by decide +kernel
  simp only [tcells, allTys, List.flatMap_cons, List.flatMap_nil, Ty.cells, this]
  rfl
def okTy (u : Ty) : Bool := (u.dims == 0 && u.elem == 0) && (((baseB u.kind && u.name == []) || (u.kind == 76 && classB u.name)) && (decide (u.name.length ≤ 3) && u.name.all fun x => decide (0 ≤ x) && decide (x < 256)))
theorem all_ok : ∀ m : Fin 7, okTy (allTys.getD m.val noTy) = true := by decide +kernel
/-- A type that is put into a descriptor. -/
def Fine (t : Ty) : Prop := t.good ∧ IsBytes t.name ∧ t.name.length ≤ 3 ∧ (0 ≤ t.elem ∧ t.elem < 256) ∧ (0 ≤ t.kind ∧ t.kind < 256) ∧ (putT t).length ≤ 260
theorem putT_len (t : Ty) (h : t.name.length ≤ 3) : (putT t).length ≤ 260 := by
  have h1 := putS_len t.elem t.name
  have h2 := putS_len t.kind t.name
  unfold putT
  split
  · simp
  · split
    · split
      · simp
      · rename_i hn
        have : t.dims ≤ 255 := by
          rcases Nat.lt_or_ge 255 t.dims with h3 | h3
          · exact absurd (.inr (.inr h3)) hn
          · exact h3
        simp; omega
    · omega
theorem fine_plain {m : Nat} (hm : m < 7) : Fine (allTys.getD m noTy) := by
  have h := all_ok ⟨m, hm⟩
  simp only at h
  generalize allTys.getD m noTy = u at *
  unfold okTy at h
  simp only [Bool.and_eq_true, Bool.or_eq_true, beq_iff_eq, decide_eq_true_eq, List.all_eq_true] at h
  obtain ⟨⟨h1, h2⟩, h3, h4, h5⟩ := h
  obtain ⟨k, n, d, x⟩ := u
  simp only at h1 h2 h3 h4 h5
  subst h1 h2
  refine ⟨?_, fun x hx => h5 x hx, h4, ⟨by show (0 : Int) ≤ 0; decide, by show (0 : Int) < 256; decide⟩, ?_, putT_len _ h4⟩
  · rcases h3 with ⟨hb, rfl⟩ | ⟨rfl, hc⟩
    · exact .inl ⟨hb, rfl⟩
    · exact .inr (.inl ⟨rfl, hc, rfl⟩)
  · rcases h3 with ⟨hb, _⟩ | ⟨rfl, _⟩
    · exact base_range hb
    · exact ⟨by show (0 : Int) ≤ 76; decide, by show (76 : Int) < 256; decide⟩
theorem fine_arr {m d : Nat} (hm : m < 7) (h0 : 1 ≤ d) (h1 : d ≤ 255) : Fine ⟨91, (allTys.getD m noTy).name, d, (allTys.getD m noTy).kind⟩ := by
  obtain ⟨hg, hb, hn, he, hk, _⟩ := fine_plain hm
  have h := all_ok ⟨m, hm⟩
  simp only at h
  generalize allTys.getD m noTy = u at *
  unfold okTy at h
  simp only [Bool.and_eq_true, Bool.or_eq_true, beq_iff_eq, decide_eq_true_eq, List.all_eq_true] at h
  obtain ⟨⟨_, _⟩, h3, _, _⟩ := h
  refine ⟨.inr (.inr ⟨rfl, h0, h1, ?_⟩), hb, hn, hk, ⟨by show (0 : Int) ≤ 91; decide, by show (91 : Int) < 256; decide⟩, putT_len _ hn⟩
  rcases h3 with ⟨h3, h4⟩ | ⟨h3, h4⟩
  · exact .inl ⟨h3, h4⟩
  · exact .inr ⟨h3, h4⟩
theorem flat_len (acc : List Ty) (h : ∀ t ∈ acc, Fine t) : (acc.flatMap putT).length ≤ 260 * acc.length := by
  induction acc with
  | nil => simp
  | cons t r ih =>
    have h1 := (h t (by simp)).2.2.2.2.2
    have h2 := ih fun t ht => h t (by simp [ht])
    simp only [List.flatMap_cons, List.length_append, List.length_cons]
    omega
theorem own_new {w : World} {base : Nat} {e : TypeId} {size n : Nat} {v : Value} {xs : List Value} (h : w.ownsRow base e size v n xs) : some w.heap.size ≠ v.ownBlock := by
  obtain ⟨_, ⟨rfl, _⟩ | ⟨g, cap, cur, rfl, _, hg, _⟩⟩ := h
  · simp [Value.ownBlock]
  · have := (Array.getElem?_eq_some_iff.1 hg).1
    simp only [Value.ownBlock, ne_eq, Option.some.injEq]; omega
theorem sumW_snoc (ts : List Ty) (t : Ty) : sumW (ts ++ [t]) = sumW ts + words t.kind := by
  unfold sumW
  rw [List.map_append, List.sum_append]
  simp
theorem tmod7 (x : Int) : ∃ t, x.tmod 7 = t ∧ -6 ≤ t ∧ t ≤ 6 ∧ ∃ m : Nat, (t + 7) % 7 = (m : Int) ∧ m < 7 := by
  have := Int.natAbs_tmod x 7
  have h2 : (x.tmod 7).natAbs < 7 := by rw [this]; exact Nat.mod_lt _ (by decide)
  exact ⟨_, rfl, by omega, by omega, ((x.tmod 7 + 7) % 7).toNat, by omega, by omega⟩
theorem rd_all {w : World} {g : Nat} (h : At w g 25 (tcells allTys)) : RdT w (g + 1) (some ⟨g, 0, none⟩) 7 allTys := by
  refine ⟨rfl, fun _ => ⟨g, 0, rfl, by omega, fun j u hu => ?_⟩⟩
  rw [h.cell, Nat.zero_add]; exact hu
end Go.Proofs.YtjlcocalpjeghaaDoor
