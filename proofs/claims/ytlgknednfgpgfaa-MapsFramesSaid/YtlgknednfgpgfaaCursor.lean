/- What each function of package cursor does, over a cursor in memory. Nothing is claimed here. -/
import Derived.Test.YtlgknednfgpgfaaMem
import Derived.Test.YtlgknednfgpgfaaProg
import Derived.Deep.QuietTactic
import Derived.BigQuiet
import Derived.WalkSpells
import Derived.Deep.OwnRows
namespace Go.Proofs.Ytlgknednfgpgfaa
open Go.RowKit

theorem u8info : (Try.prog.info? 5).map (fun i => (i.zero, i.size, i.bytes)) = some (some (.int .u8 0), 1, 1) := by kernel_rfl
theorem u8size : (Try.prog.info? 5).map (·.size) = some 1 := by kernel_rfl

theorem splice_all {α : Type} (L cs : List α) (h : L.length = cs.length) : splice L 0 cs = cs := by
  simp [splice, ← h]

theorem copied_any (A : Option Addr) (n c : Nat) (xs : List Int) (w : World) (B : Nat) (hr : Rd w B A n (bys xs)) (hB : B ≤ w.heap.size) (hn : n ≤ 140737488355328) :
    Calls Try.prog 31 #[.slice A n c] w fun e w' => e = .returned (.slice (some ⟨w.heap.size, 0, none⟩) n n) ∧ At w' w.heap.size 5 (bys xs) ∧ Below w.heap.size w w' := by
  obtain ⟨i0, hi0, hz0, hz1, hz2⟩ := info_parts u8info
  have hlen : (bys xs).length = n := hr.1
  obtain ⟨cs, hcs⟩ : ∃ cs, cs = bys xs := ⟨_, rfl⟩
  rw [← hcs] at hr hlen ⊢
  have hone : ∀ v ∈ cs, v.oneCell' = true := by rw [hcs]; exact bys_one xs
  obtain ⟨cur, hcur⟩ : ∃ cur, cur = (madeCells #[Value.int .u8 0] n).toList := ⟨_, rfl⟩
  have hlc : cur.length = n := by rw [hcur]; simp [madeCells]
  have Hcur := hide hcur
  have Hlen := hide hlen
  have Hlc := hide hlc
  have Hcs := hide hcs
  have Hr := hide hr
  clear hcur hlen hlc hcs hr
  go_enter Try.func31, Try.ntmps31
  go_wp2_with (first
    | (at_make; refine wpList_make_row _ rfl _ _ 22 rfl 5 i0 _ Try.underlying22 hi0 hz0 hz1 rfl .i64 .i64 n rfl rfl (by rw [hz2]; omega) (by omega) ?_)
    | (with_reducible refine wpList_copy_splice rfl (.tmp 7) (.tmp 8) 22 22 rfl 5 Try.underlying22 u8size (some ⟨w.heap.size, 0, none⟩) A n n n c rfl rfl w.heap.size 0 cur 5 ?_ cs ?_ ?_ ?_ hone w.heap.size w ?_ (Nat.le_refl _) ?_))
  · simpa [Hcur.out] using heap_alloc_new w (.cells (madeCells #[Value.int .u8 0] n) 5)
  · simp [Hlen.out]
  · intro h
    have hr := Rd.below Hr.out ((Below.refl _ _).alloc hB (.cells (madeCells #[Value.int .u8 0] n) 5))
    exact hr.src h
  · simp [Hlc.out, Hlen.out]
  · exact (Below.refl _ _).alloc (Nat.le_refl _) _
  · intro w2 hg2 hb2
    have Hb := hide hb2
    clear hb2
    go_wp2
    go_ret
    refine ⟨rfl, ?_, Hb.out⟩
    have := hg2.out
    rwa [splice_all _ _ (Hlc.out.trans Hlen.out.symm)] at this

/-- A cursor over the bytes xs, k of them read; bad: a read was refused. -/
def Cur (w : World) (g gb : Nat) (xs : List Int) (k : Nat) (bad : Bool) : Prop :=
  At w g 74 [.slice (some ⟨gb, 0, none⟩) xs.length xs.length, .int .i64 k, .bool bad] ∧ At w gb 5 (bys xs) ∧ k ≤ xs.length ∧ IsBytes xs ∧ xs.length ≤ 140737488355328

def Made (w : World) (xs : List Int) (e : Ending) (w' : World) : Prop :=
  ∃ g gb, e = .returned (.pointer (some ⟨g, 0, none⟩)) ∧ Cur w' g gb xs 0 false ∧ w.heap.size ≤ g ∧ w.heap.size ≤ gb ∧ Below w.heap.size w w'

theorem new_any (A : Option Addr) (n c : Nat) (xs : List Int) (w : World) (B : Nat) (hr : Rd w B A n (bys xs)) (hB : B ≤ w.heap.size) (hn : n ≤ 140737488355328) (hx : IsBytes xs) :
    Calls Try.prog 14 #[.slice A n c] w (Made w xs) := by
  have hlen := hr.1
  rw [bys_len] at hlen
  have Hlen := hide hlen
  clear hlen
  go_enter Try.func14, Try.ntmps14
  go_wp2_with (go_at_call 31; refine (copied_any A n c xs w B hr hB hn).mono ?_; rintro e w1 ⟨rfl, hat1, hb1⟩)
  go_ret
  refine ⟨w1.heap.size, w.heap.size, rfl, ⟨?_, hat1.alloc _, Nat.zero_le _, hx, by rw [Hlen.out]; exact hn⟩, hb1.size, Nat.le_refl _, hb1.alloc hb1.size _⟩
  rw [Hlen.out]
  exact At.new w1 74 [.slice (some ⟨w.heap.size, 0, none⟩) n n, .int .i64 0, .bool false]

theorem ok_any (g gb : Nat) (xs : List Int) (k : Nat) (bad : Bool) (w : World) (h : Cur w g gb xs k bad) :
    Calls Try.prog 17 #[.pointer (some ⟨g, 0, none⟩)] w fun e w' => e = .returned (.bool (!bad)) ∧ w = w' := by
  have h2 : w.cell? ⟨g, 2, none⟩ = some (.bool bad) := h.1.cell 2
  go_enter Try.func17, Try.ntmps17
  go_wp2
  go_ret
  exact ⟨rfl, rfl⟩

theorem left_any (g gb : Nat) (xs : List Int) (k : Nat) (bad : Bool) (w : World) (h : Cur w g gb xs k bad) :
    Calls Try.prog 18 #[.pointer (some ⟨g, 0, none⟩)] w fun e w' => e = .returned (.int .i64 ((xs.length : Int) - k)) ∧ ∃ m, w' = w.drewN m := by
  have h0 : w.cell? ⟨g, 0, none⟩ = some (.slice (some ⟨gb, 0, none⟩) xs.length xs.length) := h.1.cell 0
  have h1 : w.cell? ⟨g, 1, none⟩ = some (.int .i64 k) := h.1.cell 1
  have hk := h.2.2.1
  have hl := h.2.2.2.2
  generalize xs.length = l at *
  clear h
  go_enter Try.func18, Try.ntmps18
  go_wp2
  go_quiet (fail)
  go_wp2
  go_ret
  exact ⟨rfl, _, rfl⟩

theorem Cur.grown {w w' : World} {g gb : Nat} {xs : List Int} {k : Nat} {bad : Bool} (h : Cur w g gb xs k bad) {row : Option Nat} (hb : w.grownBy w' row) (h1 : some g ≠ row) (h2 : some gb ≠ row) : Cur w' g gb xs k bad :=
  ⟨h.1.grown hb h1, h.2.1.grown hb h2, h.2.2⟩
theorem Cur.ne {w : World} {g gb : Nat} {xs : List Int} {k : Nat} {bad : Bool} (h : Cur w g gb xs k bad) : g ≠ gb := h.1.ne h.2.1 (by decide)
theorem Cur.turn {w : World} {g gb : Nat} {xs : List Int} {k : Nat} {bad : Bool} (h : Cur w g gb xs k bad) (k' : Nat) (hk : k' ≤ xs.length) (m : Nat) : Cur ((w.setCell ⟨g, 1, none⟩ (.int .i64 k')).drewN m) g gb xs k' bad :=
  ⟨by have := (h.1.set 1 (.int .i64 k')).drewN m; simpa using this, (h.2.1.far (p := ⟨g, 1, none⟩) h.ne.symm _).drewN m, hk, h.2.2.2⟩
theorem Cur.fail {w : World} {g gb : Nat} {xs : List Int} {k : Nat} {bad : Bool} (h : Cur w g gb xs k bad) (m : Nat) : Cur ((w.setCell ⟨g, 2, none⟩ (.bool true)).drewN m) g gb xs k true :=
  ⟨by have := (h.1.set 2 (.bool true)).drewN m; simpa using this, (h.2.1.far (p := ⟨g, 2, none⟩) h.ne.symm _).drewN m, h.2.2⟩

theorem take_bad (g gb : Nat) (xs : List Int) (k : Nat) (n : Int) (w : World) (h : Cur w g gb xs k true) :
    Calls Try.prog 44 #[.pointer (some ⟨g, 0, none⟩), .int .i64 n] w fun e w' => e = .returned (.slice none 0 0) ∧ w = w' := by
  go_enter Try.func44, Try.ntmps44
  go_wp2_with (go_at_call 17; refine (ok_any g gb xs k true _ h).mono ?_; rintro e w1 ⟨rfl, rfl⟩)
  go_ret
  exact ⟨rfl, rfl⟩

theorem take_no (g gb : Nat) (xs : List Int) (k : Nat) (n : Int) (w : World) (h : Cur w g gb xs k false) (hn : n < 0 ∨ (xs.length : Int) - k < n) :
    Calls Try.prog 44 #[.pointer (some ⟨g, 0, none⟩), .int .i64 n] w fun e w' => e = .returned (.slice none 0 0) ∧ Cur w' g gb xs k true ∧ w.grownBy w' (some g) := by
  have c2 := h.1.cell 2
  have f2 := h.1.free 2
  by_cases h0 : n < 0
  · go_enter Try.func44, Try.ntmps44
    go_wp2_with (go_at_call 17; refine (ok_any g gb xs k false _ h).mono ?_; rintro e w1 ⟨rfl, rfl⟩)
    go_ret
    exact ⟨rfl, h.fail 0, only_set _⟩
  · have h1 : (xs.length : Int) - k < n := by omega
    have hk := h.2.2.1
    have hl := h.2.2.2.2
    go_enter Try.func44, Try.ntmps44
    go_wp2_with (first
      | (go_at_call 17; refine (ok_any g gb xs k false _ h).mono ?_; rintro e w1 ⟨rfl, rfl⟩)
      | (go_at_call 18; refine (left_any g gb xs k false _ h).mono ?_; rintro e w1 ⟨rfl, m, rfl⟩))
    go_ret
    exact ⟨rfl, h.fail m, grown_drewN (only_set _) m⟩

/-- What a read that is not refused gives: a slice that reads as the next n bytes; the cursor has gone past them. -/
def Taken (w : World) (g gb : Nat) (xs : List Int) (k n : Nat) (e : Ending) (w' : World) : Prop :=
  ∃ A c, e = .returned (.slice A n c) ∧ Rd w' w'.heap.size A n (bys ((xs.drop k).take n)) ∧ Cur w' g gb xs (k + n) false ∧ w.grownBy w' (some g)

theorem take_yes (g gb : Nat) (xs : List Int) (k : Nat) (n : Int) (w : World) (h : Cur w g gb xs k false) (h0 : 0 ≤ n) (hn : n ≤ (xs.length : Int) - k) :
    Calls Try.prog 44 #[.pointer (some ⟨g, 0, none⟩), .int .i64 n] w (Taken w g gb xs k n.toNat) := by
  obtain ⟨n, rfl⟩ := Int.eq_ofNat_of_zero_le h0
  rw [Int.toNat_natCast]
  have c0 := h.1.cell 0
  have c1 := h.1.cell 1
  have f1 := h.1.free 1
  have hk := h.2.2.1
  have hl := h.2.2.2.2
  have H := hide h
  clear h
  simp only [List.getElem?_cons_zero, List.getElem?_cons_succ] at c0 c1
  generalize hL : xs.length = l at *
  have HL := hide hL
  clear hL
  have fin : ∀ m q, Cur (((w.drewN m).setCell ⟨g, 1, none⟩ (.int .i64 ((k : Int) + n))).drewN q) g gb xs (k + n) false := fun m q => by
    have := (show Cur (w.drewN m) g gb xs k false from H.out).turn (k + n) (by rw [HL.out]; omega) q
    rwa [Int.natCast_add] at this
  have Fin := hide fin
  clear fin
  by_cases hkl : l = k
  · subst hkl
    obtain rfl : n = 0 := by omega
    go_enter Try.func44, Try.ntmps44
    go_wp2_with (first
      | (go_at_call 17; refine (ok_any g gb xs l false _ H.out).mono ?_; rintro e w1 ⟨rfl, rfl⟩)
      | (go_at_call 18; refine (left_any g gb xs l false _ H.out).mono ?_; rw [HL.out]; rintro e w1 ⟨rfl, m, rfl⟩))
    go_quiet (fail)
    go_wp2
    go_ret
    have hc := Fin.out m nq
    simp only [Int.natCast_zero, Int.add_zero] at hc
    exact ⟨some ⟨gb, 0, none⟩, 0, rfl, by simpa [bys] using Rd.nil _ _ _, hc, grown_trans (grown_drewN (grown_refl w _) m) (grown_drewN (only_set _) nq)⟩
  · go_enter Try.func44, Try.ntmps44
    go_wp2_with (first
      | (go_at_call 17; refine (ok_any g gb xs k false _ H.out).mono ?_; rintro e w1 ⟨rfl, rfl⟩)
      | (go_at_call 18; refine (left_any g gb xs k false _ H.out).mono ?_; rw [HL.out]; rintro e w1 ⟨rfl, m, rfl⟩))
    go_quiet (fail)
    go_wp2
    go_ret
    have hc := Fin.out m nq
    have hr := hc.2.1.rd k n (by rw [bys_len, HL.out]; omega)
    refine ⟨some ⟨gb, k, none⟩, l - k, ?_, ?_, hc, grown_trans (grown_drewN (grown_refl w _) m) (grown_drewN (only_set _) nq)⟩
    · show Ending.returned (.slice (some ⟨gb, k, none⟩) (k + n - k) (l - k)) = _
      rw [Nat.add_sub_cancel_left]
    · simpa [bys, List.map_take, List.map_drop] using hr


/-! ### the reads -/
/-- The number that bytes make, the highest first. -/
def be (xs : List Int) : Int := xs.foldl (fun v b => v * 256 + b) 0
theorem be_snoc (xs : List Int) (b : Int) : be (xs ++ [b]) = be xs * 256 + b := by simp [be]
theorem be_bound (xs : List Int) (h : IsBytes xs) (hl : xs.length ≤ 4) : 0 ≤ be xs ∧ be xs < 4294967296 := by
  match xs, hl with
  | [], _ => simp [be]
  | [a], _ => have := h a (by simp); simp [be]; omega
  | [a, b], _ => have := h a (by simp); have := h b (by simp); simp [be]; omega
  | [a, b, c], _ => have := h a (by simp); have := h b (by simp); have := h c (by simp); simp [be]; omega
  | [a, b, c, d], _ => have := h a (by simp); have := h b (by simp); have := h c (by simp); have := h d (by simp); simp [be]; omega

theorem take_step (ys : List Int) (j : Nat) (h : j < ys.length) : be (ys.take (j + 1)) = be (ys.take j) * 256 + ys.getD j 0 := by
  rw [List.take_succ_eq_append_getElem h, be_snoc]
  simp [List.getD, h]

theorem number_none (g gb : Nat) (xs : List Int) (k : Nat) (n : Int) (bad : Bool) (w : World) (h : Cur w g gb xs k bad) (hn : bad = true ∨ n < 0 ∨ (xs.length : Int) - k < n) :
    Calls Try.prog 32 #[.pointer (some ⟨g, 0, none⟩), .int .i64 n] w fun e w' => e = .returned (.int .i64 0) ∧ Cur w' g gb xs k true ∧ w.grownBy w' (some g) := by
  have hc : Calls Try.prog 44 #[.pointer (some ⟨g, 0, none⟩), .int .i64 n] w fun e w' => e = .returned (.slice none 0 0) ∧ Cur w' g gb xs k true ∧ w.grownBy w' (some g) := by
    rcases bad with _ | _
    · exact take_no g gb xs k n w h (by simpa using hn)
    · exact (take_bad g gb xs k n w h).mono fun e w' ⟨a, b⟩ => ⟨a, b ▸ h, b ▸ grown_refl w _⟩
  have HC := hide hc
  clear hc
  go_enter Try.func32, Try.ntmps32
  go_wp2_with (go_at_call 44; refine HC.out.mono ?_; rintro e w1 ⟨rfl, hc1, hg1⟩)
  go_loop [5, 12] (fun v i => v = .int .i64 0 ∧ i = .int .i64 0) (fun _ _ => 0)
  case atStart => exact ⟨rfl, rfl⟩
  case round =>
    obtain ⟨rfl, rfl⟩ := hrel
    go_wp2
    go_ret
    exact ⟨rfl, hc1, hg1⟩

end Go.Proofs.Ytlgknednfgpgfaa
