/- Class of package names: a range over the library's iterator over the parts of a text. Nothing is claimed here. -/
import Derived.Test.YtjlcocalpjeghaaDoorRangeBox
import Derived.Test.YtjlcocalpjeghaaDoorNames
import Derived.RangeFuncBox
import Derived.Shelf.Abstract
import Derived.OwnWalkIn
import Derived.TacticsInMore
import Derived.LoopNIn
import Derived.LoopIn
namespace Go.Proofs.YtjlcocalpjeghaaDoor
open Go.RowKit Go.Shelf
attribute [local go_sem] Oper.semAt_some

theorem idx_none {l : List UInt8} (h : Lib.indexByte l 47 = -1) : (47 : Int) ∉ l.map (fun b => ((b.toNat : Nat) : Int)) := by
  induction l with
  | nil => simp
  | cons b t ih =>
    unfold Lib.indexByte at h
    have hge := Lib.indexByte_ge t 47
    by_cases hb : b = 47
    · subst hb; simp at h
    · have e : (b == 47) = false := by simpa using hb
      rw [e] at h
      by_cases h1 : Lib.indexByte t 47 = -1
      · intro hm
        rcases List.mem_cons.1 hm with hm | hm
        · apply hb; apply UInt8.toNat_inj.1
          have : ((47 : UInt8).toNat) = 47 := rfl
          have hm' : (47 : Int) = ((b.toNat : Nat) : Int) := hm
          omega
        · exact ih h1 hm
      · have e2 : (Lib.indexByte t 47 == -1) = false := by simpa using h1
        rw [e2] at h
        simp at h
        omega
theorem idx_some {l : List UInt8} : ∀ {k : Nat}, Lib.indexByte l 47 = k → k < l.length ∧ (47 : Int) ∉ (l.map (fun b => ((b.toNat : Nat) : Int))).take k ∧ (l.map (fun b => ((b.toNat : Nat) : Int))).getD k 0 = 47 := by
  induction l with
  | nil => intro k h; simp [Lib.indexByte] at h
  | cons b t ih =>
    intro k h
    unfold Lib.indexByte at h
    have hge := Lib.indexByte_ge t 47
    by_cases hb : b = 47
    · subst hb
      simp at h
      obtain rfl : k = 0 := by omega
      exact ⟨by simp, by simp, rfl⟩
    · have e : (b == 47) = false := by simpa using hb
      rw [e] at h
      by_cases h1 : Lib.indexByte t 47 = -1
      · rw [h1] at h; simp at h
      · have e2 : (Lib.indexByte t 47 == -1) = false := by simpa using h1
        rw [e2] at h
        simp at h
        obtain ⟨j, rfl⟩ : ∃ j, k = j + 1 := ⟨k - 1, by omega⟩
        obtain ⟨i1, i2, i3⟩ := ih (k := j) (by omega)
        refine ⟨by simp; omega, ?_, by simpa using i3⟩
        intro hm
        rw [List.map_cons, List.take_succ_cons] at hm
        rcases List.mem_cons.1 hm with hm | hm
        · apply hb; apply UInt8.toNat_inj.1
          have : ((47 : UInt8).toNat) = 47 := rfl
          omega
        · exact i2 hm
theorem parts_cut {s : ByteArray} {k : Nat} (h : Lib.indexByte s.data.toList 47 = k) : partsL (nums s) = nums (s.extract 0 k) :: partsL (nums (s.extract (k + 1) s.size)) := by
  obtain ⟨h1, h2, h3⟩ := idx_some h
  have := parts_stroke (nums s) 0 k (Nat.zero_le _) (by rw [nums_len, Lib.size_eq]; exact h1) (by simpa [nums] using h2) h3
  rw [nums_from, nums_cut]
  simpa using this
theorem parts_end {s : ByteArray} (h : Lib.indexByte s.data.toList 47 = -1) : partsL (nums s) = [nums s] := partsL_one (idx_none h)

abbrev sStroke : ByteArray := ⟨#[47]⟩

set_option maxHeartbeats 2000000 in
set_option maxRecDepth 1000000 in
theorem splitseq_stops (n : Nat) (hn : 1 ≤ n) (w : World) (s : ByteArray) (hs : s.size ≤ 1000000) (b1 b2 b3 : Nat) (h1 : w.cell? ⟨b1, 0, none⟩ = some (.string sStroke)) (h2 : w.cell? ⟨b2, 0, none⟩ = some (.string s)) (h3 : w.cell? ⟨b3, 0, none⟩ = some (.int .i64 0))
    (hf : w.frozen? ⟨b2, 0, none⟩ = false) (hne1 : b1 ≠ b2) (hne3 : b3 ≠ b2) :
    SeqBox n Tryd.prog 68 #[.pointer (some ⟨b1, 0, none⟩), .pointer (some ⟨b2, 0, none⟩), .pointer (some ⟨b3, 0, none⟩)] b2 (fun xs => xs.map nums = partsL (nums s)) (fun pre => ∃ rest, pre.map nums ++ rest = partsL (nums s)) w := by
  intro l J Jx W hW hJ hJx hY h0
  have l1 := World.block_lt_of_cell? w _ h1
  have l2 := World.block_lt_of_cell? w _ h2
  have l3 := World.block_lt_of_cell? w _ h3
  dsimp only at l1 l2 l3
  have c1 : W.cell? ⟨b1, 0, none⟩ = some (.string sStroke) := (hW.cell (p := ⟨b1, 0, none⟩) l1).trans h1
  have HY := hide hY
  have HJ := hide hJ
  have HJx := hide hJx
  have g1 := hide c1
  have g2 := hide ((hW.cell (p := ⟨b2, 0, none⟩) l2).trans h2)
  have g3 := hide ((hW.cell (p := ⟨b3, 0, none⟩) l3).trans h3)
  have gf := hide ((hW.frozen (p := ⟨b2, 0, none⟩) l2).trans hf)
  have Hl1 := hide l1
  have Hl2 := hide l2
  have Hl3 := hide l3
  clear hY hJ hJx h1 h2 h3 hf hW l1 l2 l3
  refine callsIn_of_wp Tryd.func68 rfl trivial ?_ rfl
  simp only [Tryd.ntmps68, List.size_toArray, List.length_cons, List.length_nil, Nat.reduceAdd, Nat.reduceSub, Array.replicate_succ, Array.replicate_zero, List.push_toArray, List.append_toArray, List.nil_append, List.cons_append]
  gi_wp2
  clear c1
  gi_loopw [7, 8] (fun _ _ wr => ∃ (pre : List ByteArray) (t : ByteArray), wr.cell? ⟨b1, 0, none⟩ = some (.string sStroke) ∧ wr.cell? ⟨b2, 0, none⟩ = some (.string t) ∧ wr.cell? ⟨b3, 0, none⟩ = some (.int .i64 0) ∧ wr.frozen? ⟨b2, 0, none⟩ = false ∧
    t.size ≤ s.size ∧ pre.map nums ++ partsL (nums t) = partsL (nums s) ∧ J pre wr)
    (fun _ _ wr => strLen ((wr.cell? ⟨b2, 0, none⟩).getD undef))
  case atStart => exact ⟨[], s, g1.out, g2.out, g3.out, gf.out, Nat.le_refl _, rfl, h0⟩
  case round =>
    obtain ⟨pre, t, k1, k2, k3, kf, hts, hp, hj⟩ := hrel
    have HI : Hid (∀ W, Calls Tryd.prog 69 #[.string t, .string sStroke] W fun e w' => e = .returned (.int .i64 (Lib.indexByte t.data.toList 47)) ∧ W = w') := hide fun W => (Tryd.strings_Index_one t 47 W).mono fun e w' hh => ⟨hh.1, hh.2.symm⟩
    have hge := Lib.indexByte_ge t.data.toList 47
    have HE := hide (parts_end (s := t))
    have HC := hide (fun k => parts_cut (s := t) (k := k))
    have HK := hide (fun k => (idx_some (l := t.data.toList) (k := k)))
    have Hp := hide hp
    have Hj := hide hj
    have K2 := hide k2
    clear hp hj
    generalize Lib.indexByte t.data.toList 47 = i at *
    by_cases hi : i < 0
    · obtain rfl : i = -1 := by omega
      have HE2 := hide (HE.out rfl)
      obtain ⟨fn, tmps, assign, body, hy, hR⟩ := HY.out pre t wr Hj.out (by omega)
      have HR := hide hR
      clear hR
      gi_wp2_with (refine ⟨trivial, ?_⟩; gi_at_call 69; refine (callsIn_wide.2 (HI.out _)).mono ?_; rintro e w1 ⟨rfl, rfl⟩)
      refine HR.out.mono ?_
      rintro e W3 (⟨rfl, hJ3, hk3⟩ | ⟨rfl, hJx3⟩)
      · have HJ3 := hide hJ3
        clear hJ3 hk3 hy
        gi_wp2
        go_end0
        exact ⟨⟨_, rfl⟩, .inl ⟨pre ++ [t], by rw [List.map_append, ← Hp.out, HE2.out]; rfl, HJ3.out⟩⟩
      · have HJx3 := hide hJx3
        clear hJx3 hy
        gi_wp2
        go_end0
        exact ⟨⟨_, rfl⟩, .inr ⟨pre ++ [t], ⟨[], by rw [List.map_append, ← Hp.out, HE2.out]; simp⟩, HJx3.out⟩⟩
    · obtain ⟨k, rfl⟩ : ∃ k : Nat, i = k := ⟨i.toNat, by omega⟩
      have HC2 := hide (HC.out k rfl)
      have hkl : k < t.size := by rw [Lib.size_eq]; exact (HK.out k rfl).1
      have hkz : (k : Int) < (t.size : Int) := by omega
      obtain ⟨fn, tmps, assign, body, hy, hR⟩ := HY.out pre (t.extract 0 k) wr Hj.out (by rw [← nums_len, nums_cut, List.length_take, List.length_drop, nums_len]; omega)
      have HR := hide hR
      have HZ := hide (show (t.extract (k + 1) t.size).size < t.size by
        rw [← nums_len, nums_from, List.length_drop, nums_len]; omega)
      clear hR hi
      gi_wp2_with (refine ⟨trivial, ?_⟩; gi_at_call 69; refine (callsIn_wide.2 (HI.out _)).mono ?_; rintro e w1 ⟨rfl, rfl⟩)
      refine HR.out.mono ?_
      rintro e W3 (⟨rfl, hJ3, hk3⟩ | ⟨rfl, hJx3⟩)
      · have HJ3 := hide hJ3
        have q1 := (hk3.cell (p := ⟨b1, 0, none⟩) Hl1.out).trans k1
        have q2 := (hk3.cell (p := ⟨b2, 0, none⟩) Hl2.out).trans k2
        have q3 := (hk3.cell (p := ⟨b3, 0, none⟩) Hl3.out).trans k3
        have qf := (hk3.frozen (p := ⟨b2, 0, none⟩) Hl2.out).trans kf
        have Q1 := hide q1
        have Q2 := hide q2
        have Q3 := hide q3
        have Qf := hide qf
        clear hJ3 hk3 hy k1 k2 k3 kf
        gi_wp2
        go_roundw
        case rel =>
          refine ⟨pre ++ [t.extract 0 k], t.extract (k + 1) t.size, ?_, ?_, ?_, ?_, ?_, ?_, ?_⟩
          · rw [World.cell?_setCell_other _ _ _ _ (by simp)]; exact Q1.out
          · exact World.cell?_setCell_same _ _ _ Q2.out
          · rw [World.cell?_setCell_other _ _ _ _ (by simp)]; exact Q3.out
          · rw [World.frozen?_setCell]; exact Qf.out
          · have := HZ.out; omega
          · rw [List.map_append, ← Hp.out, HC2.out]; simp
          · exact HJ.out _ _ _ _ HJ3.out (only_set _) (fun r hr => by cases hr; rfl)
        case measure =>
          rw [World.cell?_setCell_same _ _ _ Q2.out, K2.out]
          exact HZ.out
      · have HJx3 := hide hJx3
        clear hJx3 hy
        gi_wp2
        refine bodyPost_ret (results_none rfl _ _ _) rfl ?_
        exact ⟨⟨_, rfl⟩, .inr ⟨pre ++ [t.extract 0 k], ⟨partsL (nums (t.extract (k + 1) t.size)), by rw [List.map_append, ← Hp.out, HC2.out]; simp⟩, HJx3.out⟩⟩

/-- The world in which the iterator's three boxes are laid. -/
def boxes (s : ByteArray) (w : World) : World := ((w.alloc (.cells #[.string s] 9)).alloc (.cells #[.string sStroke] 9)).alloc (.cells #[.int .i64 0] 3)
abbrev iterV (b : Nat) : Value := .func (.func 68) #[] #[.pointer (some ⟨b + 1, 0, none⟩), .pointer (some ⟨b, 0, none⟩), .pointer (some ⟨b + 2, 0, none⟩)]
theorem splitseq_in (s : ByteArray) (w : World) : Calls Tryd.prog 59 #[.string s, .string sStroke, .int .i64 0] w fun e w' => e = .returned (iterV w.heap.size) ∧ boxes s w = w' := by
  go_enter Tryd.func59, Tryd.ntmps59
  go_wp2_with fail
  go_ret
  exact ⟨rfl, rfl⟩
theorem splitseq_any (s : ByteArray) (w : World) : Calls Tryd.prog 47 #[.string s, .string sStroke] w fun e w' => e = .returned (iterV w.heap.size) ∧ boxes s w = w' := by
  go_enter Tryd.func47, Tryd.ntmps47
  go_wp2_with fail
  refine (splitseq_in s w).mono ?_
  rintro e w1 ⟨rfl, h⟩
  have H := hide h
  clear h
  go_wp2_with fail
  go_ret
  exact ⟨rfl, H.out⟩

set_option maxRecDepth 1000000 in
theorem class_long (s : ByteArray) (w : World) (h : 255 < s.size) : Calls Tryd.prog 32 #[.string s] w (Tells false w) := by
  have h' : (255 : Int) < (s.size : Int) := by omega
  go_enter Tryd.func32, Tryd.ntmps32
  go_wp2_with fail
  refine bodyPost_ret (v := .bool false) (by simp [results, Tryd.f32, go_sem]) rfl ⟨rfl, ?_⟩
  exact (Below.refl _ _).alloc (Nat.le_refl _) _

theorem boxes_size (s : ByteArray) (w : World) : (boxes s w).heap.size = w.heap.size + 3 := by simp [boxes]
theorem boxes_at (s : ByteArray) (w : World) : Boxed (boxes s w) w.heap.size 9 (.string s) ∧ Boxed (boxes s w) (w.heap.size + 1) 9 (.string sStroke) ∧ Boxed (boxes s w) (w.heap.size + 2) 3 (.int .i64 0) := by
  refine ⟨?_, ?_, ?_⟩
  · exact ((Below.heap_alloc _ _ _ (by simp; omega)).trans (Below.heap_alloc _ _ _ (by simp))).trans (World.alloc_heap_new w _)
  · refine (Below.heap_alloc _ _ _ (by simp)).trans ?_
    have := World.alloc_heap_new (w.alloc (.cells #[.string s] 9)) (.cells #[.string sStroke] 9)
    rwa [World.size_alloc] at this
  · have := World.alloc_heap_new ((w.alloc (.cells #[.string s] 9)).alloc (.cells #[.string sStroke] 9)) (.cells #[.int .i64 0] 3)
    rwa [World.size_alloc, World.size_alloc] at this
theorem boxes_below (s : ByteArray) (w : World) : Below w.heap.size w (boxes s w) :=
  (((Below.refl _ w).alloc (Nat.le_refl _) _).alloc (by simp) _).alloc (by simp; omega) _

/-- What lies behind each round: the result's box holds what it held, and nothing old has turned. -/
def ClassK (w W : World) : Prop := Boxed W w.heap.size 4 (.bool false) ∧ Below w.heap.size w W ∧ w.heap.size + 4 ≤ W.heap.size
/-- Between two rounds: all that has come is plain; the result's box holds what it held. -/
def ClassI (w : World) (pre : List ByteArray) (W : World) : Prop := (pre.all fun x => plainB (nums x)) = true ∧ ClassK w W
/-- Where a round has left: what came last is not plain. -/
def ClassX (w : World) (c : Code) (pre : List ByteArray) (W : World) : Prop := c = .ret ∧ (pre.all fun x => plainB (nums x)) = false ∧ ClassK w W
theorem class_own (w : World) : OwnFrom (w.heap.size + 4) (fun (_ : List ByteArray) W => ClassK w W) := fun _ A B row hs hg hr =>
  ⟨hs.1.kept hg (fun e => by have := (hr _ e.symm).1; omega), hs.2.1.grown hg hs.2.1.size (fun k hk => by have := (hr k hk).1; omega), Nat.le_trans hs.2.2 hg.size⟩
theorem class_box (w : World) (b : Nat) (hb : w.heap.size < b) : AbBox b (fun (_ : List ByteArray) W => ClassK w W) := fun _ A B row hs hg hr =>
  ⟨hs.1.kept hg (fun e => by have := hr _ e.symm; omega), hs.2.1.grown hg hs.2.1.size (fun k hk => by have := hr k hk; omega), Nat.le_trans hs.2.2 hg.size⟩

set_option maxHeartbeats 2000000 in
set_option maxRecDepth 1000000 in
theorem class_short (s : ByteArray) (w : World) (h : s.size ≤ 255) : Calls Tryd.prog 32 #[.string s] w (Tells (classB (nums s)) w) := by
  obtain ⟨D, hD⟩ : ∃ D, classB (nums s) = D := ⟨_, rfl⟩
  rw [hD]
  have HD : Hid (D = (partsL (nums s)).all plainB) := hide (by rw [← hD]; exact classB_short (by rw [nums_len]; omega))
  have HS : Hid (∀ W, Calls Tryd.prog 47 #[.string s, .string sStroke] W fun e w' => e = .returned (iterV W.heap.size) ∧ boxes s W = w') := hide fun W => splitseq_any s W
  have h' : (s.size : Int) ≤ (255 : Int) := by omega
  have hdec : decide ((255 : Int) < (s.size : Int)) = false := decide_eq_false (by omega)
  have HPL : Hid (∀ (x : ByteArray) (W : World), x.size ≤ 1000000 → Calls Tryd.prog 48 #[.string x] W (Tells (plainB (nums x)) W)) := hide plain_any
  clear hD
  refine (callsIn_wide (n := 3)).1 ?_
  refine callsIn_of_wp_marks Tryd.func32 rfl trivial ?_ rfl
  simp only [Tryd.ntmps32, List.size_toArray, List.length_cons, List.length_nil, Nat.reduceAdd, Nat.reduceSub, Array.replicate_succ, Array.replicate_zero, List.push_toArray, List.append_toArray, List.nil_append, List.cons_append]
  gi_wp2_with (refine ⟨trivial, ?_⟩; gi_at_call 47; refine (callsIn_wide.2 (HS.out _)).mono ?_; rintro e w1 ⟨rfl, hw1⟩)
  have hsz0 : (w.alloc (.cells #[.bool false] 4)).heap.size = w.heap.size + 1 := by simp
  obtain ⟨k1, k2, k3⟩ := boxes_at s (w.alloc (.cells #[.bool false] 4))
  have kb := boxes_below s (w.alloc (.cells #[.bool false] 4))
  have kz := boxes_size s (w.alloc (.cells #[.bool false] 4))
  rw [hw1, hsz0] at k1 k2 k3 kb
  rw [hw1, hsz0] at kz
  have kr : Boxed w1 w.heap.size 4 (.bool false) := (kb.block _ (by omega)).trans (World.alloc_heap_new w _)
  have hb1 : Below w.heap.size w w1 := ((Below.refl _ w).alloc (Nat.le_refl _) _).trans (kb.mono (by omega))
  have e2 : w.heap.size + 1 + 1 = w.heap.size + 2 := by omega
  have e3 : w.heap.size + 1 + 2 = w.heap.size + 3 := by omega
  rw [e2] at k2
  rw [e3] at k3
  clear hw1 hsz0
  have hz : ∀ x : ByteArray, ∃ b, plainB (nums x) = b := fun x => ⟨_, rfl⟩
  refine range_box (n := 3) (by decide) (gf := 68) (lb := #[.pointer (some ⟨w.heap.size + 1 + 1, 0, none⟩), .pointer (some ⟨w.heap.size + 1, 0, none⟩), .pointer (some ⟨w.heap.size + 1 + 2, 0, none⟩)]) rfl (enters_of Tryd.func68 (by kernel_rfl) rfl)
    (bs := w.heap.size + 1) (by omega) (splitseq_stops 2 (by decide) w1 s (by omega) (w.heap.size + 1 + 1) (w.heap.size + 1) (w.heap.size + 1 + 2) (by rw [e2]; exact k2.cell) k1.cell (by rw [e3]; exact k3.cell) k1.frozen (by omega) (by omega)) rfl
    (ClassI w) (ClassX w) ?own ?ownx ?box ?boxx ⟨rfl, kr, hb1, by omega⟩
    (fun x => { tmps := #[.string s, undef, .pointer (some ⟨w.heap.size, 0, none⟩), .string x, .string s, .int .i64 s.size, .bool false, .string s, iterV (w.heap.size + 1), .string x, undef, undef, undef], defers := [] }) ?assign ?body ?done ?stop
  case own => rw [kz]; exact OwnFrom.and (ownFrom_pure _ _) (class_own w)
  case ownx => rw [kz]; exact fun c => OwnFrom.and (ownFrom_pure _ _) (OwnFrom.and (ownFrom_pure _ _) (class_own w))
  case box => exact fun t A B row hs hg hr => ⟨hs.1, class_box w _ (by omega) t A B row hs.2 hg hr⟩
  case boxx => exact fun c t A B row hs hg hr => ⟨hs.1, hs.2.1, class_box w _ (by omega) t A B row hs.2.2 hg hr⟩
  case assign =>
    intro l x W K hK
    gi_wp2
    exact hK
  case body =>
    rintro l pre x W ⟨hp, hr, hb, hws⟩ hxs
    have HP := hide hp
    have hcr := hr.cell
    have hfr := hr.frozen
    have Hr := hide hr
    have Hb := hide hb
    have HC := hide (HPL.out x W hxs)
    have Hkz := hide kz
    have Hws := hide hws
    clear hp hr hb hws k1 k2 k3 kb kz kr hb1 e2 e3 hz
    cases hpx : plainB (nums x)
    · rw [hpx] at HC
      have HX : Hid (((pre ++ [x]).all fun x => plainB (nums x)) = false) := hide (by rw [List.all_append]; simp [hpx])
      clear hpx
      gi_wp2_with fail
      refine ⟨trivial, ?_⟩
      refine (CallsIn.inRound l (callsIn_wide.2 HC.out)).mono ?_
      rintro e w2 ⟨rfl, hb2⟩
      have hr2 : Boxed w2 w.heap.size 4 (.bool false) := (hb2.block _ Hr.out.lt).trans Hr.out
      have hcr2 := hr2.cell
      have hfr2 := hr2.frozen
      have Hr2 := hide hr2
      have Hb2 := hide hb2
      clear hr2 hb2 hcr hfr
      gi_wp2
      exact ⟨⟨Nat.le_trans Hb2.out.size (by simp), fun k o hk ho _ => (Below.heap_setCell _ _ _ _ (by have := Hkz.out; intro e; simp at e; omega)).trans ((Hb2.out.block k (Array.getElem?_eq_some_iff.1 ho).1).trans ho)⟩, rfl, HX.out, Hr2.out.set _, (Hb.out.trans (Hb2.out.mono Hb.out.size)).setCell (Nat.le_refl _) _, Nat.le_trans Hws.out (Nat.le_trans Hb2.out.size (by simp))⟩
    · rw [hpx] at HC
      have HX : Hid (((pre ++ [x]).all fun x => plainB (nums x)) = true) := hide (by rw [List.all_append, HP.out]; simp [hpx])
      clear hpx
      gi_wp2_with fail
      refine ⟨trivial, ?_⟩
      refine (CallsIn.inRound l (callsIn_wide.2 HC.out)).mono ?_
      rintro e w2 ⟨rfl, hb2⟩
      have hr2 : Boxed w2 w.heap.size 4 (.bool false) := (hb2.block _ Hr.out.lt).trans Hr.out
      have hcr2 := hr2.cell
      have hfr2 := hr2.frozen
      have Hr2 := hide hr2
      have Hb2 := hide hb2
      clear hr2 hb2 hcr hfr
      gi_wp2
      exact ⟨⟨Hb2.out.size, fun k o _ ho _ => (Hb2.out.block k (Array.getElem?_eq_some_iff.1 ho).1).trans ho⟩, Hb2.out.mono (by rw [Hkz.out]; exact Hws.out), HX.out, Hr2.out, Hb.out.trans (Hb2.out.mono Hb.out.size), Nat.le_trans Hws.out Hb2.out.size⟩
  case done =>
    rintro D' xs W hD' hS ⟨hp, hr, hb, _⟩ hK
    have HB : Hid (D = true) := hide (by rw [HD.out, ← hS, List.all_map]; exact hp)
    have hcr := hr.cell
    have hfr := hr.frozen
    have Hr := hide hr
    have Hb := hide hb
    have HK := hide hK
    have Hkz := hide kz
    clear hp hr hb k1 k2 k3 kb kz kr hb1 e2 e3 hz hS hK
    gi_wp2
    have hK' := (KeepsOthers.setCell W ⟨w.heap.size, 0, none⟩ (.bool true)).same D' _ HK.out rfl
    refine ⟨by simp, .inl ⟨_, _, rfl, run_takeDeferred hK', ?_⟩⟩
    have hc5 := cell_kept (World.cell?_setCell_same' W ⟨w.heap.size, 0, none⟩ (.bool true) (by rw [hcr]; rfl)) (grownBy_putObj' _ D' (.deferred none)) (fun r e => by cases e; exact ⟨_, hK', rfl⟩)
    refine ⟨.bool true, ?_, ret_bool HB.out.symm, ?_⟩
    · simp [results, Tryd.f32, go_sem, hc5]
    · exact (Hb.out.setCell (p := ⟨w.heap.size, 0, none⟩) (Nat.le_refl _) _).trans (belowK_b (w := w) (Nat.le_refl _) _ D' _ _ (by have := Hkz.out; omega) hK' rfl rfl)
  case stop =>
    rintro D' c pre W hD' ⟨rest, hS⟩ ⟨rfl, hp, hr, hb, _⟩ hK
    have HB : Hid (D = false) := hide (by rw [HD.out, ← hS, List.all_append, List.all_map]; simp only [Function.comp_def, hp, Bool.false_and])
    have hcr := hr.cell
    have Hr := hide hr
    have Hb := hide hb
    have HK := hide hK
    have Hkz := hide kz
    clear hp hr hb k1 k2 k3 kb kz kr hb1 e2 e3 hz hS hK
    gi_wp2
    refine ⟨by simp, .inl ⟨_, _, rfl, run_takeDeferred HK.out, ?_⟩⟩
    have hc5 := cell_kept hcr (grownBy_putObj' _ D' (.deferred none)) (fun r e => by cases e; exact ⟨_, HK.out, rfl⟩)
    refine ⟨.bool false, ?_, ret_bool HB.out.symm, ?_⟩
    · simp [results, Tryd.f32, go_sem, hc5]
    · exact Hb.out.trans (belowK_b (w := w) (Nat.le_refl _) _ D' _ _ (by have := Hkz.out; omega) HK.out rfl rfl)

theorem class_any (s : ByteArray) (w : World) : Calls Tryd.prog 32 #[.string s] w (Tells (classB (nums s)) w) := by
  by_cases h : 255 < s.size
  · rw [classB_long (by rw [nums_len]; exact h)]
    exact class_long s w h
  · exact class_short s w (by omega)
end Go.Proofs.YtjlcocalpjeghaaDoor
