/- Texts of one stage, merged. Nothing is claimed here. -/
import Derived.Test.YtbdbcalmjbmflaaGreatDoorPackB
import Derived.Test.YtbdbcalmjbmflaaGreatDoorShelf
import Derived.Lib.OthersKept
import Derived.Laws.Runes
import Derived.IntWalk
import Derived.Lib.Replace
import Derived.Lib.SplitLaws
import Derived.Lib.IndexBytes
import Derived.Test.YtbdbcalmjbmflaaGreatDoorPackA
import Derived.RangeFuncNested
import Derived.RangeFuncBound
import Derived.RangeFuncLeaves
import Derived.RangeFuncBox
import Derived.Shelf.Abstract
import Derived.OwnWalkIn
import Derived.TacticsInMore
import Derived.LoopNIn
import Derived.LoopIn
namespace Go.Proofs.YtbdbcalmjbmflaaGreatDoor
open Go.RowKit

theorem iterPos_of {w : World} {k : Nat} {s : ByteArray} {p : Nat} (h : w.heap[k]? = some (.stringIter s p)) : w.iterPos k = p := by simp [World.iterPos, h]

/-- A call that leaves each world alone, in a second region that draws. -/
theorem quiet_behind {P : Program} {f : FuncId} {args : Array Value} {w : World} {a n : Nat} {v : Value} (h : ∀ W, Calls P f args W fun e w' => e = .returned v ∧ W = w') :
    Calls P f args (w.drewN (a + n)) fun e w'' => e = .returned v ∧ ∃ m, w'' = w.drewN (a + m) := (h _).mono fun _ _ hh => ⟨hh.1, n, hh.2.symm⟩

/-- Bytes that are no char of ASCII do not stand in a text of ASCII. -/
def IsAscii (s : ByteArray) : Prop := ∀ (j : Nat) b, s.data.toList[j]? = some b → b.toNat < 128
theorem ascii_at {s : ByteArray} (h : IsAscii s) (k : Nat) (hk : k < s.size) : (s[k].toNat : Int) < 128 := by
  have := h k s[k] (Lib.data_getElem? s k hk)
  omega
theorem ascii_from {s : ByteArray} (h : IsAscii s) (n : Nat) : IsAscii (s.extract n s.size) := by
  intro j b hb
  rw [Lib.extract_to_end, List.getElem?_drop] at hb
  exact h _ _ hb
theorem ascii_no {l : List UInt8} (h : ∀ (j : Nat) b, l[j]? = some b → b.toNat < 128) (c : UInt8) (hc : 128 ≤ c.toNat) : Lib.indexByte l c = -1 := by
  induction l with
  | nil => rfl
  | cons b t ih =>
    have hb := h 0 b rfl
    have e : (b == c) = false := by
      rw [beq_eq_false_iff_ne]
      rintro rfl
      omega
    rw [Lib.indexByte, e, ih (fun j x hx => h (j + 1) x hx)]
    rfl

/-- The last byte of a rune beyond ASCII. -/
theorem encode_last (r : Int) (h : 128 ≤ r) : ∃ m b, (Utf8.encode r).size = m + 1 ∧ m ≤ 3 ∧ (Utf8.encode r).data.toList[m]? = some b ∧ 128 ≤ b.toNat := by
  have hb : ∀ n : Nat, n < 64 → 128 ≤ (UInt8.ofNat (128 + n)).toNat := fun n hn => by simp; omega
  unfold Utf8.encode
  dsimp only
  have hc : 128 ≤ (if Utf8.valid r = true then r.toNat else Utf8.runeError) := by
    split
    · omega
    · decide
  generalize (if Utf8.valid r = true then r.toNat else Utf8.runeError) = c at *
  rw [if_neg (by omega)]
  split
  · exact ⟨1, _, rfl, by omega, rfl, hb _ (by omega)⟩
  · split
    · exact ⟨2, _, rfl, by omega, rfl, hb _ (by omega)⟩
    · exact ⟨3, _, rfl, by omega, rfl, hb _ (by omega)⟩

set_option maxHeartbeats 4000000 in
set_option maxRecDepth 1000000 in
/-- A rune beyond ASCII does not stand in a text of ASCII. -/
theorem indexrune_no (s : ByteArray) (r : Int) (w : World) (hs : IsAscii s) (_hz : s.size ≤ 1000000) (h : 128 ≤ r) (hr : r ≤ 2147483647) :
    Calls Tryz.prog 117 #[.string s, .int .i32 r] w fun e w' => e = .returned (.int .i64 (-1)) ∧ Below w.heap.size w w' := by
  have HS := hide hs
  clear hs
  by_cases he : r = 65533
  · subst he
    clear h hr
    go_enter Tryz.func117, Tryz.ntmps117
    go_wp2_with fail
    have h0 : (w.iter s 0).heap[w.heap.size]? = some (.stringIter s 0) := World.iter_heap w s 0
    have hb0 : Below w.heap.size w (w.iter s 0) := (Below.refl _ _).alloc (Nat.le_refl _) _
    go_loopw [5, 6] (fun _ _ wr => ∃ p : Nat, p ≤ s.size ∧ wr.heap[w.heap.size]? = some (.stringIter s p) ∧ Below w.heap.size w wr) (fun _ _ wr => s.size - wr.iterPos w.heap.size)
    case atStart => exact ⟨0, Nat.zero_le _, h0, hb0⟩
    case round =>
      obtain ⟨p, hp, hit, hb⟩ := hrel
      have Hb := hide hb
      have hpos := iterPos_of hit
      clear hb
      by_cases hlt : p < s.size
      · have hnx : ∀ ty, (Instr.next (.pointer (some ⟨w.heap.size, 0, none⟩)) true ty).run Tryz.prog wr = _ := fun ty => Lib.run_next_ascii_at wr w.heap.size s p ty hit hlt (by have := ascii_at HS.out p hlt; omega)
        have ha := ascii_at HS.out p hlt
        have Hit := hide (Lib.iterAt_heap wr w.heap.size s p (p + 1) hit)
        have Hb2 := hide (Lib.below_iterAt Hb.out (Nat.le_refl _) s (p + 1))
        have Hpos := hide hpos
        have hne : (((s[p].toNat : Nat) : Int) == 65533) = false := by simp; omega
        clear hit hpos
        go_wp2_with fail
        go_roundw
        case rel => exact ⟨p + 1, by omega, Hit.out, Hb2.out⟩
        case measure => rw [iterPos_of Hit.out, Hpos.out]; omega
      · have hnx : ∀ ty, (Instr.next (.pointer (some ⟨w.heap.size, 0, none⟩)) true ty).run Tryz.prog wr = _ := fun ty => Lib.run_next_end_at wr w.heap.size s p ty hit hlt
        clear hit hpos
        go_wp2_with fail
        go_ret
        exact ⟨rfl, Hb.out⟩
  · have he' : (r == 65533) = false := by simpa using he
    have HV : Hid (∀ W, ∃ v, Calls Tryz.prog 136 #[.int .i32 r] W fun e w' => e = .returned (.bool v) ∧ W = w') := hide fun W => ⟨_, (Tryz.utf8_ValidRune r W).mono fun e w' h => ⟨h.1, h.2.symm⟩⟩
    obtain ⟨v, hv⟩ := HV.out w
    have Hv := hide hv
    clear he hv HV
    cases v
    · go_enter Tryz.func117, Tryz.ntmps117
      go_wp2_with (go_at_call 136; refine Hv.out.mono ?_; rintro e w1 ⟨rfl, rfl⟩)
      go_ret
      exact ⟨rfl, Below.refl _ _⟩
    · obtain ⟨m, b, h1, h2, h3, h4⟩ := encode_last r h
      have hcv : ∀ W, (convert 21 9 (.int .i32 r)).run Tryz.prog W = .ok (.string (Utf8.encode r)) W := fun W => run_convert_int_string W 21 9 .i32 r (by kernel_rfl) Tryz.underlying9
      generalize Utf8.encode r = rs at *
      have hrs : m < rs.size := by omega
      have hb : rs[m] = b := by
        have := Lib.data_getElem? rs m hrs
        rw [this] at h3
        exact Option.some.inj h3
      have Hrs := hide h1
      have hsz : (rs.size : Int) - 1 = (m : Int) := by omega
      clear h1 h3
      by_cases hlt : m < s.size
      · have ha := ascii_at HS.out m hlt
        have hne : (((s[m].toNat : Nat) : Int) == ((b.toNat : Nat) : Int)) = false := by simp; omega
        have hne' : (((s[m].toNat : Nat) : Int) != ((b.toNat : Nat) : Int)) = true := by simp; omega
        have HI : Hid (∀ W, Calls Tryz.prog 134 #[.string (s.extract (m + 1) s.size), .int .u8 ((b.toNat : Nat) : Int)] W fun e w' => e = .returned (.int .i64 (-1)) ∧ W = w') := hide fun W => by
          refine (Tryz.strings_IndexByte (s.extract (m + 1) s.size) ((b.toNat : Nat) : Int) W).mono fun e w' hh => ⟨hh.1.trans ?_, hh.2.symm⟩
          rw [ascii_no (ascii_from HS.out _) _ (by simpa using h4)]
        go_enter Tryz.func117, Tryz.ntmps117
        go_wp2_with (go_at_call 136; refine Hv.out.mono ?_; rintro e w1 ⟨rfl, rfl⟩)
        go_step3
        go_wp2_with fail
        go_loopw [9, 10] (fun iv fv wr => iv = .int .i64 (m : Int) ∧ fv = .int .i64 0 ∧ wr = w) (fun _ _ _ => 0)
        case atStart => exact ⟨rfl, rfl, rfl⟩
        case round =>
          obtain ⟨rfl, rfl, rfl⟩ := hrel
          have hlt' : (m : Int) < (s.size : Int) := by omega
          have hrs' : (m : Int) < (rs.size : Int) := by omega
          have q1 : IntKind.i64.wrap ((m : Int) + 1) = (m : Int) + 1 := IntWalk.i64_in _ (by omega)
          have q2 : 0 ≤ (m : Int) + 1 := by omega
          have q3 : ((m : Int) + 1).toNat = m + 1 := by omega
          have q4 : (m : Int) + 1 ≤ (s.size : Int) := by omega
          go_wp2_with fail
          go_step3
          go_wp2_with fail
          go_quiet (fail)
          go_wp2_with fail
          go_quiet ((go_at_call 134; exact quiet_behind HI.out))
          clear q1 q2 q3
          go_wp2_with fail
          simp +zetaDelta only [Exit.noGoto_ret, Exit.inBlock, Exit.then]
          go_ret
          exact ⟨rfl, below_drewN (Below.refl _ _) _⟩
      · go_enter Tryz.func117, Tryz.ntmps117
        go_wp2_with (go_at_call 136; refine Hv.out.mono ?_; rintro e w1 ⟨rfl, rfl⟩)
        go_step3
        go_wp2_with fail
        go_loopw [9, 10] (fun iv fv wr => iv = .int .i64 (m : Int) ∧ fv = .int .i64 0 ∧ wr = w) (fun _ _ _ => 0)
        case atStart => exact ⟨rfl, rfl, rfl⟩
        case round =>
          obtain ⟨rfl, rfl, rfl⟩ := hrel
          go_wp2_with fail
          simp +zetaDelta only [Exit.noGoto_ret, Exit.inBlock]
          go_ret
          exact ⟨rfl, Below.refl _ _⟩

theorem get_num (s : ByteArray) (k : Nat) (h : k < s.size) : ((s.get! k).toNat : Int) = (nums s).getD k 0 := by
  rw [num_at s k h]
  have : s.get! k = s[k] := by simp [ByteArray.get!, getElem!_pos, h]; rfl
  rw [this]
/-- What a rune beyond ASCII takes of a text. -/
theorem decode_wide (s : ByteArray) (p : Nat) (h : p < s.size) (ha : 128 ≤ (nums s).getD p 0) :
    p + (Utf8.decode s p).2 ≤ s.size ∧ 1 ≤ (Utf8.decode s p).2 ∧ ∀ j, p ≤ j → j < p + (Utf8.decode s p).2 → 128 ≤ (nums s).getD j 0 := by
  have h0 : 128 ≤ (s.get! (p + 0)).toNat := by have := get_num s p h; rw [Nat.add_zero]; omega
  have hk : ∀ k, (decide (p + k < s.size) && (s.get! (p + k)).toNat / 64 == 2) = true → p + k < s.size ∧ 128 ≤ (nums s).getD (p + k) 0 := fun k hh => by
    simp at hh
    have := get_num s (p + k) hh.1
    exact ⟨hh.1, by omega⟩
  have one : p + 1 ≤ s.size ∧ 1 ≤ 1 ∧ ∀ j, p ≤ j → j < p + 1 → 128 ≤ (nums s).getD j 0 := ⟨by omega, by omega, fun j h1 h2 => by rw [show j = p by omega]; exact ha⟩
  unfold Utf8.decode
  dsimp only
  rw [if_neg (by omega)]
  split
  · rename_i c
    simp only [Bool.and_eq_true] at c
    have k1 := hk 1 (by simpa using c.2)
    split
    · exact ⟨by omega, by omega, fun j h1 h2 => by
        rcases (by omega : j = p ∨ j = p + 1) with rfl | rfl
        · exact ha
        · exact k1.2⟩
    · exact one
  · split
    · rename_i c
      simp only [Bool.and_eq_true] at c
      have k1 := hk 1 (by simpa using c.1.2)
      have k2 := hk 2 (by simpa using c.2)
      split
      · exact ⟨by omega, by omega, fun j h1 h2 => by
          rcases (by omega : j = p ∨ j = p + 1 ∨ j = p + 2) with rfl | rfl | rfl
          · exact ha
          · exact k1.2
          · exact k2.2⟩
      · exact one
    · split
      · rename_i c
        simp only [Bool.and_eq_true] at c
        have k1 := hk 1 (by simpa using c.1.1.2)
        have k2 := hk 2 (by simpa using c.1.2)
        have k3 := hk 3 (by simpa using c.2)
        split
        · exact ⟨by omega, by omega, fun j h1 h2 => by
            rcases (by omega : j = p ∨ j = p + 1 ∨ j = p + 2 ∨ j = p + 3) with rfl | rfl | rfl | rfl
            · exact ha
            · exact k1.2
            · exact k2.2
            · exact k3.2⟩
        · exact one
      · exact one

theorem hasB_skip {cs l : List Int} {p : Nat} (hcs : ∀ c ∈ cs, c < 128) : ∀ d, p + d ≤ l.length → (∀ j, p ≤ j → j < p + d → 128 ≤ l.getD j 0) → hasB cs (l.take p) = false → hasB cs (l.take (p + d)) = false
  | 0, _, _, h => h
  | d + 1, hl, hj, h => by
    have ih := hasB_skip hcs d (by omega) (fun j h1 h2 => hj j h1 (by omega)) h
    refine hasB_take (k := p + d) (by omega) ih ?_
    have h1 := hj (p + d) (by omega) (by omega)
    cases e : cs.contains (l.getD (p + d) 0)
    · rfl
    · have := hcs _ (List.contains_iff_mem.1 e)
      omega

theorem ascii_nums {s : ByteArray} (h : IsAscii s) : ∀ c ∈ nums s, c < 128 := by
  intro c hc
  simp only [nums, List.mem_map] at hc
  obtain ⟨b, hb, rfl⟩ := hc
  obtain ⟨j, hj⟩ := List.getElem?_of_mem hb
  have := h j b hj
  omega
theorem contains_nums (s : ByteArray) (b : UInt8) : (nums s).contains ((b.toNat : Nat) : Int) = s.data.toList.contains b := by
  rw [Bool.eq_iff_iff]
  simp only [List.contains_iff_mem, nums, List.mem_map]
  constructor
  · rintro ⟨x, hx, e⟩
    have : x = b := UInt8.toNat_inj.1 (by omega)
    exact this ▸ hx
  · exact fun h => ⟨b, h, rfl⟩
theorem indexAny_has (l cs : List UInt8) (s : ByteArray) (hs : s.data.toList = cs) : decide (0 ≤ Lib.indexAny l cs) = hasB (nums s) (l.map fun b => ((b.toNat : Nat) : Int)) := by
  induction l with
  | nil => rfl
  | cons b t ih =>
    have hge := Lib.indexAny_ge cs t
    have e : hasB (nums s) ((b :: t).map fun b => ((b.toNat : Nat) : Int)) = (cs.contains b || hasB (nums s) (t.map fun b => ((b.toNat : Nat) : Int))) := by
      simp only [hasB, List.map_cons, List.any_cons, contains_nums, hs]
    rw [e, ← ih, Lib.indexAny]
    cases hc : cs.contains b
    · by_cases h1 : Lib.indexAny t cs = -1
      · rw [h1]; rfl
      · have h2 : (Lib.indexAny t cs == -1) = false := by simpa using h1
        simp only [Bool.false_eq_true, if_false, h2, Bool.false_or]
        have : 0 ≤ Lib.indexAny t cs := by omega
        simp [this]; omega
    · simp

/-- What IndexAny tells. -/
def AnyTells (b : Bool) (w : World) (e : Ending) (w' : World) : Prop := ∃ r : Int, decide (0 ≤ r) = b ∧ e = .returned (.int .i64 r) ∧ Below w.heap.size w w'
theorem AnyTells.no {b : Bool} {w w' : World} {e : Ending} (h : b = false) (he : e = .returned (.int .i64 (-1))) (hb : Below w.heap.size w w') : AnyTells b w e w' := ⟨-1, by rw [h]; rfl, he, hb⟩
theorem AnyTells.yes {b : Bool} {w w' : World} {e : Ending} (n : Nat) (h : b = true) (he : e = .returned (.int .i64 n)) (hb : Below w.heap.size w w') : AnyTells b w e w' := ⟨n, by rw [h]; simp, he, hb⟩

set_option maxHeartbeats 4000000 in
set_option maxRecDepth 1000000 in
theorem indexany_short (s cs : ByteArray) (w : World) (h8 : s.size ≤ 8) (hc2 : 2 ≤ cs.size) (hcz : cs.size ≤ 1000000) (hcs : IsAscii cs) :
    Calls Tryz.prog 95 #[.string s, .string cs] w (AnyTells (hasB (nums cs) (nums s)) w) := by
  obtain ⟨D, hD⟩ : ∃ D, hasB (nums cs) (nums s) = D := ⟨_, rfl⟩
  rw [hD]
  have HD := hide hD
  have HS := hide hcs
  have hemp : cs.toList.isEmpty = false := by
    rw [Lib.toList_data]
    cases h : cs.data.toList with
    | nil => have := Lib.size_eq cs; rw [h, List.length_nil] at this; omega
    | cons _ _ => rfl
  have hn1 : ((cs.size : Int) == 1) = false := beq_eq_false_iff_ne.2 (by omega)
  have h8z : decide ((8 : Int) < (s.size : Int)) = false := decide_eq_false (by omega)
  have HU : Hid (∀ W, Calls Tryz.prog 118 #[.int .i64 (s.size : Int)] W fun e w' => e = .returned (.bool false) ∧ W = w') := hide fun W => (Tryz.strings_shouldUseASCIISet _ W).mono fun e w' hh => ⟨by rw [hh.1, h8z], hh.2.symm⟩
  clear hD hcs h8z
  go_enter Tryz.func95, Tryz.ntmps95
  go_wp2_with (go_at_call 118; refine (HU.out _).mono ?_; rintro e w1 ⟨rfl, rfl⟩)
  have h0 : (w.iter s 0).heap[w.heap.size]? = some (.stringIter s 0) := World.iter_heap w s 0
  have hb0 : Below w.heap.size w (w.iter s 0) := (Below.refl _ _).alloc (Nat.le_refl _) _
  go_loopw [9, 10] (fun _ _ wr => ∃ p : Nat, p ≤ s.size ∧ wr.heap[w.heap.size]? = some (.stringIter s p) ∧ Below w.heap.size w wr ∧ hasB (nums cs) ((nums s).take p) = false) (fun _ _ wr => s.size - wr.iterPos w.heap.size)
  case atStart => exact ⟨0, Nat.zero_le _, h0, hb0, rfl⟩
  case round =>
    obtain ⟨p, hp, hit, hb, hh⟩ := hrel
    have Hb := hide hb
    have HH := hide hh
    have hpos := hide (iterPos_of hit)
    clear hb hh
    by_cases hlt : p < s.size
    · have hsl : p < (nums s).length := by rw [nums_len]; exact hlt
      have HN := hide (num_at s p hlt)
      by_cases ha : ((s[p].toNat : Nat) : Int) < 128
      · have hnx : ∀ ty, (Instr.next (.pointer (some ⟨w.heap.size, 0, none⟩)) true ty).run Tryz.prog wr = _ := fun ty => Lib.run_next_ascii_at wr w.heap.size s p ty hit hlt (by omega)
        have Hit := hide (Lib.iterAt_heap wr w.heap.size s p (p + 1) hit)
        have Hb2 := hide (Lib.below_iterAt Hb.out (Nat.le_refl _) s (p + 1))
        have hcon := Lib.contains_iff_indexByte cs.data.toList s[p]
        rw [← contains_nums] at hcon
        have HI : Hid (∀ W, Calls Tryz.prog 117 #[.string cs, .int .i32 ((s[p].toNat : Nat) : Int)] W fun e w' => e = .returned (.int .i64 (Lib.indexByte cs.data.toList s[p])) ∧ W = w') := hide fun W =>
          (Tryz.strings_IndexRune_ascii cs _ W (by omega) ha).mono fun e w' hh => ⟨by rw [hh.1]; simp, hh.2.symm⟩
        have HK := hide (fun h => hasB_take hsl HH.out (by rw [HN.out]; exact h))
        have HY := hide (fun h => hasB_at (cs := nums cs) hsl (by rw [HN.out]; exact h))
        have Hcon := hide hcon
        clear hit hcon
        generalize Lib.indexByte cs.data.toList s[p] = ix at *
        cases hct : (nums cs).contains ((s[p].toNat : Nat) : Int)
        · have hix : ix < 0 := by have := Hcon.out; rw [hct] at this; have := of_decide_eq_false this.symm; omega
          have HB := hide (HK.out hct)
          clear hct
          go_wp2_with (go_at_call 117; refine (HI.out _).mono ?_; rintro e w1 ⟨rfl, rfl⟩)
          go_roundw
          case rel => exact ⟨p + 1, by omega, Hit.out, Hb2.out, HB.out⟩
          case measure => rw [iterPos_of Hit.out, hpos.out]; omega
        · have hix : 0 ≤ ix := by have := Hcon.out; rw [hct] at this; exact of_decide_eq_true this.symm
          have HB := hide (HD.out.symm.trans (HY.out hct))
          clear hct
          go_wp2_with (go_at_call 117; refine (HI.out _).mono ?_; rintro e w1 ⟨rfl, rfl⟩)
          go_ret
          exact AnyTells.yes p HB.out rfl Hb2.out
      · have ha' : 128 ≤ (nums s).getD p 0 := by rw [HN.out]; omega
        obtain ⟨hd1, hd2, hd3⟩ := decode_wide s p hlt ha'
        have hc1 : 128 ≤ ((Utf8.decode s p).1 : Int) := by have := (decode_high s p hlt (by omega)).1; omega
        have hc2 : ((Utf8.decode s p).1 : Int) ≤ 2147483647 := by have := decode_le s p; omega
        have hnx : ∀ ty, (Instr.next (.pointer (some ⟨w.heap.size, 0, none⟩)) true ty).run Tryz.prog wr = _ := fun ty => Lib.run_next_any_at wr w.heap.size s p ty hit hlt
        have HB := hide (hasB_skip (ascii_nums HS.out) _ (by rw [nums_len]; exact hd1) hd3 HH.out)
        have Hd1 := hide hd1
        have Hd2 := hide hd2
        have Hit := hide (Lib.iterAt_heap wr w.heap.size s p (p + (Utf8.decode s p).2) hit)
        have Hb2 := hide (Lib.below_iterAt Hb.out (Nat.le_refl _) s (p + (Utf8.decode s p).2))
        have HI : Hid (∀ W, Calls Tryz.prog 117 #[.string cs, .int .i32 ((Utf8.decode s p).1 : Int)] W fun e w' => e = .returned (.int .i64 (-1)) ∧ Below W.heap.size W w') := hide fun W => indexrune_no cs _ W HS.out hcz hc1 hc2
        have Hlt := hide (Lib.iterAt_size wr w.heap.size s (p + (Utf8.decode s p).2))
        have Hlt0 := hide (Array.getElem?_eq_some_iff.1 hit).1
        clear hit ha' hd1 hd2 hd3
        generalize (Utf8.decode s p).1 = c at *
        generalize (Utf8.decode s p).2 = d at *
        go_wp2_with fail
        refine (HI.out _).mono ?_
        rintro e w2 ⟨rfl, hb2⟩
        have Hb3 := hide (Hb2.out.trans (hb2.mono Hb2.out.size))
        have Hit2 := hide ((hb2.block w.heap.size (by rw [Hlt.out]; exact Hlt0.out)).trans Hit.out)
        clear hb2
        go_wp2_with fail
        go_roundw
        case rel => exact ⟨p + d, by have := Hd1.out; omega, Hit2.out, Hb3.out, HB.out⟩
        case measure => rw [iterPos_of Hit2.out, hpos.out]; have := Hd2.out; omega
    · have hnx : ∀ ty, (Instr.next (.pointer (some ⟨w.heap.size, 0, none⟩)) true ty).run Tryz.prog wr = _ := fun ty => Lib.run_next_end_at wr w.heap.size s p ty hit hlt
      have HB : Hid (D = false) := hide (by
        rw [← HD.out, ← HH.out, List.take_of_length_le (by rw [nums_len]; omega)])
      clear hit
      go_wp2_with fail
      go_ret
      exact AnyTells.no HB.out rfl Hb.out
end Go.Proofs.YtbdbcalmjbmflaaGreatDoor
namespace Go.Proofs.YtbdbcalmjbmflaaGreatDoor
open Go.RowKit

theorem ascii_lit (s : ByteArray) (h : s.data.toList.all (fun b => decide (b.toNat < 128)) = true) : IsAscii s := fun j b hb => by
  have := List.all_eq_true.1 h b (List.mem_of_getElem? hb)
  simpa using this

set_option maxRecDepth 100000 in
theorem contains_any (s cs : ByteArray) (w : World) (hm : s.size ≤ 1000000) (hc2 : 2 ≤ cs.size) (hcz : cs.size ≤ 1000000) (hcs : IsAscii cs) :
    Calls Tryz.prog 76 #[.string s, .string cs] w (Tells (hasB (nums cs) (nums s)) w) := by
  have H : Calls Tryz.prog 95 #[.string s, .string cs] w (AnyTells (hasB (nums cs) (nums s)) w) := by
    by_cases h8 : s.size ≤ 8
    · exact indexany_short s cs w h8 hc2 hcz hcs
    · have hv := (zero_of_info (P := Tryz.prog) (t := 168) (v := .agg (Array.replicate 256 (.bool false))) (n := 256) (by kernel_rfl)).1
      refine (Tryz.strings_IndexAny_long hv s cs w hc2 (by omega) (by omega) (by omega) hcs).mono fun e w' hh => ⟨_, ?_, hh.1, ?_⟩
      · rw [indexAny_has _ _ cs rfl]; rfl
      · rw [hh.2]; exact ((Below.refl _ _).alloc (Nat.le_refl _) _).alloc (by simp) _
  generalize hasB (nums cs) (nums s) = D at *
  have HH := hide H
  clear H hcs hm hc2 hcz
  go_enter Tryz.func76, Tryz.ntmps76
  go_wp2_with fail
  refine HH.out.mono ?_
  rintro e w1 ⟨r, hr, rfl, hb⟩
  have Hb := hide hb
  have Hr := hide hr
  clear hb
  cases D
  · have h0 : r < 0 := by have := of_decide_eq_false hr; omega
    clear hr
    go_wp2_with fail
    go_ret
    exact ⟨ret_bool Hr.out, Hb.out⟩
  · have h0 : 0 ≤ r := of_decide_eq_true hr
    clear hr
    go_wp2_with fail
    go_ret
    exact ⟨rfl, Hb.out⟩

abbrev sBad : ByteArray := ⟨#[46, 59, 91, 47]⟩
abbrev sAngle : ByteArray := ⟨#[60, 62]⟩

set_option maxRecDepth 100000 in
theorem plain_any (s : ByteArray) (w : World) (hm : s.size ≤ 1000000) : Calls Tryz.prog 57 #[.string s] w (Tells (plainB (nums s)) w) := by
  by_cases hz : s.size = 0
  · have hs : s = ByteArray.empty := (str_empty s).2 (List.eq_nil_of_length_eq_zero (by rw [nums_len]; exact hz))
    subst hs
    go_enter Tryz.func57, Tryz.ntmps57
    go_wp2_with fail
    go_ret
    exact ⟨rfl, Below.refl _ _⟩
  · have he : s.toList.isEmpty = false := by
      rw [Lib.toList_data]
      cases h : s.data.toList with
      | nil => exact absurd (by rw [Lib.size_eq, h]; rfl) hz
      | cons a t => rfl
    have hl : (nums s).isEmpty = false := by cases h : nums s with
      | nil => exact absurd (by rw [← nums_len, h]; rfl) hz
      | cons a t => rfl
    have HP : Hid (plainB (nums s) = (!hasB [46, 59, 91, 47] (nums s) && (dec (nums s)).isSome)) := hide (by unfold plainB; rw [hl]; rfl)
    have HC : Hid (∀ W, Calls Tryz.prog 76 #[.string s, .string sBad] W (Tells (hasB [46, 59, 91, 47] (nums s)) W)) := hide fun W => contains_any s sBad W hm (by decide) (by decide) (ascii_lit _ (by decide))
    have HD : Hid (∀ W, Calls Tryz.prog 77 #[.string s] W (Decoded (dec (nums s)) W)) := hide fun W => decode_any s W hm
    obtain ⟨D, hD⟩ : ∃ D, plainB (nums s) = D := ⟨_, rfl⟩
    rw [hD]
    have HDD := hide hD
    clear hD hz hl
    go_enter Tryz.func57, Tryz.ntmps57
    go_wp2_with fail
    refine (HC.out _).mono ?_
    rintro e w1 ⟨rfl, hb1⟩
    have Hb1 := hide hb1
    clear hb1
    cases hh : hasB [46, 59, 91, 47] (nums s)
    · have HP2 : Hid (D = (dec (nums s)).isSome) := hide (by rw [← HDD.out, HP.out, hh]; rfl)
      clear hh HP
      go_wp2_with fail
      refine (HD.out _).mono ?_
      rintro e w3 ⟨hb3, ⟨h, rfl⟩ | ⟨u, v, h, rfl, hown⟩⟩
      · have HB : Hid (D = false) := hide (by rw [HP2.out, h]; rfl)
        have Hb3 := hide (Hb1.out.trans (hb3.mono Hb1.out.size))
        clear h hb3
        go_wp2_with fail
        go_ret
        exact ⟨ret_bool HB.out.symm, Hb3.out⟩
      · have HB : Hid (D = true) := hide (by rw [HP2.out, h]; rfl)
        have Hb3 := hide (Hb1.out.trans (hb3.mono Hb1.out.size))
        clear h hb3 hown
        go_wp2_with fail
        go_ret
        exact ⟨ret_bool HB.out.symm, Hb3.out⟩
    · have HB : Hid (D = false) := hide (by rw [← HDD.out, HP.out, hh]; rfl)
      clear hh
      go_wp2_with fail
      go_ret
      exact ⟨ret_bool HB.out.symm, Hb1.out⟩

set_option maxRecDepth 100000 in
theorem method_any (s : ByteArray) (w : World) (hm : s.size ≤ 1000000) : Calls Tryz.prog 62 #[.string s] w (Tells (methodB (nums s)) w) := by
  by_cases a1 : s = sInit
  · subst a1
    go_enter Tryz.func62, Tryz.ntmps62
    go_wp2_with fail
    go_ret
    exact ⟨rfl, Below.refl _ _⟩
  · by_cases a2 : s = sClinit
    · subst a2
      go_enter Tryz.func62, Tryz.ntmps62
      go_wp2_with fail
      go_ret
      exact ⟨rfl, Below.refl _ _⟩
    · have HP := hide (fun W => plain_any s W hm)
      have HC : Hid (∀ W, Calls Tryz.prog 76 #[.string s, .string sAngle] W (Tells (hasB [60, 62] (nums s)) W)) := hide fun W => contains_any s sAngle W hm (by decide) (by decide) (ascii_lit _ (by decide))
      obtain ⟨D, hD⟩ : ∃ D, methodB (nums s) = D := ⟨_, rfl⟩
      rw [hD]
      have HD : Hid (D = (plainB (nums s) && !hasB [60, 62] (nums s))) := hide (by rw [← hD]; exact method_lit a1 a2)
      obtain ⟨n1, n2⟩ := toList_no a1
      obtain ⟨n3, n4⟩ := toList_no a2
      clear hD a1 a2
      generalize hasB [60, 62] (nums s) = H at *
      generalize plainB (nums s) = P at *
      go_enter Tryz.func62, Tryz.ntmps62
      go_wp2_with fail
      refine (HP.out _).mono ?_
      rintro e w1 ⟨rfl, hb1⟩
      have Hb1 := hide hb1
      clear hb1
      cases P
      · have HB : Hid (D = false) := HD
        go_wp2_with fail
        go_ret
        exact ⟨ret_bool HB.out.symm, Hb1.out⟩
      · go_wp2_with fail
        refine (HC.out _).mono ?_
        rintro e w2 ⟨rfl, hb2⟩
        have Hb2 := hide (Hb1.out.trans (hb2.mono Hb1.out.size))
        clear hb2
        have HB : Hid (D = !H) := hide (by rw [HD.out]; simp)
        go_wp2_with fail
        go_ret
        exact ⟨ret_bool HB.out.symm, Hb2.out⟩

theorem lastIdx_range (s : ByteArray) (c : Int) (k : Nat) : -1 ≤ Lib.lastIdx s c k ∧ Lib.lastIdx s c k < k + 1 := by
  induction k with
  | zero => simp [Lib.lastIdx]
  | succ k ih => unfold Lib.lastIdx; split <;> omega

def dotsU (l : List UInt8) : List UInt8 := l.map fun b => if b = 47 then 46 else b
theorem replaceK_cons {b : UInt8} (h : b ≠ 47) (k : Nat) (t : List UInt8) : Lib.replaceK [47] [46] k (b :: t) = b :: Lib.replaceK [47] [46] k t := by
  cases k with
  | zero => rfl
  | succ k =>
    have hb : (b == 47) = false := by simpa using h
    unfold Lib.replaceK
    rw [Lib.index_one, Lib.index_one, Lib.indexByte, hb]
    have hge := Lib.indexByte_ge t 47
    by_cases h1 : Lib.indexByte t 47 = -1
    · rw [h1]; rfl
    · have h2 : (Lib.indexByte t 47 == -1) = false := by simpa using h1
      obtain ⟨n, hn⟩ : ∃ n : Nat, Lib.indexByte t 47 = n := ⟨(Lib.indexByte t 47).toNat, by omega⟩
      have h3 : ((n : Int) + 1 == -1) = false := by simp; omega
      have h4 : ((n : Int) == -1) = false := by simp
      rw [hn]
      simp only [Bool.false_eq_true, if_false, h3, h4]
      have e1 : ((n : Int) + 1).toNat = n + 1 := by omega
      rw [e1]
      simp
theorem replace_dots (l : List UInt8) : Lib.replaceK [47] [46] (Lib.count l [47]) l = dotsU l := by
  induction l with
  | nil => rfl
  | cons b t ih =>
    by_cases h : b = 47
    · subst h
      rw [Lib.count_cons_eq, Nat.add_comm, Lib.replaceK_hit _ _ _ _ 0 (by rw [Lib.index_one]; rfl)]
      simpa [dotsU] using ih
    · rw [Lib.count_cons_ne b 47 t h, replaceK_cons h, ih]
      simp [dotsU, h]
theorem replaceAll_dots (l : List UInt8) : Lib.replaceAll l [47] [46] = dotsU l := by
  unfold Lib.replaceAll Lib.replace
  rw [if_neg (by decide)]
  unfold Lib.replaceNum
  rw [if_pos (.inl (by decide))]
  exact replace_dots l
theorem dotsU_str (s : ByteArray) : (⟨(dotsU s.data.toList).toArray⟩ : ByteArray) = strOfNums (dots (nums s)) := by
  apply nums_inj
  rw [nums_of _ (dots_bytes (nums_bytes s))]
  simp only [nums, dotsU, dots, List.map_map]
  refine List.map_congr_left fun b _ => ?_
  simp only [Function.comp_apply]
  by_cases h : b = 47
  · subst h; rfl
  · rw [if_neg h, if_neg]
    intro e
    apply h
    apply UInt8.toNat_inj.1
    have : ((47 : UInt8).toNat) = 47 := rfl
    omega

/-- The library's number that strings.Index asks after. -/
def Maxed (w : World) : Prop := ∃ m, w.cell? ⟨2, 0, none⟩ = some (.int .i64 m)
theorem Maxed.below {w w' : World} (h : Maxed w) (hb : Below w.heap.size w w') : Maxed w' := by
  obtain ⟨m, hm⟩ := h
  exact ⟨m, (hb.cell (p := ⟨2, 0, none⟩) (World.block_lt_of_cell? w _ hm)).trans hm⟩

end Go.Proofs.YtbdbcalmjbmflaaGreatDoor
namespace Go.Proofs.YtbdbcalmjbmflaaGreatDoor
open Go.RowKit

/-- An invariant that a store into block bs leaves, and new blocks too. -/
def AbBox (bs : Nat) (J : List ByteArray → World → Prop) : Prop := ∀ s A B row, J s A → A.grownBy B row → (∀ r, row = some r → r = bs) → J s B

/-- What an iterator over texts promises each caller. -/
def SeqBox (n : Nat) (P : Program) (gf : Nat) (lb : Array Value) (bs : Nat) (S : List ByteArray → Prop) (Sp : List ByteArray → Prop) (w : World) : Prop :=
  ∀ (l : Nat) (J Jx : List ByteArray → World → Prop) (W : World), Below w.heap.size w W → AbBox bs J → AbBox bs Jx →
    (∀ pre x W1, J pre W1 → x.size ≤ 1000000 → YieldAt Fence.wide (n - 1) P l #[.string x] W1 fun e W' =>
      (e = .returned (.bool true) ∧ J (pre ++ [x]) W' ∧ Below w.heap.size W1 W') ∨ (e = .returned (.bool false) ∧ Jx (pre ++ [x]) W')) →
    J [] W →
    CallsIn Fence.wide n P gf (#[.func (.yield l) #[] #[]] ++ lb) W fun e W' => (∃ v, e = .returned v) ∧ ((∃ xs, S xs ∧ J xs W') ∨ (∃ pre, Sp pre ∧ Jx pre W'))

variable {P : Program} {n : Nat}

theorem range_box {g : Operand} {ps : Array Tmp} {assign body : Code} {Q : Exit → Act → World → Prop} {a : Act} {w : World} (h1 : 1 ≤ n)
    {gf : Nat} {lb : Array Value} (hg : a.eval g = .func (.func gf) #[] lb) (eg : ∀ args w, (callFunc gf args).run P w = .ok (.enter gf args) w)
    {bs : Nat} (hbs : bs < w.heap.size) {S Sp : List ByteArray → Prop} (hseq : SeqBox (n - 1) P gf lb bs S Sp w) (hps : ps.size = 1)
    (I : List ByteArray → World → Prop) (Ix : Code → List ByteArray → World → Prop) (hI : OwnFrom w.heap.size I) (hIx : ∀ c, OwnFrom w.heap.size (Ix c)) (hIb : AbBox bs I) (hIxb : ∀ c, AbBox bs (Ix c)) (h0 : I [] w)
    (a₁ : ByteArray → Act)
    (hassign : ∀ (l : Nat) (x : ByteArray) (W : World) (K : Act → World → Prop), K (a₁ x) W →
      assign.wpIn (Fence.wide.inRound l) (n - 1 - 1) P (Exit.then K (fun _ _ _ => False)) { tmps := (ps.zip #[.string x]).foldl (fun t (p, v) => t.setIfInBounds p v) a.tmps, defers := [] } W)
    (hbody : ∀ (l : Nat) (pre : List ByteArray) (x : ByteArray) (W : World), I pre W → x.size ≤ 1000000 → body.wpIn (Fence.wide.inRound l) (n - 1 - 1) P (ownPostG w.heap.size (Below w.heap.size) I Ix (pre ++ [x]) W) (a₁ x) W)
    (hdone : ∀ (D : Nat) (xs : List ByteArray) (W : World), w.heap.size ≤ D → S xs → I xs W → W.heap[D]? = some (.deferred (some [])) → Q .normal { a with defers := { target := .collected D, args := #[] } :: a.defers } W)
    (hstop : ∀ (D : Nat) (c : Code) (pre : List ByteArray) (W : World), w.heap.size ≤ D → Sp pre → Ix c pre W → W.heap[D]? = some (.deferred (some [])) → c.wpIn Fence.wide n P Q { a with defers := { target := .collected D, args := #[] } :: a.defers } W) :
    (Code.rangeFunc g ps assign body).wpIn Fence.wide n P Q a w := by
  refine wpIn_rangeFunc fun fn hfn => ?_
  have hKb : ∀ (W : World) (l : Nat) (o o' : Obj), w.heap.size ≤ l → W.heap[l]? = some o → o.isCells = false → o.isWalk = false → Below w.heap.size W (W.putObj l o') := belowK_b (Nat.le_refl _)
  obtain ⟨rec, hrec⟩ : ∃ rec : LoopState → Option Code → Loop, rec = fun st pe => { state := st, pending := pe, fn, tmps := a.tmps, params := ps, assign, body, defers := w.heap.size } := ⟨_, rfl⟩
  obtain ⟨W1, hW1⟩ : ∃ W1, (w.alloc (.deferred (some []))).alloc (.loop (rec .ready none)) = W1 := ⟨_, rfl⟩
  have hL1 : W1.heap[w.heap.size + 1]? = some (.loop (rec .ready none)) := by
    rw [← hW1]; have := World.alloc_heap_new (w.alloc (.deferred (some []))) (.loop (rec .ready none)); rwa [World.size_alloc] at this
  have hK1 : W1.heap[w.heap.size]? = some (.deferred (some [])) := by
    rw [← hW1]; exact (Below.heap_alloc _ _ _ (by simp)).trans (World.alloc_heap_new w _)
  have hI1 : I [] W1 := by rw [← hW1]; exact hI.alloc _ (hI.alloc _ h0)
  have hb1 : Below w.heap.size w W1 := by rw [← hW1]; exact ((Below.refl _ w).alloc (Nat.le_refl _) _).alloc (by simp) _
  refine ⟨w.heap.size + 1, [{ target := .collected w.heap.size, args := #[] }], W1, { target := .fn (.func gf) lb, args := #[.func (.yield (w.heap.size + 1)) #[] #[]] }, W1, gf,
    #[.func (.yield (w.heap.size + 1)) #[] #[]] ++ lb, W1, ?_, ?_, fun _ _ => trivial, ?_, fun _ => h1, ?_⟩
  · rw [← hW1, hrec]; exact run_enterLoop_outer _ _ _ _ _
  · simp only [resolve, hg]
    simp [go_sem]
  · simp [invoke, go_sem, eg]
  · have keep : ∀ {A B : World} {row : Option Nat} {k : Nat} {o : Obj}, w.heap.size ≤ k → A.grownBy B row → (∀ r, row = some r → r = bs) → A.heap[k]? = some o → B.heap[k]? = some o :=
      fun hk hgr hr ho => (hgr.block _ (Array.getElem?_eq_some_iff.1 ho).1 (fun e => by have := hr _ e.symm; omega)).trans ho
    refine (hseq (w.heap.size + 1)
      (fun pre W => I pre W ∧ W.heap[w.heap.size + 1]? = some (.loop (rec .ready none)) ∧ W.heap[w.heap.size]? = some (.deferred (some [])))
      (fun pre W => ∃ c, Ix c pre W ∧ W.heap[w.heap.size + 1]? = some (.loop (rec .done (some c))) ∧ W.heap[w.heap.size]? = some (.deferred (some [])))
      W1 hb1 (fun s A B row hs hgr hr => ⟨hIb s A B row hs.1 hgr hr, keep (by omega) hgr hr hs.2.1, keep (Nat.le_refl _) hgr hr hs.2.2⟩)
      (fun s A B row hs hgr hr => by
        obtain ⟨c, hc, hl, hk⟩ := hs
        exact ⟨c, hIxb c s A B row hc hgr hr, keep (by omega) hgr hr hl, keep (Nat.le_refl _) hgr hr hk⟩)
      ?_ ⟨hI1, hL1, hK1⟩).mono ?_
    · rintro pre x W ⟨hi, hl, hk⟩ hxs
      have hlt : w.heap.size + 1 < W.heap.size := (Array.getElem?_eq_some_iff.1 hl).1
      have hy := run_yield (P := P) (args := #[.string x]) hl (by rw [hrec]; exact hps.symm)
      rw [hrec] at hy
      refine ⟨fn, _, assign, body, hy, roundIn_of_wpIn hfn (hassign _ x W _ ⟨_, run_beginRound hl (by rw [hrec]), ?_⟩)⟩
      have hl2 : (W.putObj (w.heap.size + 1) (.loop { rec .ready none with state := .busy })).heap[w.heap.size + 1]? = some (.loop { rec .ready none with state := .busy }) := World.putObj_heap_same hlt
      have hk2 : (W.putObj (w.heap.size + 1) (.loop { rec .ready none with state := .busy })).heap[w.heap.size]? = some (.deferred (some [])) := (World.putObj_heap_other (by omega)).trans hk
      have hw2 : Below w.heap.size W (W.putObj (w.heap.size + 1) (.loop { rec .ready none with state := .busy })) := hKb _ _ _ _ (by omega) hl rfl rfl
      refine wpIn_mono (hbody _ pre x _ (hI.putObj _ hi (by omega) hl rfl) hxs) ?_
      have fin : ∀ (jump : Option Code) (W3 : World), KeepsFrom w.heap.size (W.putObj (w.heap.size + 1) (.loop { rec .ready none with state := .busy })) W3 →
          (Instr.endRound (w.heap.size + 1) jump).run P W3 = .ok (.bool jump.isNone) (W3.putObj (w.heap.size + 1) (.loop (rec (if jump.isNone then .ready else .done) jump))) ∧
          W3.heap[w.heap.size + 1]? = some (.loop { rec .ready none with state := .busy }) ∧
          (W3.putObj (w.heap.size + 1) (.loop (rec (if jump.isNone then .ready else .done) jump))).heap[w.heap.size + 1]? = some (.loop (rec (if jump.isNone then .ready else .done) jump)) ∧
          (W3.putObj (w.heap.size + 1) (.loop (rec (if jump.isNone then .ready else .done) jump))).heap[w.heap.size]? = some (.deferred (some [])) := fun jump W3 hk3 => by
        have hl3 := hk3.same _ _ (by omega) hl2 rfl
        have := run_endRound (P := P) jump hl3
        rw [hrec] at this ⊢
        exact ⟨this, by rw [hrec] at hl3; exact hl3, World.putObj_heap_same (Array.getElem?_eq_some_iff.1 hl3).1, (World.putObj_heap_other (by omega)).trans (hk3.same _ _ (Nat.le_refl _) hk2 rfl)⟩
      rintro e a3 W3 hp
      cases e with
      | normal =>
        obtain ⟨hk3, hkp3, hi3⟩ := hp
        obtain ⟨hr, hl3, hl4, hk4⟩ := fin none W3 hk3
        exact ⟨_, _, hr, .inl ⟨rfl, ⟨hI.putObj _ hi3 (by omega) hl3 rfl, hl4, hk4⟩, (hw2.trans hkp3).trans (hKb _ _ _ _ (by omega) hl3 rfl rfl)⟩⟩
      | ret =>
        obtain ⟨hk3, hi3⟩ := hp
        obtain ⟨hr, hl3, hl4, hk4⟩ := fin (some .ret) W3 hk3
        exact ⟨_, _, hr, .inr ⟨rfl, _, (hIx _).putObj _ hi3 (by omega) hl3 rfl, hl4, hk4⟩⟩
      | exit id =>
        obtain ⟨hk3, hi3⟩ := hp
        obtain ⟨hr, hl3, hl4, hk4⟩ := fin (some (.exit id)) W3 hk3
        exact ⟨_, _, hr, .inr ⟨rfl, _, (hIx _).putObj _ hi3 (by omega) hl3 rfl, hl4, hk4⟩⟩
      | goto t =>
        obtain ⟨hk3, hi3⟩ := hp
        obtain ⟨hr, hl3, hl4, hk4⟩ := fin (some (.goto t)) W3 hk3
        exact ⟨_, _, hr, .inr ⟨rfl, _, (hIx _).putObj _ hi3 (by omega) hl3 rfl, hl4, hk4⟩⟩
      | panic ch => exact hp.elim
      | outgrown => exact hp.elim
    · rintro e W2 ⟨⟨v, rfl⟩, (⟨xs, hS, hi, hl, hk⟩ | ⟨pre, hSp, c, hi, hl, hk⟩)⟩
      · exact ⟨none, _, by have := run_endLoop (P := P) hl (by rw [hrec]; simp); rw [hrec] at this; exact this, hdone _ xs _ (Nat.le_refl _) hS (hI.putObj _ hi (by omega) hl rfl) ((World.putObj_heap_other (by omega)).trans hk)⟩
      · exact ⟨some c, _, by have := run_endLoop (P := P) hl (by rw [hrec]; simp); rw [hrec] at this; exact this, hstop _ c pre _ (Nat.le_refl _) hSp ((hIx c).putObj _ hi (by omega) hl rfl) ((World.putObj_heap_other (by omega)).trans hk)⟩
end Go.Proofs.YtbdbcalmjbmflaaGreatDoor
namespace Go.Proofs.YtbdbcalmjbmflaaGreatDoor
open Go.RowKit Go.Shelf
attribute [local go_sem] Oper.semAt_some

theorem idx_none {l : List UInt8} (h : Lib.indexByte l 47 = -1) : (47 : Int) ∉ l.map (fun b => ((b.toNat : Nat) : Int)) := by
  induction l with
  | nil => simp
  | cons b t ih =>
    unfold Lib.indexByte at h
    have hge := Lib.indexByte_ge t 47
    by_cases hb : b = 47
    · subst hb; simp at h
    · have e : (b == 47) = false := by simpa using hb
      rw [e] at h
      by_cases h1 : Lib.indexByte t 47 = -1
      · intro hm
        rcases List.mem_cons.1 hm with hm | hm
        · apply hb; apply UInt8.toNat_inj.1
          have : ((47 : UInt8).toNat) = 47 := rfl
          have hm' : (47 : Int) = ((b.toNat : Nat) : Int) := hm
          omega
        · exact ih h1 hm
      · have e2 : (Lib.indexByte t 47 == -1) = false := by simpa using h1
        rw [e2] at h
        simp at h
        omega
theorem idx_some {l : List UInt8} : ∀ {k : Nat}, Lib.indexByte l 47 = k → k < l.length ∧ (47 : Int) ∉ (l.map (fun b => ((b.toNat : Nat) : Int))).take k ∧ (l.map (fun b => ((b.toNat : Nat) : Int))).getD k 0 = 47 := by
  induction l with
  | nil => intro k h; simp [Lib.indexByte] at h
  | cons b t ih =>
    intro k h
    unfold Lib.indexByte at h
    have hge := Lib.indexByte_ge t 47
    by_cases hb : b = 47
    · subst hb
      simp at h
      obtain rfl : k = 0 := by omega
      exact ⟨by simp, by simp, rfl⟩
    · have e : (b == 47) = false := by simpa using hb
      rw [e] at h
      by_cases h1 : Lib.indexByte t 47 = -1
      · rw [h1] at h; simp at h
      · have e2 : (Lib.indexByte t 47 == -1) = false := by simpa using h1
        rw [e2] at h
        simp at h
        obtain ⟨j, rfl⟩ : ∃ j, k = j + 1 := ⟨k - 1, by omega⟩
        obtain ⟨i1, i2, i3⟩ := ih (k := j) (by omega)
        refine ⟨by simp; omega, ?_, by simpa using i3⟩
        intro hm
        rw [List.map_cons, List.take_succ_cons] at hm
        rcases List.mem_cons.1 hm with hm | hm
        · apply hb; apply UInt8.toNat_inj.1
          have : ((47 : UInt8).toNat) = 47 := rfl
          omega
        · exact i2 hm
theorem parts_cut {s : ByteArray} {k : Nat} (h : Lib.indexByte s.data.toList 47 = k) : partsL (nums s) = nums (s.extract 0 k) :: partsL (nums (s.extract (k + 1) s.size)) := by
  obtain ⟨h1, h2, h3⟩ := idx_some h
  have := parts_stroke (nums s) 0 k (Nat.zero_le _) (by rw [nums_len, Lib.size_eq]; exact h1) (by simpa [nums] using h2) h3
  rw [nums_from, nums_cut]
  simpa using this
theorem parts_end {s : ByteArray} (h : Lib.indexByte s.data.toList 47 = -1) : partsL (nums s) = [nums s] := partsL_one (idx_none h)

abbrev sStroke : ByteArray := ⟨#[47]⟩

set_option maxHeartbeats 2000000 in
set_option maxRecDepth 1000000 in
theorem splitseq_stops (n : Nat) (hn : 1 ≤ n) (w : World) (s : ByteArray) (hs : s.size ≤ 1000000) (b1 b2 b3 : Nat) (h1 : w.cell? ⟨b1, 0, none⟩ = some (.string sStroke)) (h2 : w.cell? ⟨b2, 0, none⟩ = some (.string s)) (h3 : w.cell? ⟨b3, 0, none⟩ = some (.int .i64 0))
    (hf : w.frozen? ⟨b2, 0, none⟩ = false) (hne1 : b1 ≠ b2) (hne3 : b3 ≠ b2) :
    SeqBox n Tryz.prog 108 #[.pointer (some ⟨b1, 0, none⟩), .pointer (some ⟨b2, 0, none⟩), .pointer (some ⟨b3, 0, none⟩)] b2 (fun xs => xs.map nums = partsL (nums s)) (fun pre => ∃ rest, pre.map nums ++ rest = partsL (nums s)) w := by
  intro l J Jx W hW hJ hJx hY h0
  have l1 := World.block_lt_of_cell? w _ h1
  have l2 := World.block_lt_of_cell? w _ h2
  have l3 := World.block_lt_of_cell? w _ h3
  dsimp only at l1 l2 l3
  have c1 : W.cell? ⟨b1, 0, none⟩ = some (.string sStroke) := (hW.cell (p := ⟨b1, 0, none⟩) l1).trans h1
  have HY := hide hY
  have HJ := hide hJ
  have HJx := hide hJx
  have g1 := hide c1
  have g2 := hide ((hW.cell (p := ⟨b2, 0, none⟩) l2).trans h2)
  have g3 := hide ((hW.cell (p := ⟨b3, 0, none⟩) l3).trans h3)
  have gf := hide ((hW.frozen (p := ⟨b2, 0, none⟩) l2).trans hf)
  have Hl1 := hide l1
  have Hl2 := hide l2
  have Hl3 := hide l3
  clear hY hJ hJx h1 h2 h3 hf hW l1 l2 l3
  refine callsIn_of_wp Tryz.func108 rfl trivial ?_ rfl
  simp only [Tryz.ntmps108, List.size_toArray, List.length_cons, List.length_nil, Nat.reduceAdd, Nat.reduceSub, Array.replicate_succ, Array.replicate_zero, List.push_toArray, List.append_toArray, List.nil_append, List.cons_append]
  gi_wp2
  clear c1
  gi_loopw [7, 8] (fun _ _ wr => ∃ (pre : List ByteArray) (t : ByteArray), wr.cell? ⟨b1, 0, none⟩ = some (.string sStroke) ∧ wr.cell? ⟨b2, 0, none⟩ = some (.string t) ∧ wr.cell? ⟨b3, 0, none⟩ = some (.int .i64 0) ∧ wr.frozen? ⟨b2, 0, none⟩ = false ∧
    t.size ≤ s.size ∧ pre.map nums ++ partsL (nums t) = partsL (nums s) ∧ J pre wr)
    (fun _ _ wr => strLen ((wr.cell? ⟨b2, 0, none⟩).getD undef))
  case atStart => exact ⟨[], s, g1.out, g2.out, g3.out, gf.out, Nat.le_refl _, rfl, h0⟩
  case round =>
    obtain ⟨pre, t, k1, k2, k3, kf, hts, hp, hj⟩ := hrel
    have HI : Hid (∀ W, Calls Tryz.prog 110 #[.string t, .string sStroke] W fun e w' => e = .returned (.int .i64 (Lib.indexByte t.data.toList 47)) ∧ W = w') := hide fun W => (Tryz.strings_Index_one t 47 W).mono fun e w' hh => ⟨hh.1, hh.2.symm⟩
    have hge := Lib.indexByte_ge t.data.toList 47
    have HE := hide (parts_end (s := t))
    have HC := hide (fun k => parts_cut (s := t) (k := k))
    have HK := hide (fun k => (idx_some (l := t.data.toList) (k := k)))
    have Hp := hide hp
    have Hj := hide hj
    have K2 := hide k2
    clear hp hj
    generalize Lib.indexByte t.data.toList 47 = i at *
    by_cases hi : i < 0
    · obtain rfl : i = -1 := by omega
      have HE2 := hide (HE.out rfl)
      obtain ⟨fn, tmps, assign, body, hy, hR⟩ := HY.out pre t wr Hj.out (by omega)
      have HR := hide hR
      clear hR
      gi_wp2_with (refine ⟨trivial, ?_⟩; gi_at_call 110; refine (callsIn_wide.2 (HI.out _)).mono ?_; rintro e w1 ⟨rfl, rfl⟩)
      refine HR.out.mono ?_
      rintro e W3 (⟨rfl, hJ3, hk3⟩ | ⟨rfl, hJx3⟩)
      · have HJ3 := hide hJ3
        clear hJ3 hk3 hy
        gi_wp2
        go_end0
        exact ⟨⟨_, rfl⟩, .inl ⟨pre ++ [t], by rw [List.map_append, ← Hp.out, HE2.out]; rfl, HJ3.out⟩⟩
      · have HJx3 := hide hJx3
        clear hJx3 hy
        gi_wp2
        go_end0
        exact ⟨⟨_, rfl⟩, .inr ⟨pre ++ [t], ⟨[], by rw [List.map_append, ← Hp.out, HE2.out]; simp⟩, HJx3.out⟩⟩
    · obtain ⟨k, rfl⟩ : ∃ k : Nat, i = k := ⟨i.toNat, by omega⟩
      have HC2 := hide (HC.out k rfl)
      have hkl : k < t.size := by rw [Lib.size_eq]; exact (HK.out k rfl).1
      have hkz : (k : Int) < (t.size : Int) := by omega
      obtain ⟨fn, tmps, assign, body, hy, hR⟩ := HY.out pre (t.extract 0 k) wr Hj.out (by rw [← nums_len, nums_cut, List.length_take, List.length_drop, nums_len]; omega)
      have HR := hide hR
      have HZ := hide (show (t.extract (k + 1) t.size).size < t.size by
        rw [← nums_len, nums_from, List.length_drop, nums_len]; omega)
      clear hR hi
      gi_wp2_with (refine ⟨trivial, ?_⟩; gi_at_call 110; refine (callsIn_wide.2 (HI.out _)).mono ?_; rintro e w1 ⟨rfl, rfl⟩)
      refine HR.out.mono ?_
      rintro e W3 (⟨rfl, hJ3, hk3⟩ | ⟨rfl, hJx3⟩)
      · have HJ3 := hide hJ3
        have q1 := (hk3.cell (p := ⟨b1, 0, none⟩) Hl1.out).trans k1
        have q2 := (hk3.cell (p := ⟨b2, 0, none⟩) Hl2.out).trans k2
        have q3 := (hk3.cell (p := ⟨b3, 0, none⟩) Hl3.out).trans k3
        have qf := (hk3.frozen (p := ⟨b2, 0, none⟩) Hl2.out).trans kf
        have Q1 := hide q1
        have Q2 := hide q2
        have Q3 := hide q3
        have Qf := hide qf
        clear hJ3 hk3 hy k1 k2 k3 kf
        gi_wp2
        go_roundw
        case rel =>
          refine ⟨pre ++ [t.extract 0 k], t.extract (k + 1) t.size, ?_, ?_, ?_, ?_, ?_, ?_, ?_⟩
          · rw [World.cell?_setCell_other _ _ _ _ (by simp)]; exact Q1.out
          · exact World.cell?_setCell_same _ _ _ Q2.out
          · rw [World.cell?_setCell_other _ _ _ _ (by simp)]; exact Q3.out
          · rw [World.frozen?_setCell]; exact Qf.out
          · have := HZ.out; omega
          · rw [List.map_append, ← Hp.out, HC2.out]; simp
          · exact HJ.out _ _ _ _ HJ3.out (only_set _) (fun r hr => by cases hr; rfl)
        case measure =>
          rw [World.cell?_setCell_same _ _ _ Q2.out, K2.out]
          exact HZ.out
      · have HJx3 := hide hJx3
        clear hJx3 hy
        gi_wp2
        refine bodyPost_ret (results_none rfl _ _ _) rfl ?_
        exact ⟨⟨_, rfl⟩, .inr ⟨pre ++ [t.extract 0 k], ⟨partsL (nums (t.extract (k + 1) t.size)), by rw [List.map_append, ← Hp.out, HC2.out]; simp⟩, HJx3.out⟩⟩

/-- The world in which the iterator's three boxes are laid. -/
def boxes (s : ByteArray) (w : World) : World := ((w.alloc (.cells #[.string s] 9)).alloc (.cells #[.string sStroke] 9)).alloc (.cells #[.int .i64 0] 3)
abbrev iterV (b : Nat) : Value := .func (.func 108) #[] #[.pointer (some ⟨b + 1, 0, none⟩), .pointer (some ⟨b, 0, none⟩), .pointer (some ⟨b + 2, 0, none⟩)]
theorem splitseq_in (s : ByteArray) (w : World) : Calls Tryz.prog 92 #[.string s, .string sStroke, .int .i64 0] w fun e w' => e = .returned (iterV w.heap.size) ∧ boxes s w = w' := by
  go_enter Tryz.func92, Tryz.ntmps92
  go_wp2_with fail
  go_ret
  exact ⟨rfl, rfl⟩
theorem splitseq_any (s : ByteArray) (w : World) : Calls Tryz.prog 73 #[.string s, .string sStroke] w fun e w' => e = .returned (iterV w.heap.size) ∧ boxes s w = w' := by
  go_enter Tryz.func73, Tryz.ntmps73
  go_wp2_with fail
  refine (splitseq_in s w).mono ?_
  rintro e w1 ⟨rfl, h⟩
  have H := hide h
  clear h
  go_wp2_with fail
  go_ret
  exact ⟨rfl, H.out⟩

set_option maxRecDepth 1000000 in
theorem class_long (s : ByteArray) (w : World) (h : 255 < s.size) : Calls Tryz.prog 49 #[.string s] w (Tells false w) := by
  have h' : (255 : Int) < (s.size : Int) := by omega
  go_enter Tryz.func49, Tryz.ntmps49
  go_wp2_with fail
  refine bodyPost_ret (v := .bool false) (by simp [results, Tryz.f49, go_sem]) rfl ⟨rfl, ?_⟩
  exact (Below.refl _ _).alloc (Nat.le_refl _) _

theorem boxes_size (s : ByteArray) (w : World) : (boxes s w).heap.size = w.heap.size + 3 := by simp [boxes]
theorem boxes_at (s : ByteArray) (w : World) : Boxed (boxes s w) w.heap.size 9 (.string s) ∧ Boxed (boxes s w) (w.heap.size + 1) 9 (.string sStroke) ∧ Boxed (boxes s w) (w.heap.size + 2) 3 (.int .i64 0) := by
  refine ⟨?_, ?_, ?_⟩
  · exact ((Below.heap_alloc _ _ _ (by simp; omega)).trans (Below.heap_alloc _ _ _ (by simp))).trans (World.alloc_heap_new w _)
  · refine (Below.heap_alloc _ _ _ (by simp)).trans ?_
    have := World.alloc_heap_new (w.alloc (.cells #[.string s] 9)) (.cells #[.string sStroke] 9)
    rwa [World.size_alloc] at this
  · have := World.alloc_heap_new ((w.alloc (.cells #[.string s] 9)).alloc (.cells #[.string sStroke] 9)) (.cells #[.int .i64 0] 3)
    rwa [World.size_alloc, World.size_alloc] at this
theorem boxes_below (s : ByteArray) (w : World) : Below w.heap.size w (boxes s w) :=
  (((Below.refl _ w).alloc (Nat.le_refl _) _).alloc (by simp) _).alloc (by simp; omega) _

/-- What lies behind each round: the result's box holds what it held, and nothing old has turned. -/
def ClassK (w W : World) : Prop := Boxed W w.heap.size 4 (.bool false) ∧ Below w.heap.size w W ∧ w.heap.size + 4 ≤ W.heap.size
/-- Between two rounds: all that has come is plain; the result's box holds what it held. -/
def ClassI (w : World) (pre : List ByteArray) (W : World) : Prop := (pre.all fun x => plainB (nums x)) = true ∧ ClassK w W
/-- Where a round has left: what came last is not plain. -/
def ClassX (w : World) (c : Code) (pre : List ByteArray) (W : World) : Prop := c = .ret ∧ (pre.all fun x => plainB (nums x)) = false ∧ ClassK w W
theorem class_own (w : World) : OwnFrom (w.heap.size + 4) (fun (_ : List ByteArray) W => ClassK w W) := fun _ A B row hs hg hr =>
  ⟨hs.1.kept hg (fun e => by have := (hr _ e.symm).1; omega), hs.2.1.grown hg hs.2.1.size (fun k hk => by have := (hr k hk).1; omega), Nat.le_trans hs.2.2 hg.size⟩
theorem class_box (w : World) (b : Nat) (hb : w.heap.size < b) : AbBox b (fun (_ : List ByteArray) W => ClassK w W) := fun _ A B row hs hg hr =>
  ⟨hs.1.kept hg (fun e => by have := hr _ e.symm; omega), hs.2.1.grown hg hs.2.1.size (fun k hk => by have := hr k hk; omega), Nat.le_trans hs.2.2 hg.size⟩

set_option maxHeartbeats 2000000 in
set_option maxRecDepth 1000000 in
theorem class_short (s : ByteArray) (w : World) (h : s.size ≤ 255) : Calls Tryz.prog 49 #[.string s] w (Tells (classB (nums s)) w) := by
  obtain ⟨D, hD⟩ : ∃ D, classB (nums s) = D := ⟨_, rfl⟩
  rw [hD]
  have HD : Hid (D = (partsL (nums s)).all plainB) := hide (by rw [← hD]; exact classB_short (by rw [nums_len]; omega))
  have HS : Hid (∀ W, Calls Tryz.prog 73 #[.string s, .string sStroke] W fun e w' => e = .returned (iterV W.heap.size) ∧ boxes s W = w') := hide fun W => splitseq_any s W
  have h' : (s.size : Int) ≤ (255 : Int) := by omega
  have hdec : decide ((255 : Int) < (s.size : Int)) = false := decide_eq_false (by omega)
  have HPL : Hid (∀ (x : ByteArray) (W : World), x.size ≤ 1000000 → Calls Tryz.prog 57 #[.string x] W (Tells (plainB (nums x)) W)) := hide plain_any
  clear hD
  refine (callsIn_wide (n := 3)).1 ?_
  refine callsIn_of_wp_marks Tryz.func49 rfl trivial ?_ rfl
  simp only [Tryz.ntmps49, List.size_toArray, List.length_cons, List.length_nil, Nat.reduceAdd, Nat.reduceSub, Array.replicate_succ, Array.replicate_zero, List.push_toArray, List.append_toArray, List.nil_append, List.cons_append]
  gi_wp2_with (refine ⟨trivial, ?_⟩; gi_at_call 73; refine (callsIn_wide.2 (HS.out _)).mono ?_; rintro e w1 ⟨rfl, hw1⟩)
  have hsz0 : (w.alloc (.cells #[.bool false] 4)).heap.size = w.heap.size + 1 := by simp
  obtain ⟨k1, k2, k3⟩ := boxes_at s (w.alloc (.cells #[.bool false] 4))
  have kb := boxes_below s (w.alloc (.cells #[.bool false] 4))
  have kz := boxes_size s (w.alloc (.cells #[.bool false] 4))
  rw [hw1, hsz0] at k1 k2 k3 kb
  rw [hw1, hsz0] at kz
  have kr : Boxed w1 w.heap.size 4 (.bool false) := (kb.block _ (by omega)).trans (World.alloc_heap_new w _)
  have hb1 : Below w.heap.size w w1 := ((Below.refl _ w).alloc (Nat.le_refl _) _).trans (kb.mono (by omega))
  have e2 : w.heap.size + 1 + 1 = w.heap.size + 2 := by omega
  have e3 : w.heap.size + 1 + 2 = w.heap.size + 3 := by omega
  rw [e2] at k2
  rw [e3] at k3
  clear hw1 hsz0
  have hz : ∀ x : ByteArray, ∃ b, plainB (nums x) = b := fun x => ⟨_, rfl⟩
  refine range_box (n := 3) (by decide) (gf := 108) (lb := #[.pointer (some ⟨w.heap.size + 1 + 1, 0, none⟩), .pointer (some ⟨w.heap.size + 1, 0, none⟩), .pointer (some ⟨w.heap.size + 1 + 2, 0, none⟩)]) rfl (enters_of Tryz.func108 (by kernel_rfl) rfl)
    (bs := w.heap.size + 1) (by omega) (splitseq_stops 2 (by decide) w1 s (by omega) (w.heap.size + 1 + 1) (w.heap.size + 1) (w.heap.size + 1 + 2) (by rw [e2]; exact k2.cell) k1.cell (by rw [e3]; exact k3.cell) k1.frozen (by omega) (by omega)) rfl
    (ClassI w) (ClassX w) ?own ?ownx ?box ?boxx ⟨rfl, kr, hb1, by omega⟩
    (fun x => { tmps := #[.string s, undef, .pointer (some ⟨w.heap.size, 0, none⟩), .string x, .string s, .int .i64 s.size, .bool false, .string s, iterV (w.heap.size + 1), .string x, undef, undef, undef], defers := [] }) ?assign ?body ?done ?stop
  case own => rw [kz]; exact OwnFrom.and (ownFrom_pure _ _) (class_own w)
  case ownx => rw [kz]; exact fun c => OwnFrom.and (ownFrom_pure _ _) (OwnFrom.and (ownFrom_pure _ _) (class_own w))
  case box => exact fun t A B row hs hg hr => ⟨hs.1, class_box w _ (by omega) t A B row hs.2 hg hr⟩
  case boxx => exact fun c t A B row hs hg hr => ⟨hs.1, hs.2.1, class_box w _ (by omega) t A B row hs.2.2 hg hr⟩
  case assign =>
    intro l x W K hK
    gi_wp2
    exact hK
  case body =>
    rintro l pre x W ⟨hp, hr, hb, hws⟩ hxs
    have HP := hide hp
    have hcr := hr.cell
    have hfr := hr.frozen
    have Hr := hide hr
    have Hb := hide hb
    have HC := hide (HPL.out x W hxs)
    have Hkz := hide kz
    have Hws := hide hws
    clear hp hr hb hws k1 k2 k3 kb kz kr hb1 e2 e3 hz
    cases hpx : plainB (nums x)
    · rw [hpx] at HC
      have HX : Hid (((pre ++ [x]).all fun x => plainB (nums x)) = false) := hide (by rw [List.all_append]; simp [hpx])
      clear hpx
      gi_wp2_with fail
      refine ⟨trivial, ?_⟩
      refine (CallsIn.inRound l (callsIn_wide.2 HC.out)).mono ?_
      rintro e w2 ⟨rfl, hb2⟩
      have hr2 : Boxed w2 w.heap.size 4 (.bool false) := (hb2.block _ Hr.out.lt).trans Hr.out
      have hcr2 := hr2.cell
      have hfr2 := hr2.frozen
      have Hr2 := hide hr2
      have Hb2 := hide hb2
      clear hr2 hb2 hcr hfr
      gi_wp2
      exact ⟨⟨Nat.le_trans Hb2.out.size (by simp), fun k o hk ho _ => (Below.heap_setCell _ _ _ _ (by have := Hkz.out; intro e; simp at e; omega)).trans ((Hb2.out.block k (Array.getElem?_eq_some_iff.1 ho).1).trans ho)⟩, rfl, HX.out, Hr2.out.set _, (Hb.out.trans (Hb2.out.mono Hb.out.size)).setCell (Nat.le_refl _) _, Nat.le_trans Hws.out (Nat.le_trans Hb2.out.size (by simp))⟩
    · rw [hpx] at HC
      have HX : Hid (((pre ++ [x]).all fun x => plainB (nums x)) = true) := hide (by rw [List.all_append, HP.out]; simp [hpx])
      clear hpx
      gi_wp2_with fail
      refine ⟨trivial, ?_⟩
      refine (CallsIn.inRound l (callsIn_wide.2 HC.out)).mono ?_
      rintro e w2 ⟨rfl, hb2⟩
      have hr2 : Boxed w2 w.heap.size 4 (.bool false) := (hb2.block _ Hr.out.lt).trans Hr.out
      have hcr2 := hr2.cell
      have hfr2 := hr2.frozen
      have Hr2 := hide hr2
      have Hb2 := hide hb2
      clear hr2 hb2 hcr hfr
      gi_wp2
      exact ⟨⟨Hb2.out.size, fun k o _ ho _ => (Hb2.out.block k (Array.getElem?_eq_some_iff.1 ho).1).trans ho⟩, Hb2.out.mono (by rw [Hkz.out]; exact Hws.out), HX.out, Hr2.out, Hb.out.trans (Hb2.out.mono Hb.out.size), Nat.le_trans Hws.out Hb2.out.size⟩
  case done =>
    rintro D' xs W hD' hS ⟨hp, hr, hb, _⟩ hK
    have HB : Hid (D = true) := hide (by rw [HD.out, ← hS, List.all_map]; exact hp)
    have hcr := hr.cell
    have hfr := hr.frozen
    have Hr := hide hr
    have Hb := hide hb
    have HK := hide hK
    have Hkz := hide kz
    clear hp hr hb k1 k2 k3 kb kz kr hb1 e2 e3 hz hS hK
    gi_wp2
    have hK' := (KeepsOthers.setCell W ⟨w.heap.size, 0, none⟩ (.bool true)).same D' _ HK.out rfl
    refine ⟨by simp, .inl ⟨_, _, rfl, run_takeDeferred hK', ?_⟩⟩
    have hc5 := cell_kept (World.cell?_setCell_same' W ⟨w.heap.size, 0, none⟩ (.bool true) (by rw [hcr]; rfl)) (grownBy_putObj' _ D' (.deferred none)) (fun r e => by cases e; exact ⟨_, hK', rfl⟩)
    refine ⟨.bool true, ?_, ret_bool HB.out.symm, ?_⟩
    · simp [results, Tryz.f49, go_sem, hc5]
    · exact (Hb.out.setCell (p := ⟨w.heap.size, 0, none⟩) (Nat.le_refl _) _).trans (belowK_b (w := w) (Nat.le_refl _) _ D' _ _ (by have := Hkz.out; omega) hK' rfl rfl)
  case stop =>
    rintro D' c pre W hD' ⟨rest, hS⟩ ⟨rfl, hp, hr, hb, _⟩ hK
    have HB : Hid (D = false) := hide (by rw [HD.out, ← hS, List.all_append, List.all_map]; simp only [Function.comp_def, hp, Bool.false_and])
    have hcr := hr.cell
    have Hr := hide hr
    have Hb := hide hb
    have HK := hide hK
    have Hkz := hide kz
    clear hp hr hb k1 k2 k3 kb kz kr hb1 e2 e3 hz hS hK
    gi_wp2
    refine ⟨by simp, .inl ⟨_, _, rfl, run_takeDeferred HK.out, ?_⟩⟩
    have hc5 := cell_kept hcr (grownBy_putObj' _ D' (.deferred none)) (fun r e => by cases e; exact ⟨_, HK.out, rfl⟩)
    refine ⟨.bool false, ?_, ret_bool HB.out.symm, ?_⟩
    · simp [results, Tryz.f49, go_sem, hc5]
    · exact Hb.out.trans (belowK_b (w := w) (Nat.le_refl _) _ D' _ _ (by have := Hkz.out; omega) HK.out rfl rfl)

theorem class_any (s : ByteArray) (w : World) : Calls Tryz.prog 49 #[.string s] w (Tells (classB (nums s)) w) := by
  by_cases h : 255 < s.size
  · rw [classB_long (by rw [nums_len]; exact h)]
    exact class_long s w h
  · exact class_short s w (by omega)
end Go.Proofs.YtbdbcalmjbmflaaGreatDoor
