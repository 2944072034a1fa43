/- strings.ContainsAny for some ASCII chars, of any string. Nothing is claimed here. -/
import Derived.Test.YtjlcocalpjeghaaDoorNamesRef
import Derived.Test.YtjlcocalpjeghaaDoorShelf
import Derived.Lib.OthersKept
import Derived.Laws.Runes
import Derived.IntWalk
namespace Go.Proofs.YtjlcocalpjeghaaDoor
open Go.RowKit

theorem iterPos_of {w : World} {k : Nat} {s : ByteArray} {p : Nat} (h : w.heap[k]? = some (.stringIter s p)) : w.iterPos k = p := by simp [World.iterPos, h]

/-- A call that leaves each world alone, in a second region that draws. -/
theorem quiet_behind {P : Program} {f : FuncId} {args : Array Value} {w : World} {a n : Nat} {v : Value} (h : ∀ W, Calls P f args W fun e w' => e = .returned v ∧ W = w') :
    Calls P f args (w.drewN (a + n)) fun e w'' => e = .returned v ∧ ∃ m, w'' = w.drewN (a + m) := (h _).mono fun _ _ hh => ⟨hh.1, n, hh.2.symm⟩

/-- Bytes that are no char of ASCII do not stand in a text of ASCII. -/
def IsAscii (s : ByteArray) : Prop := ∀ (j : Nat) b, s.data.toList[j]? = some b → b.toNat < 128
theorem ascii_at {s : ByteArray} (h : IsAscii s) (k : Nat) (hk : k < s.size) : (s[k].toNat : Int) < 128 := by
  have := h k s[k] (Lib.data_getElem? s k hk)
  omega
theorem ascii_from {s : ByteArray} (h : IsAscii s) (n : Nat) : IsAscii (s.extract n s.size) := by
  intro j b hb
  rw [Lib.extract_to_end, List.getElem?_drop] at hb
  exact h _ _ hb
theorem ascii_no {l : List UInt8} (h : ∀ (j : Nat) b, l[j]? = some b → b.toNat < 128) (c : UInt8) (hc : 128 ≤ c.toNat) : Lib.indexByte l c = -1 := by
  induction l with
  | nil => rfl
  | cons b t ih =>
    have hb := h 0 b rfl
    have e : (b == c) = false := by
      rw [beq_eq_false_iff_ne]
      rintro rfl
      omega
    rw [Lib.indexByte, e, ih (fun j x hx => h (j + 1) x hx)]
    rfl

/-- The last byte of a rune beyond ASCII. -/
theorem encode_last (r : Int) (h : 128 ≤ r) : ∃ m b, (Utf8.encode r).size = m + 1 ∧ m ≤ 3 ∧ (Utf8.encode r).data.toList[m]? = some b ∧ 128 ≤ b.toNat := by
  have hb : ∀ n : Nat, n < 64 → 128 ≤ (UInt8.ofNat (128 + n)).toNat := fun n hn => by simp; omega
  unfold Utf8.encode
  dsimp only
  have hc : 128 ≤ (if Utf8.valid r = true then r.toNat else Utf8.runeError) := by
    split
    · omega
    · decide
  generalize (if Utf8.valid r = true then r.toNat else Utf8.runeError) = c at *
  rw [if_neg (by omega)]
  split
  · exact ⟨1, _, rfl, by omega, rfl, hb _ (by omega)⟩
  · split
    · exact ⟨2, _, rfl, by omega, rfl, hb _ (by omega)⟩
    · exact ⟨3, _, rfl, by omega, rfl, hb _ (by omega)⟩

set_option maxHeartbeats 4000000 in
set_option maxRecDepth 1000000 in
/-- A rune beyond ASCII does not stand in a text of ASCII. -/
theorem indexrune_no (s : ByteArray) (r : Int) (w : World) (hs : IsAscii s) (_hz : s.size ≤ 1000000) (h : 128 ≤ r) (hr : r ≤ 2147483647) :
    Calls Tryd.prog 63 #[.string s, .int .i32 r] w fun e w' => e = .returned (.int .i64 (-1)) ∧ Below w.heap.size w w' := by
  have HS := hide hs
  clear hs
  by_cases he : r = 65533
  · subst he
    clear h hr
    go_enter Tryd.func63, Tryd.ntmps63
    go_wp2_with fail
    have h0 : (w.iter s 0).heap[w.heap.size]? = some (.stringIter s 0) := World.iter_heap w s 0
    have hb0 : Below w.heap.size w (w.iter s 0) := (Below.refl _ _).alloc (Nat.le_refl _) _
    go_loopw [5, 6] (fun _ _ wr => ∃ p : Nat, p ≤ s.size ∧ wr.heap[w.heap.size]? = some (.stringIter s p) ∧ Below w.heap.size w wr) (fun _ _ wr => s.size - wr.iterPos w.heap.size)
    case atStart => exact ⟨0, Nat.zero_le _, h0, hb0⟩
    case round =>
      obtain ⟨p, hp, hit, hb⟩ := hrel
      have Hb := hide hb
      have hpos := iterPos_of hit
      clear hb
      by_cases hlt : p < s.size
      · have hnx : ∀ ty, (Instr.next (.pointer (some ⟨w.heap.size, 0, none⟩)) true ty).run Tryd.prog wr = _ := fun ty => Lib.run_next_ascii_at wr w.heap.size s p ty hit hlt (by have := ascii_at HS.out p hlt; omega)
        have ha := ascii_at HS.out p hlt
        have Hit := hide (Lib.iterAt_heap wr w.heap.size s p (p + 1) hit)
        have Hb2 := hide (Lib.below_iterAt Hb.out (Nat.le_refl _) s (p + 1))
        have Hpos := hide hpos
        have hne : (((s[p].toNat : Nat) : Int) == 65533) = false := by simp; omega
        clear hit hpos
        go_wp2_with fail
        go_roundw
        case rel => exact ⟨p + 1, by omega, Hit.out, Hb2.out⟩
        case measure => rw [iterPos_of Hit.out, Hpos.out]; omega
      · have hnx : ∀ ty, (Instr.next (.pointer (some ⟨w.heap.size, 0, none⟩)) true ty).run Tryd.prog wr = _ := fun ty => Lib.run_next_end_at wr w.heap.size s p ty hit hlt
        clear hit hpos
        go_wp2_with fail
        go_ret
        exact ⟨rfl, Hb.out⟩
  · have he' : (r == 65533) = false := by simpa using he
    have HV : Hid (∀ W, ∃ v, Calls Tryd.prog 72 #[.int .i32 r] W fun e w' => e = .returned (.bool v) ∧ W = w') := hide fun W => ⟨_, (Tryd.utf8_ValidRune r W).mono fun e w' h => ⟨h.1, h.2.symm⟩⟩
    obtain ⟨v, hv⟩ := HV.out w
    have Hv := hide hv
    clear he hv HV
    cases v
    · go_enter Tryd.func63, Tryd.ntmps63
      go_wp2_with (go_at_call 72; refine Hv.out.mono ?_; rintro e w1 ⟨rfl, rfl⟩)
      go_ret
      exact ⟨rfl, Below.refl _ _⟩
    · obtain ⟨m, b, h1, h2, h3, h4⟩ := encode_last r h
      have hcv : ∀ W, (convert 21 9 (.int .i32 r)).run Tryd.prog W = .ok (.string (Utf8.encode r)) W := fun W => run_convert_int_string W 21 9 .i32 r (by kernel_rfl) Tryd.underlying9
      generalize Utf8.encode r = rs at *
      have hrs : m < rs.size := by omega
      have hb : rs[m] = b := by
        have := Lib.data_getElem? rs m hrs
        rw [this] at h3
        exact Option.some.inj h3
      have Hrs := hide h1
      have hsz : (rs.size : Int) - 1 = (m : Int) := by omega
      clear h1 h3
      by_cases hlt : m < s.size
      · have ha := ascii_at HS.out m hlt
        have hne : (((s[m].toNat : Nat) : Int) == ((b.toNat : Nat) : Int)) = false := by simp; omega
        have hne' : (((s[m].toNat : Nat) : Int) != ((b.toNat : Nat) : Int)) = true := by simp; omega
        have HI : Hid (∀ W, Calls Tryd.prog 30 #[.string (s.extract (m + 1) s.size), .int .u8 ((b.toNat : Nat) : Int)] W fun e w' => e = .returned (.int .i64 (-1)) ∧ W = w') := hide fun W => by
          refine (Tryd.strings_IndexByte (s.extract (m + 1) s.size) ((b.toNat : Nat) : Int) W).mono fun e w' hh => ⟨hh.1.trans ?_, hh.2.symm⟩
          rw [ascii_no (ascii_from HS.out _) _ (by simpa using h4)]
        go_enter Tryd.func63, Tryd.ntmps63
        go_wp2_with (go_at_call 72; refine Hv.out.mono ?_; rintro e w1 ⟨rfl, rfl⟩)
        go_step3
        go_wp2_with fail
        go_loopw [9, 10] (fun iv fv wr => iv = .int .i64 (m : Int) ∧ fv = .int .i64 0 ∧ wr = w) (fun _ _ _ => 0)
        case atStart => exact ⟨rfl, rfl, rfl⟩
        case round =>
          obtain ⟨rfl, rfl, rfl⟩ := hrel
          have hlt' : (m : Int) < (s.size : Int) := by omega
          have hrs' : (m : Int) < (rs.size : Int) := by omega
          have q1 : IntKind.i64.wrap ((m : Int) + 1) = (m : Int) + 1 := IntWalk.i64_in _ (by omega)
          have q2 : 0 ≤ (m : Int) + 1 := by omega
          have q3 : ((m : Int) + 1).toNat = m + 1 := by omega
          have q4 : (m : Int) + 1 ≤ (s.size : Int) := by omega
          go_wp2_with fail
          go_step3
          go_wp2_with fail
          go_quiet (fail)
          go_wp2_with fail
          go_quiet ((go_at_call 30; exact quiet_behind HI.out))
          clear q1 q2 q3
          go_wp2_with fail
          simp +zetaDelta only [Exit.noGoto_ret, Exit.inBlock, Exit.then]
          go_ret
          exact ⟨rfl, below_drewN (Below.refl _ _) _⟩
      · go_enter Tryd.func63, Tryd.ntmps63
        go_wp2_with (go_at_call 72; refine Hv.out.mono ?_; rintro e w1 ⟨rfl, rfl⟩)
        go_step3
        go_wp2_with fail
        go_loopw [9, 10] (fun iv fv wr => iv = .int .i64 (m : Int) ∧ fv = .int .i64 0 ∧ wr = w) (fun _ _ _ => 0)
        case atStart => exact ⟨rfl, rfl, rfl⟩
        case round =>
          obtain ⟨rfl, rfl, rfl⟩ := hrel
          go_wp2_with fail
          simp +zetaDelta only [Exit.noGoto_ret, Exit.inBlock]
          go_ret
          exact ⟨rfl, Below.refl _ _⟩

theorem get_num (s : ByteArray) (k : Nat) (h : k < s.size) : ((s.get! k).toNat : Int) = (nums s).getD k 0 := by
  rw [num_at s k h]
  have : s.get! k = s[k] := by simp [ByteArray.get!, getElem!_pos, h]; rfl
  rw [this]
/-- What a rune beyond ASCII takes of a text. -/
theorem decode_wide (s : ByteArray) (p : Nat) (h : p < s.size) (ha : 128 ≤ (nums s).getD p 0) :
    p + (Utf8.decode s p).2 ≤ s.size ∧ 1 ≤ (Utf8.decode s p).2 ∧ ∀ j, p ≤ j → j < p + (Utf8.decode s p).2 → 128 ≤ (nums s).getD j 0 := by
  have h0 : 128 ≤ (s.get! (p + 0)).toNat := by have := get_num s p h; rw [Nat.add_zero]; omega
  have hk : ∀ k, (decide (p + k < s.size) && (s.get! (p + k)).toNat / 64 == 2) = true → p + k < s.size ∧ 128 ≤ (nums s).getD (p + k) 0 := fun k hh => by
    simp at hh
    have := get_num s (p + k) hh.1
    exact ⟨hh.1, by omega⟩
  have one : p + 1 ≤ s.size ∧ 1 ≤ 1 ∧ ∀ j, p ≤ j → j < p + 1 → 128 ≤ (nums s).getD j 0 := ⟨by omega, by omega, fun j h1 h2 => by rw [show j = p by omega]; exact ha⟩
  unfold Utf8.decode
  dsimp only
  rw [if_neg (by omega)]
  split
  · rename_i c
    simp only [Bool.and_eq_true] at c
    have k1 := hk 1 (by simpa using c.2)
    split
    · exact ⟨by omega, by omega, fun j h1 h2 => by
        rcases (by omega : j = p ∨ j = p + 1) with rfl | rfl
        · exact ha
        · exact k1.2⟩
    · exact one
  · split
    · rename_i c
      simp only [Bool.and_eq_true] at c
      have k1 := hk 1 (by simpa using c.1.2)
      have k2 := hk 2 (by simpa using c.2)
      split
      · exact ⟨by omega, by omega, fun j h1 h2 => by
          rcases (by omega : j = p ∨ j = p + 1 ∨ j = p + 2) with rfl | rfl | rfl
          · exact ha
          · exact k1.2
          · exact k2.2⟩
      · exact one
    · split
      · rename_i c
        simp only [Bool.and_eq_true] at c
        have k1 := hk 1 (by simpa using c.1.1.2)
        have k2 := hk 2 (by simpa using c.1.2)
        have k3 := hk 3 (by simpa using c.2)
        split
        · exact ⟨by omega, by omega, fun j h1 h2 => by
            rcases (by omega : j = p ∨ j = p + 1 ∨ j = p + 2 ∨ j = p + 3) with rfl | rfl | rfl | rfl
            · exact ha
            · exact k1.2
            · exact k2.2
            · exact k3.2⟩
        · exact one
      · exact one

theorem hasB_skip {cs l : List Int} {p : Nat} (hcs : ∀ c ∈ cs, c < 128) : ∀ d, p + d ≤ l.length → (∀ j, p ≤ j → j < p + d → 128 ≤ l.getD j 0) → hasB cs (l.take p) = false → hasB cs (l.take (p + d)) = false
  | 0, _, _, h => h
  | d + 1, hl, hj, h => by
    have ih := hasB_skip hcs d (by omega) (fun j h1 h2 => hj j h1 (by omega)) h
    refine hasB_take (k := p + d) (by omega) ih ?_
    have h1 := hj (p + d) (by omega) (by omega)
    cases e : cs.contains (l.getD (p + d) 0)
    · rfl
    · have := hcs _ (List.contains_iff_mem.1 e)
      omega

theorem ascii_nums {s : ByteArray} (h : IsAscii s) : ∀ c ∈ nums s, c < 128 := by
  intro c hc
  simp only [nums, List.mem_map] at hc
  obtain ⟨b, hb, rfl⟩ := hc
  obtain ⟨j, hj⟩ := List.getElem?_of_mem hb
  have := h j b hj
  omega
theorem contains_nums (s : ByteArray) (b : UInt8) : (nums s).contains ((b.toNat : Nat) : Int) = s.data.toList.contains b := by
  rw [Bool.eq_iff_iff]
  simp only [List.contains_iff_mem, nums, List.mem_map]
  constructor
  · rintro ⟨x, hx, e⟩
    have : x = b := UInt8.toNat_inj.1 (by omega)
    exact this ▸ hx
  · exact fun h => ⟨b, h, rfl⟩
theorem indexAny_has (l cs : List UInt8) (s : ByteArray) (hs : s.data.toList = cs) : decide (0 ≤ Lib.indexAny l cs) = hasB (nums s) (l.map fun b => ((b.toNat : Nat) : Int)) := by
  induction l with
  | nil => rfl
  | cons b t ih =>
    have hge := Lib.indexAny_ge cs t
    have e : hasB (nums s) ((b :: t).map fun b => ((b.toNat : Nat) : Int)) = (cs.contains b || hasB (nums s) (t.map fun b => ((b.toNat : Nat) : Int))) := by
      simp only [hasB, List.map_cons, List.any_cons, contains_nums, hs]
    rw [e, ← ih, Lib.indexAny]
    cases hc : cs.contains b
    · by_cases h1 : Lib.indexAny t cs = -1
      · rw [h1]; rfl
      · have h2 : (Lib.indexAny t cs == -1) = false := by simpa using h1
        simp only [Bool.false_eq_true, if_false, h2, Bool.false_or]
        have : 0 ≤ Lib.indexAny t cs := by omega
        simp [this]; omega
    · simp

/-- What IndexAny tells. -/
def AnyTells (b : Bool) (w : World) (e : Ending) (w' : World) : Prop := ∃ r : Int, decide (0 ≤ r) = b ∧ e = .returned (.int .i64 r) ∧ Below w.heap.size w w'
theorem AnyTells.no {b : Bool} {w w' : World} {e : Ending} (h : b = false) (he : e = .returned (.int .i64 (-1))) (hb : Below w.heap.size w w') : AnyTells b w e w' := ⟨-1, by rw [h]; rfl, he, hb⟩
theorem AnyTells.yes {b : Bool} {w w' : World} {e : Ending} (n : Nat) (h : b = true) (he : e = .returned (.int .i64 n)) (hb : Below w.heap.size w w') : AnyTells b w e w' := ⟨n, by rw [h]; simp, he, hb⟩

set_option maxHeartbeats 4000000 in
set_option maxRecDepth 1000000 in
theorem indexany_short (s cs : ByteArray) (w : World) (h8 : s.size ≤ 8) (hc2 : 2 ≤ cs.size) (hcz : cs.size ≤ 1000000) (hcs : IsAscii cs) :
    Calls Tryd.prog 70 #[.string s, .string cs] w (AnyTells (hasB (nums cs) (nums s)) w) := by
  obtain ⟨D, hD⟩ : ∃ D, hasB (nums cs) (nums s) = D := ⟨_, rfl⟩
  rw [hD]
  have HD := hide hD
  have HS := hide hcs
  have hemp : cs.toList.isEmpty = false := by
    rw [Lib.toList_data]
    cases h : cs.data.toList with
    | nil => have := Lib.size_eq cs; rw [h, List.length_nil] at this; omega
    | cons _ _ => rfl
  have hn1 : ((cs.size : Int) == 1) = false := beq_eq_false_iff_ne.2 (by omega)
  have h8z : decide ((8 : Int) < (s.size : Int)) = false := decide_eq_false (by omega)
  have HU : Hid (∀ W, Calls Tryd.prog 76 #[.int .i64 (s.size : Int)] W fun e w' => e = .returned (.bool false) ∧ W = w') := hide fun W => (Tryd.strings_shouldUseASCIISet _ W).mono fun e w' hh => ⟨by rw [hh.1, h8z], hh.2.symm⟩
  clear hD hcs h8z
  go_enter Tryd.func70, Tryd.ntmps70
  go_wp2_with (go_at_call 76; refine (HU.out _).mono ?_; rintro e w1 ⟨rfl, rfl⟩)
  have h0 : (w.iter s 0).heap[w.heap.size]? = some (.stringIter s 0) := World.iter_heap w s 0
  have hb0 : Below w.heap.size w (w.iter s 0) := (Below.refl _ _).alloc (Nat.le_refl _) _
  go_loopw [9, 10] (fun _ _ wr => ∃ p : Nat, p ≤ s.size ∧ wr.heap[w.heap.size]? = some (.stringIter s p) ∧ Below w.heap.size w wr ∧ hasB (nums cs) ((nums s).take p) = false) (fun _ _ wr => s.size - wr.iterPos w.heap.size)
  case atStart => exact ⟨0, Nat.zero_le _, h0, hb0, rfl⟩
  case round =>
    obtain ⟨p, hp, hit, hb, hh⟩ := hrel
    have Hb := hide hb
    have HH := hide hh
    have hpos := hide (iterPos_of hit)
    clear hb hh
    by_cases hlt : p < s.size
    · have hsl : p < (nums s).length := by rw [nums_len]; exact hlt
      have HN := hide (num_at s p hlt)
      by_cases ha : ((s[p].toNat : Nat) : Int) < 128
      · have hnx : ∀ ty, (Instr.next (.pointer (some ⟨w.heap.size, 0, none⟩)) true ty).run Tryd.prog wr = _ := fun ty => Lib.run_next_ascii_at wr w.heap.size s p ty hit hlt (by omega)
        have Hit := hide (Lib.iterAt_heap wr w.heap.size s p (p + 1) hit)
        have Hb2 := hide (Lib.below_iterAt Hb.out (Nat.le_refl _) s (p + 1))
        have hcon := Lib.contains_iff_indexByte cs.data.toList s[p]
        rw [← contains_nums] at hcon
        have HI : Hid (∀ W, Calls Tryd.prog 63 #[.string cs, .int .i32 ((s[p].toNat : Nat) : Int)] W fun e w' => e = .returned (.int .i64 (Lib.indexByte cs.data.toList s[p])) ∧ W = w') := hide fun W =>
          (Tryd.strings_IndexRune_ascii cs _ W (by omega) ha).mono fun e w' hh => ⟨by rw [hh.1]; simp, hh.2.symm⟩
        have HK := hide (fun h => hasB_take hsl HH.out (by rw [HN.out]; exact h))
        have HY := hide (fun h => hasB_at (cs := nums cs) hsl (by rw [HN.out]; exact h))
        have Hcon := hide hcon
        clear hit hcon
        generalize Lib.indexByte cs.data.toList s[p] = ix at *
        cases hct : (nums cs).contains ((s[p].toNat : Nat) : Int)
        · have hix : ix < 0 := by have := Hcon.out; rw [hct] at this; have := of_decide_eq_false this.symm; omega
          have HB := hide (HK.out hct)
          clear hct
          go_wp2_with (go_at_call 63; refine (HI.out _).mono ?_; rintro e w1 ⟨rfl, rfl⟩)
          go_roundw
          case rel => exact ⟨p + 1, by omega, Hit.out, Hb2.out, HB.out⟩
          case measure => rw [iterPos_of Hit.out, hpos.out]; omega
        · have hix : 0 ≤ ix := by have := Hcon.out; rw [hct] at this; exact of_decide_eq_true this.symm
          have HB := hide (HD.out.symm.trans (HY.out hct))
          clear hct
          go_wp2_with (go_at_call 63; refine (HI.out _).mono ?_; rintro e w1 ⟨rfl, rfl⟩)
          go_ret
          exact AnyTells.yes p HB.out rfl Hb2.out
      · have ha' : 128 ≤ (nums s).getD p 0 := by rw [HN.out]; omega
        obtain ⟨hd1, hd2, hd3⟩ := decode_wide s p hlt ha'
        have hc1 : 128 ≤ ((Utf8.decode s p).1 : Int) := by have := (decode_high s p hlt (by omega)).1; omega
        have hc2 : ((Utf8.decode s p).1 : Int) ≤ 2147483647 := by have := decode_le s p; omega
        have hnx : ∀ ty, (Instr.next (.pointer (some ⟨w.heap.size, 0, none⟩)) true ty).run Tryd.prog wr = _ := fun ty => Lib.run_next_any_at wr w.heap.size s p ty hit hlt
        have HB := hide (hasB_skip (ascii_nums HS.out) _ (by rw [nums_len]; exact hd1) hd3 HH.out)
        have Hd1 := hide hd1
        have Hd2 := hide hd2
        have Hit := hide (Lib.iterAt_heap wr w.heap.size s p (p + (Utf8.decode s p).2) hit)
        have Hb2 := hide (Lib.below_iterAt Hb.out (Nat.le_refl _) s (p + (Utf8.decode s p).2))
        have HI : Hid (∀ W, Calls Tryd.prog 63 #[.string cs, .int .i32 ((Utf8.decode s p).1 : Int)] W fun e w' => e = .returned (.int .i64 (-1)) ∧ Below W.heap.size W w') := hide fun W => indexrune_no cs _ W HS.out hcz hc1 hc2
        have Hlt := hide (Lib.iterAt_size wr w.heap.size s (p + (Utf8.decode s p).2))
        have Hlt0 := hide (Array.getElem?_eq_some_iff.1 hit).1
        clear hit ha' hd1 hd2 hd3
        generalize (Utf8.decode s p).1 = c at *
        generalize (Utf8.decode s p).2 = d at *
        go_wp2_with fail
        refine (HI.out _).mono ?_
        rintro e w2 ⟨rfl, hb2⟩
        have Hb3 := hide (Hb2.out.trans (hb2.mono Hb2.out.size))
        have Hit2 := hide ((hb2.block w.heap.size (by rw [Hlt.out]; exact Hlt0.out)).trans Hit.out)
        clear hb2
        go_wp2_with fail
        go_roundw
        case rel => exact ⟨p + d, by have := Hd1.out; omega, Hit2.out, Hb3.out, HB.out⟩
        case measure => rw [iterPos_of Hit2.out, hpos.out]; have := Hd2.out; omega
    · have hnx : ∀ ty, (Instr.next (.pointer (some ⟨w.heap.size, 0, none⟩)) true ty).run Tryd.prog wr = _ := fun ty => Lib.run_next_end_at wr w.heap.size s p ty hit hlt
      have HB : Hid (D = false) := hide (by
        rw [← HD.out, ← HH.out, List.take_of_length_le (by rw [nums_len]; omega)])
      clear hit
      go_wp2_with fail
      go_ret
      exact AnyTells.no HB.out rfl Hb.out
end Go.Proofs.YtjlcocalpjeghaaDoor
