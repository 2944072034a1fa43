/- The code's small functions of one type: which kinds are single, words. Nothing is claimed here. -/
import Derived.Test.YtjlcocalpjeghaaDoorDescrRef
import Derived.Test.YtjlcocalpjeghaaDoorNamesClass
namespace Go.Proofs.YtjlcocalpjeghaaDoor
open Go.RowKit

def sBases : ByteArray := ⟨#[66, 67, 73, 74, 83, 90]⟩
theorem bases_idx (c : Int) (h0 : 0 ≤ c) (h1 : c < 256) : decide (0 ≤ Lib.indexByte sBases.data.toList c.toNat.toUInt8) = baseB c := by
  have : ∀ n : Fin 256, decide (0 ≤ Lib.indexByte sBases.data.toList n.val.toUInt8) = baseB (n.val : Int) := by decide +kernel
  have := this ⟨c.toNat, by omega⟩
  simpa [Int.toNat_of_nonneg h0] using this
theorem isbase_any (c : Int) (w : World) (h0 : 0 ≤ c) (h1 : c < 256) : Calls Tryd.prog 21 #[.int .u8 c] w fun e w' => e = .returned (.bool (baseB c)) ∧ w = w' := by
  have H : Hid (∀ W, Calls Tryd.prog 30 #[.string sBases, .int .u8 c] W fun e w' => e = .returned (.int .i64 (Lib.indexByte sBases.data.toList c.toNat.toUInt8)) ∧ w' = W) := hide fun W => Tryd.strings_IndexByte sBases c W
  have HB := hide (bases_idx c h0 h1)
  generalize Lib.indexByte sBases.data.toList c.toNat.toUInt8 = r at *
  go_enter Tryd.func21, Tryd.ntmps21
  go_wp2_with fail
  refine (H.out _).mono ?_
  rintro e w1 ⟨rfl, rfl⟩
  go_wp2_with fail
  go_ret
  exact ⟨ret_bool HB.out, rfl⟩

theorem words_any (t : Ty) (w : World) (h0 : 0 ≤ t.kind) (h1 : t.kind < 256) : Calls Tryd.prog 12 #[t.val] w fun e w' => e = .returned (.int .i64 (words t.kind)) ∧ Below w.heap.size w w' := by
  obtain ⟨k, n, d, x⟩ := t
  simp only [Ty.val] at *
  generalize strOfNums n = s
  have HI : Hid (∀ W, Calls Tryd.prog 21 #[.int .u8 k] W fun e w' => e = .returned (.bool (baseB k)) ∧ W = w') := hide fun W => isbase_any k W h0 h1
  have H := hide (show ∀ k, words k = if k = 74 then 2 else if baseB k = true ∨ k = 76 ∨ k = 91 then 1 else 0 from fun _ => rfl)
  by_cases hj : k = 74
  · have b1 : (k == 74) = true := by simpa using hj
    have HV : Hid (words k = 2) := hide (by rw [H.out, if_pos hj])
    clear hj
    go_enter Tryd.func12, Tryd.ntmps12
    go_wp2_with fail
    go_ret
    exact ⟨ret_int HV.out.symm, below_one _ _⟩
  · have b1 : (k == 74) = false := by simpa using hj
    cases hb : baseB k
    · by_cases hl : k = 76
      · have b2 : (k == 76) = true := by simpa using hl
        have HV : Hid (words k = 1) := hide (by rw [H.out, if_neg hj, if_pos (.inr (.inl hl))])
        rw [hb] at HI
        clear hj hb hl
        go_enter Tryd.func12, Tryd.ntmps12
        go_wp2_with fail
        refine (HI.out _).mono ?_
        rintro e w1 ⟨rfl, rfl⟩
        go_wp2_with fail
        go_ret
        exact ⟨ret_int HV.out.symm, below_one _ _⟩
      · have b2 : (k == 76) = false := by simpa using hl
        by_cases ha : k = 91
        · have b3 : (k == 91) = true := by simpa using ha
          have HV : Hid (words k = 1) := hide (by rw [H.out, if_neg hj, if_pos (.inr (.inr ha))])
          rw [hb] at HI
          clear hj hb hl ha
          go_enter Tryd.func12, Tryd.ntmps12
          go_wp2_with fail
          refine (HI.out _).mono ?_
          rintro e w1 ⟨rfl, rfl⟩
          go_wp2_with fail
          go_ret
          exact ⟨ret_int HV.out.symm, below_one _ _⟩
        · have b3 : (k == 91) = false := by simpa using ha
          have HV : Hid (words k = 0) := hide (by rw [H.out, if_neg hj, if_neg (by simp [hb, hl, ha])])
          rw [hb] at HI
          clear hj hb hl ha
          go_enter Tryd.func12, Tryd.ntmps12
          go_wp2_with fail
          refine (HI.out _).mono ?_
          rintro e w1 ⟨rfl, rfl⟩
          go_wp2_with fail
          go_ret
          exact ⟨ret_int HV.out.symm, below_one _ _⟩
    · have HV : Hid (words k = 1) := hide (by rw [H.out, if_neg hj, if_pos (.inl hb)])
      rw [hb] at HI
      clear hj hb
      go_enter Tryd.func12, Tryd.ntmps12
      go_wp2_with fail
      refine (HI.out _).mono ?_
      rintro e w1 ⟨rfl, rfl⟩
      go_wp2_with fail
      go_ret
      exact ⟨ret_int HV.out.symm, below_one _ _⟩

/-- The prefix of one byte. -/
theorem cutPrefix_any (s : ByteArray) (w : World) (hm : s.size ≤ 1000000) (b : Bool) (hb : Lib.hasPrefix s.data.toList [40] = b) :
    Calls Tryd.prog 24 #[.string s, .string ⟨#[40]⟩] w fun e w' => e = .returned (.tuple #[.string (if b then s.extract 1 s.size else s), .bool b]) ∧ w = w' := by
  have H : Hid (∀ W, Calls Tryd.prog 34 #[.string s, .string ⟨#[40]⟩] W fun e w' => e = .returned (.bool b) ∧ w' = W) := hide fun W => hb ▸ Tryd.stringslite_HasPrefix s ⟨#[40]⟩ W
  have H2 : Hid (∀ W, Calls Tryd.prog 33 #[.string s, .string ⟨#[40]⟩] W fun e w' => e = .returned (.tuple #[.string (if b then s.extract 1 s.size else s), .bool b]) ∧ W = w') := hide fun W => by
    cases b
    · go_enter Tryd.func33, Tryd.ntmps33
      go_wp2_with fail
      refine (H.out _).mono ?_
      rintro e w1 ⟨rfl, rfl⟩
      go_wp2_with fail
      go_ret2
      exact ⟨rfl, rfl⟩
    · have hz : (1 : Int) ≤ (s.size : Int) := by
        cases h : s.data.toList with
        | nil => rw [h] at hb; cases hb
        | cons a r => have := Lib.size_eq s; rw [h] at this; simp at this; omega
      go_enter Tryd.func33, Tryd.ntmps33
      go_wp2_with fail
      refine (H.out _).mono ?_
      rintro e w1 ⟨rfl, rfl⟩
      go_wp2_with fail
      go_ret2
      exact ⟨rfl, rfl⟩
  generalize (if b then s.extract 1 s.size else s) = x at *
  go_enter Tryd.func24, Tryd.ntmps24
  go_wp2_with fail
  refine (H2.out _).mono ?_
  rintro e w1 ⟨rfl, rfl⟩
  go_wp2_with fail
  go_ret2
  exact ⟨rfl, rfl⟩

/-! ### what Go's library says of a text, as numbers -/
theorem prefix_head (s : ByteArray) (c : UInt8) : Lib.hasPrefix s.data.toList [c] = decide ((nums s).head? = some ((c.toNat : Nat) : Int)) := by
  unfold nums Lib.hasPrefix
  cases s.data.toList with
  | nil => rfl
  | cons a r =>
    simp only [List.isPrefixOf_cons_cons, List.isPrefixOf_nil_left, Bool.and_true, List.map_cons, List.head?_cons, Option.some.injEq]
    by_cases h : c = a
    · subst h; simp
    · have : ¬ ((a.toNat : Nat) : Int) = ((c.toNat : Nat) : Int) := fun e => h (UInt8.toNat_inj.1 (by omega))
      simp [h, this]
theorem tw_map (l : List UInt8) (c : UInt8) : (l.takeWhile (· == c)).length = ((l.map fun b => ((b.toNat : Nat) : Int)).takeWhile (· == ((c.toNat : Nat) : Int))).length := by
  induction l with
  | nil => rfl
  | cons a r ih =>
    by_cases h : a = c
    · subst h; simp [ih]
    · have : ¬ ((a.toNat : Nat) : Int) = ((c.toNat : Nat) : Int) := fun e => h (UInt8.toNat_inj.1 (by omega))
      simp [h, this]
theorem dropWhile_drop (l : List UInt8) (p : UInt8 → Bool) : l.dropWhile p = l.drop (l.takeWhile p).length := by
  induction l with
  | nil => rfl
  | cons a r ih =>
    by_cases h : p a = true
    · simp [h, ih]
    · simp [h]
theorem trim_drop (s : ByteArray) : (⟨(Lib.trimLeftB s.data.toList 91).toArray⟩ : ByteArray) = s.extract (dimsL (nums s)) s.size := by
  apply nums_inj
  rw [nums_from]
  unfold nums dimsL Lib.trimLeftB
  rw [dropWhile_drop, tw_map, List.map_drop]
  rfl
theorem index_cons (a : UInt8) (r : List UInt8) (h : a ≠ 59) : Lib.index (a :: r) [59] = if Lib.index r [59] == -1 then -1 else Lib.index r [59] + 1 := by
  have hp : ([59] : List UInt8).isPrefixOf (a :: r) = false := by
    have : ((59 : UInt8) == a) = false := by simpa using Ne.symm h
    rw [List.isPrefixOf_cons_cons, this]; rfl
  rw [Lib.index, hp]; rfl
theorem index_semi (l : List UInt8) : Lib.index l [59] = if (59 : Int) ∈ l.map (fun b => ((b.toNat : Nat) : Int)) then (((l.map fun b => ((b.toNat : Nat) : Int)).takeWhile (· != 59)).length : Int) else -1 := by
  induction l with
  | nil => rfl
  | cons a r ih =>
    by_cases h : a = 59
    · subst h
      simp [Lib.index, show ((59 : UInt8).toNat) = 59 from rfl]
    · have hn : ¬ ((a.toNat : Nat) : Int) = 59 := fun e => h (UInt8.toNat_inj.1 (by have : ((59 : UInt8).toNat) = 59 := rfl; omega))
      rw [index_cons a r h, ih]
      have hn' : ¬ (59 : Int) = ((a.toNat : Nat) : Int) := fun e => hn e.symm
      generalize hq : r.map (fun b => ((b.toNat : Nat) : Int)) = q
      rw [List.map_cons, hq]
      by_cases hm : (59 : Int) ∈ q
      · rw [if_pos hm, if_pos (List.mem_cons_of_mem _ hm), List.takeWhile_cons]
        simp only [bne_iff_ne, ne_eq, hn, not_false_eq_true, if_true, List.length_cons]
        rw [if_neg (by simp)]
        rfl
      · have : ¬ (59 : Int) ∈ ((a.toNat : Nat) : Int) :: q := fun e => by
          rcases List.mem_cons.1 e with e | e
          · exact hn' e
          · exact hm e
        rw [if_neg hm, if_neg this]
        rfl
/-- A text cut at its first semicolon. -/
def semiV (x : ByteArray) : Value :=
  if (59 : Int) ∈ nums x then .tuple #[.string (x.extract 0 ((nums x).takeWhile (· != 59)).length), .string (x.extract (((nums x).takeWhile (· != 59)).length + 1) x.size), .bool true]
  else .tuple #[.string x, .string ⟨#[]⟩, .bool false]
theorem cutsemi_any (x : ByteArray) (w : World) (hm : x.size ≤ 1000000) (hw : Maxed w) :
    Calls Tryd.prog 39 #[.string x, .string ⟨#[59]⟩] w fun e w' => e = .returned (semiV x) ∧ ∃ n, w' = w.drewN n := by
  obtain ⟨m, hmx⟩ := hw
  refine (Tryd.strings_Cut x ⟨#[59]⟩ m w (by omega) hmx).mono ?_
  rintro e w' ⟨rfl, hn⟩
  refine ⟨?_, hn⟩
  have hi := index_semi x.data.toList
  have hx : x.data.toList.map (fun b => ((b.toNat : Nat) : Int)) = nums x := rfl
  rw [hx] at hi
  unfold semiV Lib.cut
  show Ending.returned (Value.tuple #[.string ⟨(if 0 ≤ Lib.index x.data.toList [59] then _ else _ : List UInt8 × List UInt8 × Bool).1.toArray⟩, .string ⟨(if 0 ≤ Lib.index x.data.toList [59] then _ else _ : List UInt8 × List UInt8 × Bool).2.1.toArray⟩, .bool (if 0 ≤ Lib.index x.data.toList [59] then _ else _ : List UInt8 × List UInt8 × Bool).2.2]) = _
  by_cases h : (59 : Int) ∈ nums x
  · rw [if_pos h] at hi ⊢
    rw [hi, if_pos (by omega)]
    simp only [Int.toNat_natCast, List.length_singleton]
    have e1 : (⟨(x.data.toList.take ((nums x).takeWhile (· != 59)).length).toArray⟩ : ByteArray) = x.extract 0 ((nums x).takeWhile (· != 59)).length := by
      apply nums_inj
      rw [nums_cut]
      simp [nums, List.map_take]
    have e2 : (⟨(x.data.toList.drop (((nums x).takeWhile (· != 59)).length + 1)).toArray⟩ : ByteArray) = x.extract (((nums x).takeWhile (· != 59)).length + 1) x.size := by
      apply nums_inj
      rw [nums_from]
      simp [nums, List.map_drop]
    rw [← e1, ← e2]
  · rw [if_neg h] at hi ⊢
    rw [hi, if_neg (by omega)]
end Go.Proofs.YtjlcocalpjeghaaDoor
