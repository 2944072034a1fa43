/- The functions of package names that ask no iterator. Nothing is claimed here. -/
import Derived.Test.YtjlcocalpjeghaaDoorNamesAny
import Derived.Lib.Replace
import Derived.Lib.SplitLaws
import Derived.Lib.IndexBytes
namespace Go.Proofs.YtjlcocalpjeghaaDoor
open Go.RowKit

theorem ascii_lit (s : ByteArray) (h : s.data.toList.all (fun b => decide (b.toNat < 128)) = true) : IsAscii s := fun j b hb => by
  have := List.all_eq_true.1 h b (List.mem_of_getElem? hb)
  simpa using this

set_option maxRecDepth 100000 in
theorem contains_any (s cs : ByteArray) (w : World) (hm : s.size ≤ 1000000) (hc2 : 2 ≤ cs.size) (hcz : cs.size ≤ 1000000) (hcs : IsAscii cs) :
    Calls Tryd.prog 60 #[.string s, .string cs] w (Tells (hasB (nums cs) (nums s)) w) := by
  have H : Calls Tryd.prog 70 #[.string s, .string cs] w (AnyTells (hasB (nums cs) (nums s)) w) := by
    by_cases h8 : s.size ≤ 8
    · exact indexany_short s cs w h8 hc2 hcz hcs
    · have hv := (zero_of_info (P := Tryd.prog) (t := 53) (v := .agg (Array.replicate 256 (.bool false))) (n := 256) (by kernel_rfl)).1
      refine (Tryd.strings_IndexAny_long hv s cs w hc2 (by omega) (by omega) (by omega) hcs).mono fun e w' hh => ⟨_, ?_, hh.1, ?_⟩
      · rw [indexAny_has _ _ cs rfl]; rfl
      · rw [hh.2]; exact ((Below.refl _ _).alloc (Nat.le_refl _) _).alloc (by simp) _
  generalize hasB (nums cs) (nums s) = D at *
  have HH := hide H
  clear H hcs hm hc2 hcz
  go_enter Tryd.func60, Tryd.ntmps60
  go_wp2_with fail
  refine HH.out.mono ?_
  rintro e w1 ⟨r, hr, rfl, hb⟩
  have Hb := hide hb
  have Hr := hide hr
  clear hb
  cases D
  · have h0 : r < 0 := by have := of_decide_eq_false hr; omega
    clear hr
    go_wp2_with fail
    go_ret
    exact ⟨ret_bool Hr.out, Hb.out⟩
  · have h0 : 0 ≤ r := of_decide_eq_true hr
    clear hr
    go_wp2_with fail
    go_ret
    exact ⟨rfl, Hb.out⟩

abbrev sBad : ByteArray := ⟨#[46, 59, 91, 47]⟩
abbrev sAngle : ByteArray := ⟨#[60, 62]⟩

set_option maxRecDepth 100000 in
theorem plain_any (s : ByteArray) (w : World) (hm : s.size ≤ 1000000) : Calls Tryd.prog 48 #[.string s] w (Tells (plainB (nums s)) w) := by
  by_cases hz : s.size = 0
  · have hs : s = ByteArray.empty := (str_empty s).2 (List.eq_nil_of_length_eq_zero (by rw [nums_len]; exact hz))
    subst hs
    go_enter Tryd.func48, Tryd.ntmps48
    go_wp2_with fail
    go_ret
    exact ⟨rfl, Below.refl _ _⟩
  · have he : s.toList.isEmpty = false := by
      rw [Lib.toList_data]
      cases h : s.data.toList with
      | nil => exact absurd (by rw [Lib.size_eq, h]; rfl) hz
      | cons a t => rfl
    have hl : (nums s).isEmpty = false := by cases h : nums s with
      | nil => exact absurd (by rw [← nums_len, h]; rfl) hz
      | cons a t => rfl
    have HP : Hid (plainB (nums s) = (!hasB [46, 59, 91, 47] (nums s) && (dec (nums s)).isSome)) := hide (by unfold plainB; rw [hl]; rfl)
    have HC : Hid (∀ W, Calls Tryd.prog 60 #[.string s, .string sBad] W (Tells (hasB [46, 59, 91, 47] (nums s)) W)) := hide fun W => contains_any s sBad W hm (by decide) (by decide) (ascii_lit _ (by decide))
    have HD : Hid (∀ W, Calls Tryd.prog 61 #[.string s] W (Decoded (dec (nums s)) W)) := hide fun W => decode_any s W hm
    obtain ⟨D, hD⟩ : ∃ D, plainB (nums s) = D := ⟨_, rfl⟩
    rw [hD]
    have HDD := hide hD
    clear hD hz hl
    go_enter Tryd.func48, Tryd.ntmps48
    go_wp2_with fail
    refine (HC.out _).mono ?_
    rintro e w1 ⟨rfl, hb1⟩
    have Hb1 := hide hb1
    clear hb1
    cases hh : hasB [46, 59, 91, 47] (nums s)
    · have HP2 : Hid (D = (dec (nums s)).isSome) := hide (by rw [← HDD.out, HP.out, hh]; rfl)
      clear hh HP
      go_wp2_with fail
      refine (HD.out _).mono ?_
      rintro e w3 ⟨hb3, ⟨h, rfl⟩ | ⟨u, v, h, rfl, hown⟩⟩
      · have HB : Hid (D = false) := hide (by rw [HP2.out, h]; rfl)
        have Hb3 := hide (Hb1.out.trans (hb3.mono Hb1.out.size))
        clear h hb3
        go_wp2_with fail
        go_ret
        exact ⟨ret_bool HB.out.symm, Hb3.out⟩
      · have HB : Hid (D = true) := hide (by rw [HP2.out, h]; rfl)
        have Hb3 := hide (Hb1.out.trans (hb3.mono Hb1.out.size))
        clear h hb3 hown
        go_wp2_with fail
        go_ret
        exact ⟨ret_bool HB.out.symm, Hb3.out⟩
    · have HB : Hid (D = false) := hide (by rw [← HDD.out, HP.out, hh]; rfl)
      clear hh
      go_wp2_with fail
      go_ret
      exact ⟨ret_bool HB.out.symm, Hb1.out⟩

theorem lastIdx_range (s : ByteArray) (c : Int) (k : Nat) : -1 ≤ Lib.lastIdx s c k ∧ Lib.lastIdx s c k < k + 1 := by
  induction k with
  | zero => simp [Lib.lastIdx]
  | succ k ih => unfold Lib.lastIdx; split <;> omega

def dotsU (l : List UInt8) : List UInt8 := l.map fun b => if b = 47 then 46 else b
theorem replaceK_cons {b : UInt8} (h : b ≠ 47) (k : Nat) (t : List UInt8) : Lib.replaceK [47] [46] k (b :: t) = b :: Lib.replaceK [47] [46] k t := by
  cases k with
  | zero => rfl
  | succ k =>
    have hb : (b == 47) = false := by simpa using h
    unfold Lib.replaceK
    rw [Lib.index_one, Lib.index_one, Lib.indexByte, hb]
    have hge := Lib.indexByte_ge t 47
    by_cases h1 : Lib.indexByte t 47 = -1
    · rw [h1]; rfl
    · have h2 : (Lib.indexByte t 47 == -1) = false := by simpa using h1
      obtain ⟨n, hn⟩ : ∃ n : Nat, Lib.indexByte t 47 = n := ⟨(Lib.indexByte t 47).toNat, by omega⟩
      have h3 : ((n : Int) + 1 == -1) = false := by simp; omega
      have h4 : ((n : Int) == -1) = false := by simp
      rw [hn]
      simp only [Bool.false_eq_true, if_false, h3, h4]
      have e1 : ((n : Int) + 1).toNat = n + 1 := by omega
      rw [e1]
      simp
theorem replace_dots (l : List UInt8) : Lib.replaceK [47] [46] (Lib.count l [47]) l = dotsU l := by
  induction l with
  | nil => rfl
  | cons b t ih =>
    by_cases h : b = 47
    · subst h
      rw [Lib.count_cons_eq, Nat.add_comm, Lib.replaceK_hit _ _ _ _ 0 (by rw [Lib.index_one]; rfl)]
      simpa [dotsU] using ih
    · rw [Lib.count_cons_ne b 47 t h, replaceK_cons h, ih]
      simp [dotsU, h]
theorem replaceAll_dots (l : List UInt8) : Lib.replaceAll l [47] [46] = dotsU l := by
  unfold Lib.replaceAll Lib.replace
  rw [if_neg (by decide)]
  unfold Lib.replaceNum
  rw [if_pos (.inl (by decide))]
  exact replace_dots l
theorem dotsU_str (s : ByteArray) : (⟨(dotsU s.data.toList).toArray⟩ : ByteArray) = strOfNums (dots (nums s)) := by
  apply nums_inj
  rw [nums_of _ (dots_bytes (nums_bytes s))]
  simp only [nums, dotsU, dots, List.map_map]
  refine List.map_congr_left fun b _ => ?_
  simp only [Function.comp_apply]
  by_cases h : b = 47
  · subst h; rfl
  · rw [if_neg h, if_neg]
    intro e
    apply h
    apply UInt8.toNat_inj.1
    have : ((47 : UInt8).toNat) = 47 := rfl
    omega

/-- The library's number that strings.Index asks after. -/
def Maxed (w : World) : Prop := ∃ m, w.cell? ⟨0, 0, none⟩ = some (.int .i64 m)
theorem Maxed.below {w w' : World} (h : Maxed w) (hb : Below w.heap.size w w') : Maxed w' := by
  obtain ⟨m, hm⟩ := h
  exact ⟨m, (hb.cell (p := ⟨0, 0, none⟩) (World.block_lt_of_cell? w _ hm)).trans hm⟩

end Go.Proofs.YtjlcocalpjeghaaDoor
