/- How the code writes a type. Nothing is claimed here. -/
import Derived.Test.YtjlcocalpjeghaaDoorDescrOne
import Derived.Test.YtjlcocalpjeghaaDoorDescrRef
namespace Go.Proofs.YtjlcocalpjeghaaDoor
open Go.RowKit

theorem str_nil {q : ByteArray} : q.toList.isEmpty = (nums q).isEmpty := by
  rw [Lib.toList_data]; unfold nums
  cases q.data.toList <;> rfl
theorem nums_app (a b : ByteArray) : nums (a ++ b) = nums a ++ nums b := by
  unfold nums
  rw [ByteArray.data_append, Array.toList_append, List.map_append]
theorem repeat_nums (d : Nat) : nums ⟨(Lib.repeatL (⟨#[91]⟩ : ByteArray).data.toList d).toArray⟩ = List.replicate d 91 := by
  have : Lib.repeatL [91] d = List.replicate d 91 := by
    induction d with
    | zero => rfl
    | succ d ih => rw [Lib.repeatL, ih]; rfl
  show (Lib.repeatL [91] d).map _ = _
  rw [this, List.map_replicate]
  rfl

set_option maxHeartbeats 2000000 in
set_option maxRecDepth 100000 in
theorem printSingle_any (k : Int) (q : ByteArray) (w : World) (h0 : 0 ≤ k) (h1 : k < 256) (hm : q.size ≤ 1000000) :
    Calls Tryd.prog 23 #[.int .u8 k, .string q] w fun e w' => ∃ p, e = .returned (.string p) ∧ nums p = putS k (nums q) ∧ Below w.heap.size w w' := by
  have HI : Hid (∀ W, Calls Tryd.prog 21 #[.int .u8 k] W fun e w' => e = .returned (.bool (baseB k)) ∧ W = w') := hide fun W => isbase_any k W h0 h1
  obtain ⟨l, hl⟩ : ∃ l, putS k (nums q) = l := ⟨_, rfl⟩
  rw [hl]
  unfold putS at hl
  by_cases hb : baseB k = true
  · rw [if_pos hb] at hl
    rw [hb] at HI
    have HV := hide hl
    clear hl
    have hk := baseB_cases hb
    clear hb h0 h1
    rcases hk with rfl | rfl | rfl | rfl | rfl | rfl <;>
    · go_enter Tryd.func23, Tryd.ntmps23
      go_wp2_with fail
      refine (HI.out _).mono ?_
      rintro e w1 ⟨rfl, rfl⟩
      go_wp2_with fail
      go_ret
      exact ⟨_, rfl, by rw [← HV.out]; decide +kernel, Below.refl _ _⟩
  · rw [if_neg hb] at hl
    have hbf : baseB k = false := by simpa using hb
    rw [hbf] at HI
    by_cases h76 : k = 76
    · have b76 : (k == 76) = true := by simpa using h76
      have HK : Hid (∀ W, Calls Tryd.prog 32 #[.string q] W (Tells (classB (nums q)) W)) := hide fun W => class_any q W
      cases hcl : classB (nums q)
      · rw [hcl] at HK
        have HV : Hid ([] = l) := hide (by rw [← hl, if_neg (fun h => by rw [hcl] at h; cases h.2)])
        clear hl hcl hb hbf h76
        go_enter Tryd.func23, Tryd.ntmps23
        go_wp2_with fail
        refine (HI.out _).mono ?_
        rintro e w1 ⟨rfl, rfl⟩
        go_wp2_with fail
        refine (HK.out _).mono ?_
        rintro e w2 ⟨rfl, hb2⟩
        have HB2 := hide hb2
        clear hb2
        go_wp2_with fail
        go_ret
        exact ⟨_, rfl, by rw [← HV.out]; rfl, HB2.out⟩
      · rw [hcl] at HK
        have HV : Hid (76 :: (nums q ++ [59]) = l) := hide (by rw [← hl, if_pos ⟨h76, hcl⟩])
        clear hl hcl hb hbf h76
        go_enter Tryd.func23, Tryd.ntmps23
        go_wp2_with fail
        refine (HI.out _).mono ?_
        rintro e w1 ⟨rfl, rfl⟩
        go_wp2_with fail
        refine (HK.out _).mono ?_
        rintro e w2 ⟨rfl, hb2⟩
        have HB2 := hide hb2
        clear hb2
        have hz1 : (⟨#[76]⟩ ++ q : ByteArray).size = 1 + q.size := by rw [ByteArray.size_append]; rfl
        go_wp2_with fail
        go_ret
        exact ⟨_, rfl, by rw [← HV.out, nums_app, nums_app]; rfl, HB2.out⟩
    · have b76 : (k == 76) = false := by simpa using h76
      have HV : Hid ([] = l) := hide (by rw [← hl, if_neg (fun h => h76 h.1)])
      clear hl hb hbf h76
      go_enter Tryd.func23, Tryd.ntmps23
      go_wp2_with fail
      refine (HI.out _).mono ?_
      rintro e w1 ⟨rfl, rfl⟩
      go_wp2_with fail
      go_ret
      exact ⟨_, rfl, by rw [← HV.out]; rfl, Below.refl _ _⟩

theorem putS_len (k : Int) (n : List Int) : (putS k n).length ≤ n.length + 2 := by
  unfold putS
  split
  · simp
  · split <;> simp
/-- The array's part of what is written. -/
def putA (t : Ty) : List Int := if putS t.elem t.name = [] ∨ t.dims < 1 ∨ 255 < t.dims then [] else List.replicate t.dims 91 ++ putS t.elem t.name
set_option maxHeartbeats 2000000 in
set_option maxRecDepth 100000 in
theorem printArray_any (t : Ty) (w : World) (hn : IsBytes t.name) (hm : t.name.length ≤ 1000000) (h0 : 0 ≤ t.elem) (h1 : t.elem < 256) :
    Calls Tryd.prog 22 #[t.val] w fun e w' => ∃ p, e = .returned (.string p) ∧ nums p = putA t ∧ Below w.heap.size w w' := by
  obtain ⟨l, hl⟩ : ∃ l, putA t = l := ⟨_, rfl⟩
  rw [hl]
  obtain ⟨k, nm, d, x⟩ := t
  simp only [Ty.val] at *
  unfold putA at hl
  simp only at hl
  obtain ⟨q, hq⟩ : ∃ q, strOfNums nm = q := ⟨_, rfl⟩
  have hqn : nums q = nm := by rw [← hq, nums_of nm hn]
  have hqs : q.size = nm.length := by rw [← nums_len, hqn]
  have HS : Hid (∀ W, Calls Tryd.prog 23 #[.int .u8 x, .string q] W fun e w' => ∃ p, e = .returned (.string p) ∧ nums p = putS x nm ∧ Below W.heap.size W w') := hide fun W => by
    have := printSingle_any x q W h0 h1 (by omega)
    rwa [hqn] at this
  have hpl := putS_len x nm
  rw [hq]
  clear hq hqn hqs hn h0 h1
  generalize putS x nm = ps at *
  go_enter Tryd.func22, Tryd.ntmps22
  go_wp2_with fail
  refine (HS.out _).mono ?_
  rintro e w2 ⟨p, rfl, hp, hb2⟩
  have ha := (At.new w 25 [.int .u8 k, .string q, .int .i64 d, .int .u8 x]).below hb2 (by simp)
  have z2 := ha.cell 2
  simp only [List.getElem?_cons_succ, List.getElem?_cons_zero] at z2
  have HB2 := hide (((Below.refl _ w).alloc (Nat.le_refl _) (.cells #[.int .u8 k, .string q, .int .i64 d, .int .u8 x] 25)).trans (hb2.mono (by simp)))
  have hpz : p.size ≤ 1000002 := by rw [← nums_len, hp]; omega
  clear hb2 ha
  by_cases hps : ps = []
  · have he : p.toList.isEmpty = true := by rw [str_nil, hp, hps]; rfl
    have HV : Hid ([] = l) := hide (by rw [← hl, if_pos (.inl hps)])
    clear hl hp hps
    go_wp2_with fail
    go_ret
    exact ⟨_, rfl, by rw [← HV.out]; rfl, HB2.out⟩
  · have he : p.toList.isEmpty = false := by rw [str_nil, hp]; cases ps; exact absurd rfl hps; rfl
    by_cases hd1 : d < 1
    · have HV : Hid ([] = l) := hide (by rw [← hl, if_pos (.inr (.inl hd1))])
      have hd2 : (d : Int) < 1 := by omega
      clear hl hp hps
      go_wp2_with fail
      go_ret
      exact ⟨_, rfl, by rw [← HV.out]; rfl, HB2.out⟩
    · by_cases hd3 : 255 < d
      · have HV : Hid ([] = l) := hide (by rw [← hl, if_pos (.inr (.inr hd3))])
        have hd2 : ¬ (d : Int) < 1 := by omega
        have hd4 : (255 : Int) < d := by omega
        clear hl hp hps
        go_wp2_with fail
        go_ret
        exact ⟨_, rfl, by rw [← HV.out]; rfl, HB2.out⟩
      · have HV : Hid (List.replicate d 91 ++ ps = l) := hide (by rw [← hl, if_neg (by rintro (h | h | h); exact hps h; exact hd1 h; exact hd3 h)])
        have HR : Hid (∀ W, Calls Tryd.prog 31 #[.string ⟨#[91]⟩, .int .i64 d] W fun e w' => e = .returned (.string ⟨(Lib.repeatL (⟨#[91]⟩ : ByteArray).data.toList d).toArray⟩) ∧ Below W.heap.size W w') := hide fun W => Tryd.strings_Repeat ⟨#[91]⟩ d W (by omega) (by show 1 * d ≤ _; omega)
        have hrn := repeat_nums d
        generalize (⟨(Lib.repeatL (⟨#[91]⟩ : ByteArray).data.toList d).toArray⟩ : ByteArray) = rp at *
        have hrz : rp.size ≤ 255 := by rw [← nums_len, hrn, List.length_replicate]; omega
        have hd2 : ¬ (d : Int) < 1 := by omega
        have hd4 : ¬ (255 : Int) < d := by omega
        have HN := hide hrn
        have HP := hide hp
        clear hl hp hps hrn
        go_wp2_with fail
        refine (HR.out _).mono ?_
        rintro e w3 ⟨rfl, hb3⟩
        have HB3 := hide (HB2.out.trans (hb3.mono HB2.out.size))
        clear hb3
        go_wp2_with fail
        go_ret
        exact ⟨_, rfl, by rw [← HV.out, nums_app, HN.out, HP.out], HB3.out⟩

set_option maxHeartbeats 2000000 in
set_option maxRecDepth 100000 in
theorem print_any (t : Ty) (w : World) (hn : IsBytes t.name) (hm : t.name.length ≤ 1000000) (h0 : 0 ≤ t.elem) (h1 : t.elem < 256) (k0 : 0 ≤ t.kind) (k1 : t.kind < 256) :
    Calls Tryd.prog 14 #[t.val] w fun e w' => ∃ p, e = .returned (.string p) ∧ nums p = putT t ∧ Below w.heap.size w w' := by
  have HA : Hid (∀ W, Calls Tryd.prog 22 #[t.val] W fun e w' => ∃ p, e = .returned (.string p) ∧ nums p = putA t ∧ Below W.heap.size W w') := hide fun W => printArray_any t W hn hm h0 h1
  obtain ⟨l, hl⟩ : ∃ l, putT t = l := ⟨_, rfl⟩
  rw [hl]
  have hl2 : (if t.kind = 86 then [86] else if t.kind = 91 then putA t else putS t.kind t.name) = l := hl
  generalize putA t = pa at *
  obtain ⟨k, nm, d, x⟩ := t
  simp only [Ty.val] at *
  obtain ⟨q, hq⟩ : ∃ q, strOfNums nm = q := ⟨_, rfl⟩
  have hqn : nums q = nm := by rw [← hq, nums_of nm hn]
  have hqs : q.size = nm.length := by rw [← nums_len, hqn]
  have HS : Hid (∀ W, Calls Tryd.prog 23 #[.int .u8 k, .string q] W fun e w' => ∃ p, e = .returned (.string p) ∧ nums p = putS k nm ∧ Below W.heap.size W w') := hide fun W => by
    have := printSingle_any k q W k0 k1 (by omega)
    rwa [hqn] at this
  rw [hq] at HA ⊢
  generalize putS k nm = ps at *
  clear hq hqn hqs hn h0 h1 k0 k1 hl
  by_cases hv : k = 86
  · have b1 : (k == 86) = true := by simpa using hv
    have HV : Hid ([86] = l) := hide (by rw [← hl2, if_pos hv])
    clear hl2 hv
    go_enter Tryd.func14, Tryd.ntmps14
    go_wp2_with fail
    go_ret
    exact ⟨_, rfl, by rw [← HV.out]; rfl, below_one _ _⟩
  · have b1 : (k == 86) = false := by simpa using hv
    by_cases ha : k = 91
    · have b2 : (k == 91) = true := by simpa using ha
      have HV : Hid (pa = l) := hide (by rw [← hl2, if_neg hv, if_pos ha])
      clear hl2 hv ha
      go_enter Tryd.func14, Tryd.ntmps14
      go_wp2_with fail
      refine (HA.out _).mono ?_
      rintro e w2 ⟨p, rfl, hp, hb2⟩
      have HB2 := hide ((below_one w (.cells #[.int .u8 k, .string q, .int .i64 d, .int .u8 x] 25)).trans (hb2.mono (by simp)))
      have HP := hide hp
      clear hb2 hp
      go_wp2_with fail
      go_ret
      exact ⟨_, rfl, by rw [← HV.out, HP.out], HB2.out⟩
    · have b2 : (k == 91) = false := by simpa using ha
      have HV : Hid (ps = l) := hide (by rw [← hl2, if_neg hv, if_neg ha])
      clear hl2 hv ha
      go_enter Tryd.func14, Tryd.ntmps14
      go_wp2_with fail
      refine (HS.out _).mono ?_
      rintro e w2 ⟨p, rfl, hp, hb2⟩
      have HB2 := hide ((below_one w (.cells #[.int .u8 k, .string q, .int .i64 d, .int .u8 x] 25)).trans (hb2.mono (by simp)))
      have HP := hide hp
      clear hb2 hp
      go_wp2_with fail
      go_ret
      exact ⟨_, rfl, by rw [← HV.out, HP.out], HB2.out⟩
end Go.Proofs.YtjlcocalpjeghaaDoor
