/- Some descriptors: the first words of each of descr's laws. Nothing is claimed here. -/
import Derived.Test.YtjlcocalpjeghaaDoorDescrArgs
import Derived.Test.YtjlcocalpjeghaaDoorDescrPrint
import Derived.Test.YtjlcocalpjeghaaDoorCut
namespace Go.Proofs.YtjlcocalpjeghaaDoor
open Go.RowKit

def sArr : ByteArray := ⟨#[91, 91, 76, 106, 97, 118, 97, 47, 108, 97, 110, 103, 47, 83, 116, 114, 105, 110, 103, 59]⟩
def sNam : ByteArray := ⟨#[106, 97, 118, 97, 47, 108, 97, 110, 103, 47, 83, 116, 114, 105, 110, 103]⟩
def sMet : ByteArray := ⟨#[40, 73, 74, 91, 66, 41, 86]⟩
def nNam : List Int := [106, 97, 118, 97, 47, 108, 97, 110, 103, 47, 83, 116, 114, 105, 110, 103]
theorem nam_bytes : IsBytes nNam := fun x hx => by simp [nNam] at hx; omega
theorem c4_of {w : World} {g : Nat} {t : TypeId} {a b c d : Value} (h : At w g t [a, b, c, d]) : w.cell? ⟨g, 0, none⟩ = some a ∧ w.cell? ⟨g, 1, none⟩ = some b ∧ w.cell? ⟨g, 2, none⟩ = some c ∧ w.cell? ⟨g, 3, none⟩ = some d :=
  ⟨h.cell 0, h.cell 1, h.cell 2, h.cell 3⟩

theorem maxed_of {W : World} (h : W.ShapedOpen Tryd.prog) : Maxed W := Tryd.laysM145.s1_3 W h

set_option maxHeartbeats 2000000 in
set_option maxRecDepth 100000 in
theorem dbegun_is (w : World) (hw : Maxed w) : Calls Tryd.prog 7 #[] w (Tells true w) := by
  have HF : Hid (∀ W, Maxed W → Calls Tryd.prog 9 #[.string sArr] W fun e w' => e = .returned (.tuple #[.agg #[.int .u8 91, .string sNam, .int .i64 2, .int .u8 76], .bool true]) ∧ Below W.heap.size W w') := hide fun W hW => by
    have := field_any sArr W (by decide) hW
    rwa [show field (nums sArr) = some ⟨91, nNam, 2, 76⟩ by decide +kernel, show fieldV (some ⟨91, nNam, 2, 76⟩) = .tuple #[.agg #[.int .u8 91, .string sNam, .int .i64 2, .int .u8 76], .bool true] from by
      rw [fieldV, Ty.val, show strOfNums (⟨91, nNam, 2, 76⟩ : Ty).name = sNam by decide +kernel]; rfl] at this
  have HM : Hid (∀ W, Maxed W → Calls Tryd.prog 15 #[.string sMet] W (SigTold (some ([⟨73, [], 0, 0⟩, ⟨74, [], 0, 0⟩, ⟨91, [], 1, 66⟩], ⟨86, [], 0, 0⟩)) W)) := hide fun W hW => by
    have := method4_any sMet W (by decide) hW
    rwa [show sig (nums sMet) = some ([⟨73, [], 0, 0⟩, ⟨74, [], 0, 0⟩, ⟨91, [], 1, 66⟩], ⟨86, [], 0, 0⟩) by decide +kernel] at this
  have HA : Hid (∀ W, Maxed W → Calls Tryd.prog 17 #[.string sMet] W fun e w' => e = .returned (.int .i64 4) ∧ Below W.heap.size W w') := hide fun W hW => by
    have := dargs_any sMet W (by decide) hW
    rwa [show argsW (nums sMet) = 4 by decide +kernel] at this
  have HP : Hid (∀ W, Calls Tryd.prog 14 #[.agg #[.int .u8 91, .string sNam, .int .i64 2, .int .u8 76]] W fun e w' => e = .returned (.string sArr) ∧ Below W.heap.size W w') := hide fun W => by
    have := print_any ⟨91, nNam, 2, 76⟩ W nam_bytes (by decide) (by decide) (by decide) (by decide) (by decide)
    rw [Ty.val, show strOfNums (⟨91, nNam, 2, 76⟩ : Ty).name = sNam by decide +kernel] at this
    refine this.mono ?_
    rintro e w' ⟨p, he, hp, hb⟩
    refine ⟨?_, hb⟩
    rw [he, show p = sArr from nums_inj (by rw [hp]; decide +kernel)]
  have HW := hide hw
  clear hw
  go_enter Tryd.func7, Tryd.ntmps7
  go_wp2_with fail
  refine (HF.out _ HW.out).mono ?_
  rintro e w1 ⟨rfl, hb1⟩
  have hz1 := hb1.size
  have B1 := hide (hb1.alloc hb1.size (.cells #[.int .u8 91, .string sNam, .int .i64 2, .int .u8 76] 25))
  clear hb1
  go_wp2_with fail
  refine (HM.out _ (HW.out.below B1.out)).mono ?_
  rintro e w2 ⟨hb2, ⟨h, _⟩ | ⟨ts, t, A, c, h, rfl, _, hc1, hc2⟩⟩
  · cases h
  · cases h
    have a1 := (At.new w1 25 [.int .u8 91, .string sNam, .int .i64 2, .int .u8 76]).below hb2 (by simp)
    obtain ⟨z0, z1, z2, z3⟩ := c4_of a1
    have hz2 : w1.heap.size < w2.heap.size := by have := hb2.size; simp at this; omega
    have B2 := hide (B1.out.trans (hb2.mono B1.out.size))
    have A1 := hide a1
    unfold maxLen at hc2
    clear hb2 a1
    have n1 : sNam.toList = [106, 97, 118, 97, 47, 108, 97, 110, 103, 47, 83, 116, 114, 105, 110, 103] := by rw [Lib.toList_data]; rfl
    have n2 : (sNam.toList == [106, 97, 118, 97, 47, 108, 97, 110, 103, 47, 83, 116, 114, 105, 110, 103]) = true := by rw [n1]; rfl
    have n3 : sArr.toList = [91, 91, 76, 106, 97, 118, 97, 47, 108, 97, 110, 103, 47, 83, 116, 114, 105, 110, 103, 59] := by rw [Lib.toList_data]; rfl
    have n4 : (sArr.toList == [91, 91, 76, 106, 97, 118, 97, 47, 108, 97, 110, 103, 47, 83, 116, 114, 105, 110, 103, 59]) = true := by rw [n3]; rfl
    rw [show (⟨86, [], 0, 0⟩ : Ty).val = .agg #[.int .u8 86, .string ⟨#[]⟩, .int .i64 0, .int .u8 0] from rfl]
    go_wp2_with fail
    have B3 := hide (B2.out.alloc B2.out.size (.cells #[.int .u8 86, .string ⟨#[]⟩, .int .i64 0, .int .u8 0] 25))
    have hz3 : w1.heap.size < (w2.alloc (.cells #[.int .u8 86, .string ⟨#[]⟩, .int .i64 0, .int .u8 0] 25)).heap.size := by simp; omega
    have A2 := hide (A1.out.alloc (.cells #[.int .u8 86, .string ⟨#[]⟩, .int .i64 0, .int .u8 0] 25))
    refine (HA.out _ (HW.out.below B3.out)).mono ?_
    rintro e w3 ⟨rfl, hb3⟩
    have a3 := A2.out.below hb3 hz3
    obtain ⟨y0, y1, y2, y3⟩ := c4_of a3
    have B4 := hide (B3.out.trans (hb3.mono B3.out.size))
    clear hb3 a3
    go_wp2_with fail
    refine (HP.out _).mono ?_
    rintro e w4 ⟨rfl, hb4⟩
    have B5 := hide (B4.out.trans (hb4.mono B4.out.size))
    clear hb4
    go_wp2_with fail
    go_ret
    exact ⟨rfl, B5.out⟩
end Go.Proofs.YtjlcocalpjeghaaDoor
