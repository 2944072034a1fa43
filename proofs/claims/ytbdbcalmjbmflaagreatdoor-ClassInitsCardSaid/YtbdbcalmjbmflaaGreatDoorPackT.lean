/- Texts of one stage, merged. Nothing is claimed here. -/
import Derived.Test.YtbdbcalmjbmflaaGreatDoorPackS
namespace Go.Proofs.YtbdbcalmjbmflaaGreatDoor
open Go.RowKit

theorem ret_true {w w' : World} (hb : Below w.heap.size w w') : (Ending.returned (Value.bool true) = .returned (.bool true)) ∧ Below w.heap.size w w' := ⟨rfl, hb⟩
set_option maxHeartbeats 4000000 in
set_option maxRecDepth 100000 in
theorem ClassInits_walk (f : Int) (a1 a2 a3 : Bool) (_ : (Lit.int .i64 f).wf = true) (w : World) (hw : Maxed w) : Calls Tryz.prog 5 #[.int .i64 f, .bool a1, .bool a2, .bool a3] w fun e w' => e = .returned (.bool true) ∧ Below w.heap.size w w' := by
  have HG := hide (clbegun_is w hw)
  have HW := hide hw
  clear hw
  by_cases hf : f < 0
  · go_enter Tryz.func5, Tryz.ntmps5
    go_wp2_with fail
    refine HG.out.mono ?_
    rintro e w1 ⟨rfl, hb1⟩
    have HB1 := hide hb1
    clear hb1 HG
    go_wp2_with fail
    go_ret
    exact ⟨rfl, HB1.out⟩
  by_cases hf2 : 65535 < f
  · go_enter Tryz.func5, Tryz.ntmps5
    go_wp2_with fail
    refine HG.out.mono ?_
    rintro e w1 ⟨rfl, hb1⟩
    have HB1 := hide hb1
    clear hb1 HG
    go_wp2_with fail
    go_ret
    exact ⟨rfl, HB1.out⟩
  have f0 : 0 ≤ f := by omega
  have f1 : f < 65536 := by omega
  have HA := hide (clAccess_is f f0 f1)
  obtain ⟨cd, hcd⟩ : ∃ cd, (bits .and .i64 f 1024 == 0) = cd := ⟨_, rfl⟩
  have hc : cd = !has f 1024 := by rw [← hcd]; unfold has; cases h : (bits .and .i64 f 1024 == 0) <;> simp [bne, h]
  obtain ⟨p4, hp4⟩ : ∃ p, (bits .andNot .i64 f 7 == 0) = p := ⟨_, rfl⟩
  have hi : inB f 7 = p4 := hp4
  have HM0 := hide (fun W (hW : Maxed W) => made_init_V_cls f f0 f1 cd hc W hW)
  have HM1 := hide (fun W (hW : Maxed W) => made_init_I_cls f f0 f1 cd hc W hW)
  have HM2 := hide (fun W (hW : Maxed W) => made_clinit_V_cls f f0 f1 cd hc W hW)
  have HM3 := hide (fun W (hW : Maxed W) => made_clinit_I_cls f f0 f1 cd hc W hW)
  have HM4 := hide (fun W (hW : Maxed W) => made_init_V_face f f0 f1 cd hc W hW)
  have HM5 := hide (fun W (hW : Maxed W) => made_init_I_face f f0 f1 cd hc W hW)
  have HM6 := hide (fun W (hW : Maxed W) => made_clinit_V_face f f0 f1 cd hc W hW)
  have HM7 := hide (fun W (hW : Maxed W) => made_clinit_I_face f f0 f1 cd hc W hW)
  rw [hi] at HM0
  generalize accB f = p5 at *
  clear f0 f1 hc hi
  cases a1
  · cases a2
    · cases a3
      · cases p4
        · go_enter Tryz.func5, Tryz.ntmps5
          go_wp2_with fail
          refine HG.out.mono ?_
          rintro e w1 ⟨rfl, hb1⟩
          have HB1 := hide hb1
          clear hb1 HG
          go_wp2_with fail
          refine (HM0.out _ (HW.out.below HB1.out)).mono ?_
          rintro e w3 ⟨g, n, c, rfl, hrd, hb3⟩
          have HB3 := hide (HB1.out.trans (hb3.mono HB1.out.size))
          have HR := hide hrd
          clear hrd hb3 HB1
          go_wp2_with fail
          refine HR.out.mono ?_
          rintro e w4 hT
          obtain ⟨⟨p, rfl⟩, hb4⟩ := told_err hT
          have HB4 := hide (HB3.out.trans (hb4.mono HB3.out.size))
          clear hT hb4 HR HB3
          have h1 : errV (false && p5) = 1 := rfl
          rw [h1]
          go_wp2_with fail
          go_ret
          exact ⟨rfl, HB4.out⟩
        · go_enter Tryz.func5, Tryz.ntmps5
          go_wp2_with fail
          refine HG.out.mono ?_
          rintro e w1 ⟨rfl, hb1⟩
          have HB1 := hide hb1
          clear hb1 HG
          go_wp2_with fail
          refine (HA.out _).mono ?_
          rintro e w2 ⟨rfl, rfl⟩
          go_wp2_with fail
          cases p5
          · refine (HM0.out _ (HW.out.below HB1.out)).mono ?_
            rintro e w3 ⟨g, n, c, rfl, hrd, hb3⟩
            have HB3 := hide (HB1.out.trans (hb3.mono HB1.out.size))
            have HR := hide hrd
            clear hrd hb3 HB1
            go_wp2_with fail
            refine HR.out.mono ?_
            rintro e w4 hT
            obtain ⟨⟨p, rfl⟩, hb4⟩ := told_err hT
            have HB4 := hide (HB3.out.trans (hb4.mono HB3.out.size))
            clear hT hb4 HR HB3
            have h1 : errV (true && false) = 1 := rfl
            rw [h1]
            go_wp2_with fail
            go_ret
            exact ⟨rfl, HB4.out⟩
          · refine (HM0.out _ (HW.out.below HB1.out)).mono ?_
            rintro e w3 ⟨g, n, c, rfl, hrd, hb3⟩
            have HB3 := hide (HB1.out.trans (hb3.mono HB1.out.size))
            have HR := hide hrd
            clear hrd hb3 HB1
            go_wp2_with fail
            refine HR.out.mono ?_
            rintro e w4 hT
            obtain ⟨⟨p, rfl⟩, hb4⟩ := told_err hT
            have HB4 := hide (HB3.out.trans (hb4.mono HB3.out.size))
            clear hT hb4 HR HB3
            have h1 : errV (true && true) = 0 := rfl
            rw [h1]
            go_wp2_with fail
            go_ret
            exact ⟨rfl, HB4.out⟩
      · cases p4
        · go_enter Tryz.func5, Tryz.ntmps5
          go_wp2_with fail
          refine HG.out.mono ?_
          rintro e w1 ⟨rfl, hb1⟩
          have HB1 := hide hb1
          clear hb1 HG
          go_wp2_with fail
          refine (HM1.out _ (HW.out.below HB1.out)).mono ?_
          rintro e w3 ⟨g, n, c, rfl, hrd, hb3⟩
          have HB3 := hide (HB1.out.trans (hb3.mono HB1.out.size))
          have HR := hide hrd
          clear hrd hb3 HB1
          go_wp2_with fail
          refine HR.out.mono ?_
          rintro e w4 hT
          obtain ⟨⟨p, rfl⟩, hb4⟩ := told_err hT
          have HB4 := hide (HB3.out.trans (hb4.mono HB3.out.size))
          clear hT hb4 HR HB3
          have h1 : errV false = 1 := rfl
          rw [h1]
          go_wp2_with fail
          go_ret
          exact ⟨rfl, HB4.out⟩
        · go_enter Tryz.func5, Tryz.ntmps5
          go_wp2_with fail
          refine HG.out.mono ?_
          rintro e w1 ⟨rfl, hb1⟩
          have HB1 := hide hb1
          clear hb1 HG
          go_wp2_with fail
          refine (HA.out _).mono ?_
          rintro e w2 ⟨rfl, rfl⟩
          go_wp2_with fail
          refine (HM1.out _ (HW.out.below HB1.out)).mono ?_
          rintro e w3 ⟨g, n, c, rfl, hrd, hb3⟩
          have HB3 := hide (HB1.out.trans (hb3.mono HB1.out.size))
          have HR := hide hrd
          clear hrd hb3 HB1
          go_wp2_with fail
          refine HR.out.mono ?_
          rintro e w4 hT
          obtain ⟨⟨p, rfl⟩, hb4⟩ := told_err hT
          have HB4 := hide (HB3.out.trans (hb4.mono HB3.out.size))
          clear hT hb4 HR HB3
          have h1 : errV false = 1 := rfl
          rw [h1]
          go_wp2_with fail
          go_ret
          exact ⟨rfl, HB4.out⟩
    · cases a3
      · cases p4
        · go_enter Tryz.func5, Tryz.ntmps5
          go_wp2_with fail
          refine HG.out.mono ?_
          rintro e w1 ⟨rfl, hb1⟩
          have HB1 := hide hb1
          clear hb1 HG
          go_wp2_with fail
          refine (HM2.out _ (HW.out.below HB1.out)).mono ?_
          rintro e w3 ⟨g, n, c, rfl, hrd, hb3⟩
          have HB3 := hide (HB1.out.trans (hb3.mono HB1.out.size))
          have HR := hide hrd
          clear hrd hb3 HB1
          go_wp2_with fail
          refine HR.out.mono ?_
          rintro e w4 hT
          obtain ⟨⟨p, rfl⟩, hb4⟩ := told_err hT
          have HB4 := hide (HB3.out.trans (hb4.mono HB3.out.size))
          clear hT hb4 HR HB3
          by_cases h8 : f = 8
          · subst h8
            have h1 : errV ((8 : Int) == 8) = 0 := rfl
            rw [h1]
            go_wp2_with fail
            go_ret
            exact ⟨rfl, HB4.out⟩
          · have h8' : (f == 8) = false := by simpa using h8
            rw [h8']
            have h1 : errV false = 1 := rfl
            rw [h1]
            go_wp2_with fail
            go_ret
            exact ⟨rfl, HB4.out⟩
        · go_enter Tryz.func5, Tryz.ntmps5
          go_wp2_with fail
          refine HG.out.mono ?_
          rintro e w1 ⟨rfl, hb1⟩
          have HB1 := hide hb1
          clear hb1 HG
          go_wp2_with fail
          refine (HA.out _).mono ?_
          rintro e w2 ⟨rfl, rfl⟩
          go_wp2_with fail
          refine (HM2.out _ (HW.out.below HB1.out)).mono ?_
          rintro e w3 ⟨g, n, c, rfl, hrd, hb3⟩
          have HB3 := hide (HB1.out.trans (hb3.mono HB1.out.size))
          have HR := hide hrd
          clear hrd hb3 HB1
          go_wp2_with fail
          refine HR.out.mono ?_
          rintro e w4 hT
          obtain ⟨⟨p, rfl⟩, hb4⟩ := told_err hT
          have HB4 := hide (HB3.out.trans (hb4.mono HB3.out.size))
          clear hT hb4 HR HB3
          by_cases h8 : f = 8
          · subst h8
            have h1 : errV ((8 : Int) == 8) = 0 := rfl
            rw [h1]
            go_wp2_with fail
            go_ret
            exact ⟨rfl, HB4.out⟩
          · have h8' : (f == 8) = false := by simpa using h8
            rw [h8']
            have h1 : errV false = 1 := rfl
            rw [h1]
            go_wp2_with fail
            go_ret
            exact ⟨rfl, HB4.out⟩
      · cases p4
        · go_enter Tryz.func5, Tryz.ntmps5
          go_wp2_with fail
          refine HG.out.mono ?_
          rintro e w1 ⟨rfl, hb1⟩
          have HB1 := hide hb1
          clear hb1 HG
          go_wp2_with fail
          refine (HM3.out _ (HW.out.below HB1.out)).mono ?_
          rintro e w3 ⟨g, n, c, rfl, hrd, hb3⟩
          have HB3 := hide (HB1.out.trans (hb3.mono HB1.out.size))
          have HR := hide hrd
          clear hrd hb3 HB1
          go_wp2_with fail
          refine HR.out.mono ?_
          rintro e w4 hT
          obtain ⟨⟨p, rfl⟩, hb4⟩ := told_err hT
          have HB4 := hide (HB3.out.trans (hb4.mono HB3.out.size))
          clear hT hb4 HR HB3
          have h1 : errV false = 1 := rfl
          rw [h1]
          go_wp2_with fail
          go_ret
          exact ⟨rfl, HB4.out⟩
        · go_enter Tryz.func5, Tryz.ntmps5
          go_wp2_with fail
          refine HG.out.mono ?_
          rintro e w1 ⟨rfl, hb1⟩
          have HB1 := hide hb1
          clear hb1 HG
          go_wp2_with fail
          refine (HA.out _).mono ?_
          rintro e w2 ⟨rfl, rfl⟩
          go_wp2_with fail
          refine (HM3.out _ (HW.out.below HB1.out)).mono ?_
          rintro e w3 ⟨g, n, c, rfl, hrd, hb3⟩
          have HB3 := hide (HB1.out.trans (hb3.mono HB1.out.size))
          have HR := hide hrd
          clear hrd hb3 HB1
          go_wp2_with fail
          refine HR.out.mono ?_
          rintro e w4 hT
          obtain ⟨⟨p, rfl⟩, hb4⟩ := told_err hT
          have HB4 := hide (HB3.out.trans (hb4.mono HB3.out.size))
          clear hT hb4 HR HB3
          have h1 : errV false = 1 := rfl
          rw [h1]
          go_wp2_with fail
          go_ret
          exact ⟨rfl, HB4.out⟩
  · cases a2
    · cases a3
      · go_enter Tryz.func5, Tryz.ntmps5
        go_wp2_with fail
        refine HG.out.mono ?_
        rintro e w1 ⟨rfl, hb1⟩
        have HB1 := hide hb1
        clear hb1 HG
        go_wp2_with fail
        refine (HM4.out _ (HW.out.below HB1.out)).mono ?_
        rintro e w3 ⟨g, n, c, rfl, hrd, hb3⟩
        have HB3 := hide (HB1.out.trans (hb3.mono HB1.out.size))
        have HR := hide hrd
        clear hrd hb3 HB1
        go_wp2_with fail
        refine HR.out.mono ?_
        rintro e w4 hT
        obtain ⟨⟨p, rfl⟩, hb4⟩ := told_err hT
        have HB4 := hide (HB3.out.trans (hb4.mono HB3.out.size))
        clear hT hb4 HR HB3
        have h1 : errV false = 1 := rfl
        rw [h1]
        go_wp2_with fail
        go_ret
        exact ⟨rfl, HB4.out⟩
      · go_enter Tryz.func5, Tryz.ntmps5
        go_wp2_with fail
        refine HG.out.mono ?_
        rintro e w1 ⟨rfl, hb1⟩
        have HB1 := hide hb1
        clear hb1 HG
        go_wp2_with fail
        refine (HM5.out _ (HW.out.below HB1.out)).mono ?_
        rintro e w3 ⟨g, n, c, rfl, hrd, hb3⟩
        have HB3 := hide (HB1.out.trans (hb3.mono HB1.out.size))
        have HR := hide hrd
        clear hrd hb3 HB1
        go_wp2_with fail
        refine HR.out.mono ?_
        rintro e w4 hT
        obtain ⟨⟨p, rfl⟩, hb4⟩ := told_err hT
        have HB4 := hide (HB3.out.trans (hb4.mono HB3.out.size))
        clear hT hb4 HR HB3
        have h1 : errV false = 1 := rfl
        rw [h1]
        go_wp2_with fail
        go_ret
        exact ⟨rfl, HB4.out⟩
    · cases a3
      · go_enter Tryz.func5, Tryz.ntmps5
        go_wp2_with fail
        refine HG.out.mono ?_
        rintro e w1 ⟨rfl, hb1⟩
        have HB1 := hide hb1
        clear hb1 HG
        go_wp2_with fail
        refine (HM6.out _ (HW.out.below HB1.out)).mono ?_
        rintro e w3 ⟨g, n, c, rfl, hrd, hb3⟩
        have HB3 := hide (HB1.out.trans (hb3.mono HB1.out.size))
        have HR := hide hrd
        clear hrd hb3 HB1
        go_wp2_with fail
        refine HR.out.mono ?_
        rintro e w4 hT
        obtain ⟨⟨p, rfl⟩, hb4⟩ := told_err hT
        have HB4 := hide (HB3.out.trans (hb4.mono HB3.out.size))
        clear hT hb4 HR HB3
        by_cases h8 : f = 8
        · subst h8
          have h1 : errV ((8 : Int) == 8) = 0 := rfl
          rw [h1]
          go_wp2_with fail
          go_ret
          exact ⟨rfl, HB4.out⟩
        · have h8' : (f == 8) = false := by simpa using h8
          rw [h8']
          have h1 : errV false = 1 := rfl
          rw [h1]
          go_wp2_with fail
          go_ret
          exact ⟨rfl, HB4.out⟩
      · go_enter Tryz.func5, Tryz.ntmps5
        go_wp2_with fail
        refine HG.out.mono ?_
        rintro e w1 ⟨rfl, hb1⟩
        have HB1 := hide hb1
        clear hb1 HG
        go_wp2_with fail
        refine (HM7.out _ (HW.out.below HB1.out)).mono ?_
        rintro e w3 ⟨g, n, c, rfl, hrd, hb3⟩
        have HB3 := hide (HB1.out.trans (hb3.mono HB1.out.size))
        have HR := hide hrd
        clear hrd hb3 HB1
        go_wp2_with fail
        refine HR.out.mono ?_
        rintro e w4 hT
        obtain ⟨⟨p, rfl⟩, hb4⟩ := told_err hT
        have HB4 := hide (HB3.out.trans (hb4.mono HB3.out.size))
        clear hT hb4 HR HB3
        have h1 : errV false = 1 := rfl
        rw [h1]
        go_wp2_with fail
        go_ret
        exact ⟨rfl, HB4.out⟩
end Go.Proofs.YtbdbcalmjbmflaaGreatDoor
