/- Texts of one stage, merged. Nothing is claimed here. -/
import Derived.Test.YtbdbcalmjbmflaaGreatDoorPackS
import Derived.Deep.DeepCutAuto
import Derived.Deep.CutBlock
namespace Go.Proofs.YtbdbcalmjbmflaaGreatDoor
open Go.RowKit

/-! ### the law's own count of the rules -/
def k0B (cl : Int) : Bool := inB cl 1585 && !(has cl 16 && has cl 1024) && !(has cl 512 && !has cl 1024)
def k1B (cl fd : Int) : Bool := if has cl 512 = true then k0B cl && (fd == 25) else k0B cl && inB fd 31 && accB fd
def k2B (cl fd md : Int) : Bool := k1B cl fd && inB md 1055 && accB md && !(has md 1024 && has md 26)
def k3B (mj cl fd md : Int) : Bool := if has cl 512 = true then k2B cl fd md && !has md 20 && has md 3 && (mj == 52 || md == 1025) else k2B cl fd md
theorem and_nine : ∀ p1 p2 p3 p4 p5 p6 p7 ab p8 : Bool, (p1 && !(p2 && p3) && !(false && !p3) && p4 && p5 && p6 && p7 && !(ab && p8)) = ((!(p3 && p2 || false && !p3) && p1) && ((p4 && p5) && (!(false && !true) && (!(ab && p8) && (p6 && p7))))) := by decide
theorem and_face : ∀ p1 p2 p3 q1 p6 p7 ab p8 p9 p10 : Bool, (p1 && !(p2 && p3) && !(true && !p3) && q1 && p6 && p7 && !(ab && p8) && !p9 && p10 && (true || q1)) = ((!(p3 && p2 || true && !p3) && p1) && (q1 && (!(true && !(!p9 && p10)) && (!(ab && p8) && (p6 && p7))))) := by decide
theorem and_old : ∀ p1 p2 p3 q1 p6 p7 ab p8 p12 : Bool, (p1 && !(p2 && p3) && !(true && !p3) && q1 && p6 && p7 && !(ab && p8) && !false && true && (false || p12)) = ((!(p3 && p2 || true && !p3) && p1) && (q1 && (!(true && !p12) && (!(ab && p8) && (p6 && p7))))) := by decide
theorem and_none : ∀ p1 p2 p3 q1 p6 p7 ab p8 p9 p10 : Bool, (p1 && !(p2 && p3) && !(true && !p3) && q1 && p6 && p7 && !(ab && p8) && !p9 && p10 && (false || false)) = ((!(p3 && p2 || true && !p3) && p1) && (q1 && (!(true && !false) && (!(ab && p8) && (p6 && p7))))) := by decide
theorem k3_is (mj cl fd md : Int) (m0 : 50 ≤ mj) (m1 : mj ≤ 52) : k3B mj cl fd md = (classFlagsB cl && (fieldFlagsB fd (has cl 512) && plainFlagsB md cl mj)) := by
  unfold k3B k2B k1B k0B classFlagsB fieldFlagsB plainFlagsB methodFlagsB faceFlagsB
  cases hi : has cl 512
  · simp only [Bool.false_eq_true, if_false]
    have := and_nine (inB cl 1585) (has cl 16) (has cl 1024) (inB fd 31) (accB fd) (inB md 1055) (accB md) (has md 1024) (has md 26)
    simpa using this
  · simp only [if_true]
    by_cases h52 : mj = 52
    · subst h52
      have := and_face (inB cl 1585) (has cl 16) (has cl 1024) (fd == 25) (inB md 1055) (accB md) (has md 1024) (has md 26) (has md 20) (has md 3)
      simpa using this
    · have hlt : mj < 52 := by omega
      rw [if_pos hlt]
      have h52' : (mj == 52) = false := by simpa using h52
      rw [h52']
      by_cases h1025 : md = 1025
      · subst h1025
        rw [show has 1025 20 = false by decide +kernel, show has 1025 3 = true by decide +kernel]
        exact and_old (inB cl 1585) (has cl 16) (has cl 1024) (fd == 25) (inB 1025 1055) (accB 1025) (has 1025 1024) (has 1025 26) ((1025 : Int) == 1025)
      · have h' : (md == 1025) = false := by simpa using h1025
        rw [h']
        exact and_none (inB cl 1585) (has cl 16) (has cl 1024) (fd == 25) (inB md 1055) (accB md) (has md 1024) (has md 26) (has md 20) (has md 3)
theorem made_m (mj cl fd md : Int) (v1 : 50 ≤ mj) (v2 : mj ≤ 52) (c0 : 0 ≤ cl) (c1 : cl < 65536) (f0 : 0 ≤ fd) (f1 : fd < 65536) (d0 : 0 ≤ md) (d1 : md < 65536) (cd : Bool) (w : World) (hw : Maxed w) :
    Calls Tryz.prog 12 #[.int .i64 mj, .int .i64 cl, .int .i64 fd, .int .i64 md, .string ⟨#[109]⟩, .string ⟨#[40, 41, 86]⟩, .bool cd] w fun e w' => ∃ g n c, e = .returned (.slice (some ⟨g, 0, none⟩) n c) ∧ Calls Tryz.prog 11 #[.slice (some ⟨g, 0, none⟩) n c] w' (FileTold mj cl ⟨#[97]⟩ sObj (fun _ => True) (okB cl fd md (plainFlagsB md cl mj) cd) w') ∧ Below w.heap.size w w' :=
  made_read mj cl fd md nM dV ⟨#[109]⟩ ⟨#[40, 41, 86]⟩ cd (plainFlagsB md cl mj) v1 v2 c0 c1 f0 f1 d0 d1 (by rfl) (by rfl) (by decide) (by decide) (by cases cd; exact pool_m_dV_false; exact pool_m_dV_true) (by decide +kernel) (by decide +kernel) (fun E k nm' sp' I F M W hW => allows_m hW md d0 d1 ⟨#[40, 41, 86]⟩) w hw
theorem ok_yes (cl fd md : Int) (a : Bool) (ab : Bool) (h : has md 1024 = ab) : okB cl fd md a (!ab) = (classFlagsB cl && (fieldFlagsB fd (has cl 512) && a)) := by
  unfold okB
  rw [h]
  cases ab <;> cases a <;> rfl
theorem ok_not (cl fd md : Int) (a : Bool) (ab : Bool) (h : has md 1024 = ab) : okB cl fd md a ab = false := by
  unfold okB
  rw [h]
  cases classFlagsB cl <;> cases fieldFlagsB fd (has cl 512) <;> cases ab <;> cases a <;> rfl

set_option maxHeartbeats 1000000 in
set_option maxRecDepth 100000 in
theorem flags_out0 (mj cl fd md : Int) (w : World) (hw : Maxed w)  (r0 : mj < 50) : Calls Tryz.prog 4 #[.int .i64 mj, .int .i64 cl, .int .i64 fd, .int .i64 md] w fun e w' => e = .returned (.bool true) ∧ Below w.heap.size w w' := by
  have HG := hide (clbegun_is w hw)
  clear hw
  go_enter Tryz.func4, Tryz.ntmps4
  go_wp2_with fail
  refine HG.out.mono ?_
  rintro e w1 ⟨rfl, hb1⟩
  have HB1 := hide hb1
  clear hb1 HG
  go_wp2_with fail
  go_ret
  exact ⟨rfl, HB1.out⟩
set_option maxHeartbeats 1000000 in
set_option maxRecDepth 100000 in
theorem flags_out1 (mj cl fd md : Int) (w : World) (hw : Maxed w) (r0 : ¬ (mj < 50)) (r1 : 52 < mj) : Calls Tryz.prog 4 #[.int .i64 mj, .int .i64 cl, .int .i64 fd, .int .i64 md] w fun e w' => e = .returned (.bool true) ∧ Below w.heap.size w w' := by
  have HG := hide (clbegun_is w hw)
  clear hw
  go_enter Tryz.func4, Tryz.ntmps4
  go_wp2_with fail
  refine HG.out.mono ?_
  rintro e w1 ⟨rfl, hb1⟩
  have HB1 := hide hb1
  clear hb1 HG
  go_wp2_with fail
  go_ret
  exact ⟨rfl, HB1.out⟩
set_option maxHeartbeats 1000000 in
set_option maxRecDepth 100000 in
theorem flags_out2 (mj cl fd md : Int) (w : World) (hw : Maxed w) (r0 : ¬ (mj < 50)) (r1 : ¬ (52 < mj)) (r2 : cl < 0) : Calls Tryz.prog 4 #[.int .i64 mj, .int .i64 cl, .int .i64 fd, .int .i64 md] w fun e w' => e = .returned (.bool true) ∧ Below w.heap.size w w' := by
  have HG := hide (clbegun_is w hw)
  clear hw
  go_enter Tryz.func4, Tryz.ntmps4
  go_wp2_with fail
  refine HG.out.mono ?_
  rintro e w1 ⟨rfl, hb1⟩
  have HB1 := hide hb1
  clear hb1 HG
  go_wp2_with fail
  go_ret
  exact ⟨rfl, HB1.out⟩
set_option maxHeartbeats 1000000 in
set_option maxRecDepth 100000 in
theorem flags_out3 (mj cl fd md : Int) (w : World) (hw : Maxed w) (r0 : ¬ (mj < 50)) (r1 : ¬ (52 < mj)) (r2 : ¬ (cl < 0)) (r3 : 65535 < cl) : Calls Tryz.prog 4 #[.int .i64 mj, .int .i64 cl, .int .i64 fd, .int .i64 md] w fun e w' => e = .returned (.bool true) ∧ Below w.heap.size w w' := by
  have HG := hide (clbegun_is w hw)
  clear hw
  go_enter Tryz.func4, Tryz.ntmps4
  go_wp2_with fail
  refine HG.out.mono ?_
  rintro e w1 ⟨rfl, hb1⟩
  have HB1 := hide hb1
  clear hb1 HG
  go_wp2_with fail
  go_ret
  exact ⟨rfl, HB1.out⟩
set_option maxHeartbeats 1000000 in
set_option maxRecDepth 100000 in
theorem flags_out4 (mj cl fd md : Int) (w : World) (hw : Maxed w) (r0 : ¬ (mj < 50)) (r1 : ¬ (52 < mj)) (r2 : ¬ (cl < 0)) (r3 : ¬ (65535 < cl)) (r4 : fd < 0) : Calls Tryz.prog 4 #[.int .i64 mj, .int .i64 cl, .int .i64 fd, .int .i64 md] w fun e w' => e = .returned (.bool true) ∧ Below w.heap.size w w' := by
  have HG := hide (clbegun_is w hw)
  clear hw
  go_enter Tryz.func4, Tryz.ntmps4
  go_wp2_with fail
  refine HG.out.mono ?_
  rintro e w1 ⟨rfl, hb1⟩
  have HB1 := hide hb1
  clear hb1 HG
  go_wp2_with fail
  go_ret
  exact ⟨rfl, HB1.out⟩
set_option maxHeartbeats 1000000 in
set_option maxRecDepth 100000 in
theorem flags_out5 (mj cl fd md : Int) (w : World) (hw : Maxed w) (r0 : ¬ (mj < 50)) (r1 : ¬ (52 < mj)) (r2 : ¬ (cl < 0)) (r3 : ¬ (65535 < cl)) (r4 : ¬ (fd < 0)) (r5 : 65535 < fd) : Calls Tryz.prog 4 #[.int .i64 mj, .int .i64 cl, .int .i64 fd, .int .i64 md] w fun e w' => e = .returned (.bool true) ∧ Below w.heap.size w w' := by
  have HG := hide (clbegun_is w hw)
  clear hw
  go_enter Tryz.func4, Tryz.ntmps4
  go_wp2_with fail
  refine HG.out.mono ?_
  rintro e w1 ⟨rfl, hb1⟩
  have HB1 := hide hb1
  clear hb1 HG
  go_wp2_with fail
  go_ret
  exact ⟨rfl, HB1.out⟩
set_option maxHeartbeats 1000000 in
set_option maxRecDepth 100000 in
theorem flags_out6 (mj cl fd md : Int) (w : World) (hw : Maxed w) (r0 : ¬ (mj < 50)) (r1 : ¬ (52 < mj)) (r2 : ¬ (cl < 0)) (r3 : ¬ (65535 < cl)) (r4 : ¬ (fd < 0)) (r5 : ¬ (65535 < fd)) (r6 : md < 0) : Calls Tryz.prog 4 #[.int .i64 mj, .int .i64 cl, .int .i64 fd, .int .i64 md] w fun e w' => e = .returned (.bool true) ∧ Below w.heap.size w w' := by
  have HG := hide (clbegun_is w hw)
  clear hw
  go_enter Tryz.func4, Tryz.ntmps4
  go_wp2_with fail
  refine HG.out.mono ?_
  rintro e w1 ⟨rfl, hb1⟩
  have HB1 := hide hb1
  clear hb1 HG
  go_wp2_with fail
  go_ret
  exact ⟨rfl, HB1.out⟩
set_option maxHeartbeats 1000000 in
set_option maxRecDepth 100000 in
theorem flags_out7 (mj cl fd md : Int) (w : World) (hw : Maxed w) (r0 : ¬ (mj < 50)) (r1 : ¬ (52 < mj)) (r2 : ¬ (cl < 0)) (r3 : ¬ (65535 < cl)) (r4 : ¬ (fd < 0)) (r5 : ¬ (65535 < fd)) (r6 : ¬ (md < 0)) (r7 : 65535 < md) : Calls Tryz.prog 4 #[.int .i64 mj, .int .i64 cl, .int .i64 fd, .int .i64 md] w fun e w' => e = .returned (.bool true) ∧ Below w.heap.size w w' := by
  have HG := hide (clbegun_is w hw)
  clear hw
  go_enter Tryz.func4, Tryz.ntmps4
  go_wp2_with fail
  refine HG.out.mono ?_
  rintro e w1 ⟨rfl, hb1⟩
  have HB1 := hide hb1
  clear hb1 HG
  go_wp2_with fail
  go_ret
  exact ⟨rfl, HB1.out⟩
set_option maxHeartbeats 8000000 in
set_option maxRecDepth 100000 in
theorem flags_in_false_false_x (mj cl fd md : Int) (w : World) (hw : Maxed w) (r0 : ¬ (mj < 50)) (r1 : ¬ (52 < mj)) (r2 : ¬ (cl < 0)) (r3 : ¬ (65535 < cl)) (r4 : ¬ (fd < 0)) (r5 : ¬ (65535 < fd)) (r6 : ¬ (md < 0)) (r7 : ¬ (65535 < md)) (hi : has cl 512 = false) (hk0 : k0B cl = false) : Calls Tryz.prog 4 #[.int .i64 mj, .int .i64 cl, .int .i64 fd, .int .i64 md] w fun e w' => e = .returned (.bool true) ∧ Below w.heap.size w w' := by
  have HG := hide (clbegun_is w hw)
  have HW := hide hw
  clear hw
  have HA1 := hide (clAccess_is fd (by omega) (by omega))
  have HA2 := hide (clAccess_is md (by omega) (by omega))
  obtain ⟨ab, hab⟩ : ∃ p, (bits .and .i64 md 1024 != 0) = p := ⟨_, rfl⟩
  have hk1 : k1B cl fd = false := by unfold k1B; rw [hi, hk0]; simp
  obtain ⟨k2, hk2⟩ : ∃ k, k2B cl fd md = k := ⟨_, rfl⟩
  obtain ⟨k3, hk3⟩ : ∃ k, k3B mj cl fd md = k := ⟨_, rfl⟩
  have HM1 := hide (fun W (hW : Maxed W) => made_m mj cl fd md (by omega) (by omega) (by omega) (by omega) (by omega) (by omega) (by omega) (by omega) (!ab) W hW)
  have HM2 := hide (fun W (hW : Maxed W) => made_m mj cl fd md (by omega) (by omega) (by omega) (by omega) (by omega) (by omega) (by omega) (by omega) ab W hW)
  rw [ok_yes cl fd md _ ab hab, ← k3_is mj cl fd md (by omega) (by omega), hk3] at HM1
  rw [ok_not cl fd md _ ab hab] at HM2
  have K0 : Hid (∀ p1 p2 p3 : Bool, (bits .andNot .i64 cl 1585 == 0) = p1 → (bits .and .i64 cl 16 != 0) = p2 → (bits .and .i64 cl 1024 != 0) = p3 → (p1 && !(p2 && p3) && !(false && !p3)) = false) := hide fun p1 p2 p3 h1 h2 h3 => by
    have hk := hk0
    unfold k0B at hk
    rw [hi, show inB cl 1585 = p1 from h1, show has cl 16 = p2 from h2, show has cl 1024 = p3 from h3] at hk
    exact hk
  have K1 : Hid ((if (false : Bool) = true then false && (fd == 25) else false && (bits .andNot .i64 fd 31 == 0) && accB fd) = false) := hide (by
    have hk := hk1
    unfold k1B at hk
    rw [hi, hk0] at hk
    exact hk)
  have K2 : Hid ((false && (bits .andNot .i64 md 1055 == 0) && accB md && !(ab && (bits .and .i64 md 26 != 0))) = k2) := hide (by
    have hk := hk2
    unfold k2B at hk
    rw [hk1, show has md 1024 = ab from hab] at hk
    exact hk)
  have K3 : Hid ((if (false : Bool) = true then k2 && !has md 20 && has md 3 && (mj == 52 || md == 1025) else k2) = k3) := hide (by
    have hk := hk3
    unfold k3B at hk
    rw [hi, hk2] at hk
    exact hk)
  clear hk0 hk1 hk2 hk3
  unfold has at hi
  generalize accB fd = p5 at *
  generalize accB md = p7 at *
  go_enter Tryz.func4, Tryz.ntmps4
  go_wp2_with fail
  refine HG.out.mono ?_
  rintro e w1 ⟨rfl, hb1⟩
  have HB1 := hide hb1
  clear hb1 HG
  go_upto_region 8 with fail
  go_cut [12] (fun s12 wx => s12 = .bool false ∧ w1 = wx)
  case first =>
    obtain ⟨p1, hp1⟩ : ∃ p, (bits .andNot .i64 cl 1585 == 0) = p := ⟨_, rfl⟩
    obtain ⟨p2, hp2⟩ : ∃ p, (bits .and .i64 cl 16 != 0) = p := ⟨_, rfl⟩
    obtain ⟨p3, hp3⟩ : ∃ p, (bits .and .i64 cl 1024 != 0) = p := ⟨_, rfl⟩
    have hp3' : (bits .and .i64 cl 1024 == 0) = !p3 := by rw [← hp3]; simp [bne]
    have HK := hide (K0.out p1 p2 p3 hp1 hp2 hp3)
    clear K0 K1 K2 K3 HM1 HM2 HA1 HA2
    cases p1
    · go_wp2_with fail
      go_meet
      case rel => exact ⟨rfl, rfl⟩
    cases p2 <;> cases p3
    · exact absurd HK.out (by simp)
    · exact absurd HK.out (by simp)
    · exact absurd HK.out (by simp)
    · simp only [Bool.not_true] at hp3'
      go_wp2_with fail
      go_meet
      case rel => exact ⟨rfl, rfl⟩
  case rest =>
    obtain ⟨rfl, rfl⟩ := hcut
    go_upto_if 80 with fail
    go_cut [12] (fun s12 wx => s12 = .bool false ∧ w1 = wx)
    case first =>
      have HK := hide K1.out
      obtain ⟨p4, hp4⟩ : ∃ p, (bits .andNot .i64 fd 31 == 0) = p := ⟨_, rfl⟩
      rw [hp4] at HK
      clear K0 K1 K2 K3 HM1 HM2 HA2
      go_wp2_with fail
      go_meet
      case rel => exact ⟨rfl, rfl⟩
    case rest =>
      obtain ⟨rfl, rfl⟩ := hcut
      go_upto_region 12 with fail
      go_cut [12] (fun s12 wx => s12 = .bool k2 ∧ w1 = wx)
      case first =>
        have HK := hide K2.out
        obtain ⟨p6, hp6⟩ : ∃ p, (bits .andNot .i64 md 1055 == 0) = p := ⟨_, rfl⟩
        obtain ⟨p8, hp8⟩ : ∃ p, (bits .and .i64 md 26 != 0) = p := ⟨_, rfl⟩
        rw [hp6, hp8] at HK
        clear K0 K1 K2 K3 HM1 HM2 HA1
        have hk := HK.out
        subst hk
        go_wp2_with fail
        go_meet
        case rel => exact ⟨rfl, rfl⟩
      case rest =>
        obtain ⟨rfl, rfl⟩ := hcut
        have hk2 : k2 = false := by rw [← K2.out]; rfl
        subst hk2
        go_upto_if 115 with fail
        go_cut [12] (fun s12 wx => s12 = .bool k3 ∧ w1 = wx)
        case first =>
          have HK := hide K3.out
          obtain ⟨p9, hp9⟩ : ∃ p, (bits .and .i64 md 20 == 0) = p := ⟨_, rfl⟩
          have hp9' : (!has md 20) = p9 := by rw [← hp9]; unfold has; simp [bne]
          obtain ⟨p10, hp10⟩ : ∃ p, (bits .and .i64 md 3 != 0) = p := ⟨_, rfl⟩
          have hp10' : has md 3 = p10 := hp10
          obtain ⟨p11, hp11⟩ : ∃ p, (mj == 52) = p := ⟨_, rfl⟩
          obtain ⟨p12, hp12⟩ : ∃ p, (md == 1025) = p := ⟨_, rfl⟩
          rw [hp9', hp10', hp11, hp12] at HK
          clear K0 K1 K2 K3 HM1 HM2 HA1 HA2 hp9' hp10'
          have hk := HK.out
          subst hk
          go_wp2_with fail
          go_meet
          case rel => exact ⟨rfl, rfl⟩
        case rest =>
          obtain ⟨rfl, rfl⟩ := hcut
          clear K0 K1 K2 K3 HA1 HA2 hi hab
          go_wp2_with fail
          refine (HM1.out _ (HW.out.below HB1.out)).mono ?_
          rintro e w3 ⟨g, n, c, rfl, hrd, hb3⟩
          have HB3 := hide (HB1.out.trans (hb3.mono HB1.out.size))
          have HR := hide hrd
          clear hrd hb3 HB1 HM1
          go_wp2_with fail
          refine HR.out.mono ?_
          rintro e w4 hT
          obtain ⟨⟨p, rfl⟩, hb4⟩ := told_err hT
          have HB4 := hide (HB3.out.trans (hb4.mono HB3.out.size))
          clear hT hb4 HR HB3
          go_wp2_with fail
          refine (HM2.out _ (HW.out.below HB4.out)).mono ?_
          rintro e w5 ⟨g, n, c, rfl, hrd, hb5⟩
          have HB5 := hide (HB4.out.trans (hb5.mono HB4.out.size))
          have HR := hide hrd
          clear hrd hb5 HB4 HM2
          go_wp2_with fail
          refine HR.out.mono ?_
          rintro e w6 hT
          obtain ⟨⟨p, rfl⟩, hb6⟩ := told_err hT
          have HB6 := hide (HB5.out.trans (hb6.mono HB5.out.size))
          clear hT hb6 HR HB5
          have h1 : errV false = 1 := rfl
          have h2 : errV true = 0 := rfl
          cases k3
          · rw [h1]
            go_wp2_with fail
            go_ret
            exact ⟨rfl, HB6.out⟩
          · rw [h1, h2]
            go_wp2_with fail
            go_ret
            exact ⟨rfl, HB6.out⟩
set_option maxHeartbeats 8000000 in
set_option maxRecDepth 100000 in
theorem flags_in_false_true_false (mj cl fd md : Int) (w : World) (hw : Maxed w) (r0 : ¬ (mj < 50)) (r1 : ¬ (52 < mj)) (r2 : ¬ (cl < 0)) (r3 : ¬ (65535 < cl)) (r4 : ¬ (fd < 0)) (r5 : ¬ (65535 < fd)) (r6 : ¬ (md < 0)) (r7 : ¬ (65535 < md)) (hi : has cl 512 = false) (hk0 : k0B cl = true) (hk1 : k1B cl fd = false) : Calls Tryz.prog 4 #[.int .i64 mj, .int .i64 cl, .int .i64 fd, .int .i64 md] w fun e w' => e = .returned (.bool true) ∧ Below w.heap.size w w' := by
  have HG := hide (clbegun_is w hw)
  have HW := hide hw
  clear hw
  have HA1 := hide (clAccess_is fd (by omega) (by omega))
  have HA2 := hide (clAccess_is md (by omega) (by omega))
  obtain ⟨ab, hab⟩ : ∃ p, (bits .and .i64 md 1024 != 0) = p := ⟨_, rfl⟩
  obtain ⟨k2, hk2⟩ : ∃ k, k2B cl fd md = k := ⟨_, rfl⟩
  obtain ⟨k3, hk3⟩ : ∃ k, k3B mj cl fd md = k := ⟨_, rfl⟩
  have HM1 := hide (fun W (hW : Maxed W) => made_m mj cl fd md (by omega) (by omega) (by omega) (by omega) (by omega) (by omega) (by omega) (by omega) (!ab) W hW)
  have HM2 := hide (fun W (hW : Maxed W) => made_m mj cl fd md (by omega) (by omega) (by omega) (by omega) (by omega) (by omega) (by omega) (by omega) ab W hW)
  rw [ok_yes cl fd md _ ab hab, ← k3_is mj cl fd md (by omega) (by omega), hk3] at HM1
  rw [ok_not cl fd md _ ab hab] at HM2
  have K0 : Hid (∀ p1 p2 p3 : Bool, (bits .andNot .i64 cl 1585 == 0) = p1 → (bits .and .i64 cl 16 != 0) = p2 → (bits .and .i64 cl 1024 != 0) = p3 → (p1 && !(p2 && p3) && !(false && !p3)) = true) := hide fun p1 p2 p3 h1 h2 h3 => by
    have hk := hk0
    unfold k0B at hk
    rw [hi, show inB cl 1585 = p1 from h1, show has cl 16 = p2 from h2, show has cl 1024 = p3 from h3] at hk
    exact hk
  have K1 : Hid ((if (false : Bool) = true then true && (fd == 25) else true && (bits .andNot .i64 fd 31 == 0) && accB fd) = false) := hide (by
    have hk := hk1
    unfold k1B at hk
    rw [hi, hk0] at hk
    exact hk)
  have K2 : Hid ((false && (bits .andNot .i64 md 1055 == 0) && accB md && !(ab && (bits .and .i64 md 26 != 0))) = k2) := hide (by
    have hk := hk2
    unfold k2B at hk
    rw [hk1, show has md 1024 = ab from hab] at hk
    exact hk)
  have K3 : Hid ((if (false : Bool) = true then k2 && !has md 20 && has md 3 && (mj == 52 || md == 1025) else k2) = k3) := hide (by
    have hk := hk3
    unfold k3B at hk
    rw [hi, hk2] at hk
    exact hk)
  clear hk0 hk1 hk2 hk3
  unfold has at hi
  generalize accB fd = p5 at *
  generalize accB md = p7 at *
  go_enter Tryz.func4, Tryz.ntmps4
  go_wp2_with fail
  refine HG.out.mono ?_
  rintro e w1 ⟨rfl, hb1⟩
  have HB1 := hide hb1
  clear hb1 HG
  go_upto_region 8 with fail
  go_cut [12] (fun s12 wx => s12 = .bool true ∧ w1 = wx)
  case first =>
    obtain ⟨p1, hp1⟩ : ∃ p, (bits .andNot .i64 cl 1585 == 0) = p := ⟨_, rfl⟩
    obtain ⟨p2, hp2⟩ : ∃ p, (bits .and .i64 cl 16 != 0) = p := ⟨_, rfl⟩
    obtain ⟨p3, hp3⟩ : ∃ p, (bits .and .i64 cl 1024 != 0) = p := ⟨_, rfl⟩
    have hp3' : (bits .and .i64 cl 1024 == 0) = !p3 := by rw [← hp3]; simp [bne]
    have HK := hide (K0.out p1 p2 p3 hp1 hp2 hp3)
    clear K0 K1 K2 K3 HM1 HM2 HA1 HA2
    cases p1
    · exact absurd HK.out (by simp)
    cases p2 <;> cases p3
    · simp only [Bool.not_false] at hp3'
      go_wp2_with fail
      go_meet
      case rel => exact ⟨rfl, rfl⟩
    · simp only [Bool.not_true] at hp3'
      go_wp2_with fail
      go_meet
      case rel => exact ⟨rfl, rfl⟩
    · simp only [Bool.not_false] at hp3'
      go_wp2_with fail
      go_meet
      case rel => exact ⟨rfl, rfl⟩
    · exact absurd HK.out (by simp)
  case rest =>
    obtain ⟨rfl, rfl⟩ := hcut
    go_upto_if 80 with fail
    go_cut [12] (fun s12 wx => s12 = .bool false ∧ w1 = wx)
    case first =>
      have HK := hide K1.out
      obtain ⟨p4, hp4⟩ : ∃ p, (bits .andNot .i64 fd 31 == 0) = p := ⟨_, rfl⟩
      rw [hp4] at HK
      clear K0 K1 K2 K3 HM1 HM2 HA2
      cases p4
      · go_wp2_with fail
        go_meet
        case rel => exact ⟨rfl, rfl⟩
      cases p5
      · go_wp2_with fail
        refine (HA1.out _).mono ?_
        rintro e w2 ⟨rfl, rfl⟩
        go_wp2_with fail
        go_meet
        case rel => exact ⟨rfl, rfl⟩
      · exact absurd HK.out (by simp)
    case rest =>
      obtain ⟨rfl, rfl⟩ := hcut
      go_upto_region 12 with fail
      go_cut [12] (fun s12 wx => s12 = .bool k2 ∧ w1 = wx)
      case first =>
        have HK := hide K2.out
        obtain ⟨p6, hp6⟩ : ∃ p, (bits .andNot .i64 md 1055 == 0) = p := ⟨_, rfl⟩
        obtain ⟨p8, hp8⟩ : ∃ p, (bits .and .i64 md 26 != 0) = p := ⟨_, rfl⟩
        rw [hp6, hp8] at HK
        clear K0 K1 K2 K3 HM1 HM2 HA1
        have hk := HK.out
        subst hk
        go_wp2_with fail
        go_meet
        case rel => exact ⟨rfl, rfl⟩
      case rest =>
        obtain ⟨rfl, rfl⟩ := hcut
        have hk2 : k2 = false := by rw [← K2.out]; rfl
        subst hk2
        go_upto_if 115 with fail
        go_cut [12] (fun s12 wx => s12 = .bool k3 ∧ w1 = wx)
        case first =>
          have HK := hide K3.out
          obtain ⟨p9, hp9⟩ : ∃ p, (bits .and .i64 md 20 == 0) = p := ⟨_, rfl⟩
          have hp9' : (!has md 20) = p9 := by rw [← hp9]; unfold has; simp [bne]
          obtain ⟨p10, hp10⟩ : ∃ p, (bits .and .i64 md 3 != 0) = p := ⟨_, rfl⟩
          have hp10' : has md 3 = p10 := hp10
          obtain ⟨p11, hp11⟩ : ∃ p, (mj == 52) = p := ⟨_, rfl⟩
          obtain ⟨p12, hp12⟩ : ∃ p, (md == 1025) = p := ⟨_, rfl⟩
          rw [hp9', hp10', hp11, hp12] at HK
          clear K0 K1 K2 K3 HM1 HM2 HA1 HA2 hp9' hp10'
          have hk := HK.out
          subst hk
          go_wp2_with fail
          go_meet
          case rel => exact ⟨rfl, rfl⟩
        case rest =>
          obtain ⟨rfl, rfl⟩ := hcut
          clear K0 K1 K2 K3 HA1 HA2 hi hab
          go_wp2_with fail
          refine (HM1.out _ (HW.out.below HB1.out)).mono ?_
          rintro e w3 ⟨g, n, c, rfl, hrd, hb3⟩
          have HB3 := hide (HB1.out.trans (hb3.mono HB1.out.size))
          have HR := hide hrd
          clear hrd hb3 HB1 HM1
          go_wp2_with fail
          refine HR.out.mono ?_
          rintro e w4 hT
          obtain ⟨⟨p, rfl⟩, hb4⟩ := told_err hT
          have HB4 := hide (HB3.out.trans (hb4.mono HB3.out.size))
          clear hT hb4 HR HB3
          go_wp2_with fail
          refine (HM2.out _ (HW.out.below HB4.out)).mono ?_
          rintro e w5 ⟨g, n, c, rfl, hrd, hb5⟩
          have HB5 := hide (HB4.out.trans (hb5.mono HB4.out.size))
          have HR := hide hrd
          clear hrd hb5 HB4 HM2
          go_wp2_with fail
          refine HR.out.mono ?_
          rintro e w6 hT
          obtain ⟨⟨p, rfl⟩, hb6⟩ := told_err hT
          have HB6 := hide (HB5.out.trans (hb6.mono HB5.out.size))
          clear hT hb6 HR HB5
          have h1 : errV false = 1 := rfl
          have h2 : errV true = 0 := rfl
          cases k3
          · rw [h1]
            go_wp2_with fail
            go_ret
            exact ⟨rfl, HB6.out⟩
          · rw [h1, h2]
            go_wp2_with fail
            go_ret
            exact ⟨rfl, HB6.out⟩
set_option maxHeartbeats 8000000 in
set_option maxRecDepth 100000 in
theorem flags_in_false_true_true (mj cl fd md : Int) (w : World) (hw : Maxed w) (r0 : ¬ (mj < 50)) (r1 : ¬ (52 < mj)) (r2 : ¬ (cl < 0)) (r3 : ¬ (65535 < cl)) (r4 : ¬ (fd < 0)) (r5 : ¬ (65535 < fd)) (r6 : ¬ (md < 0)) (r7 : ¬ (65535 < md)) (hi : has cl 512 = false) (hk0 : k0B cl = true) (hk1 : k1B cl fd = true) : Calls Tryz.prog 4 #[.int .i64 mj, .int .i64 cl, .int .i64 fd, .int .i64 md] w fun e w' => e = .returned (.bool true) ∧ Below w.heap.size w w' := by
  have HG := hide (clbegun_is w hw)
  have HW := hide hw
  clear hw
  have HA1 := hide (clAccess_is fd (by omega) (by omega))
  have HA2 := hide (clAccess_is md (by omega) (by omega))
  obtain ⟨ab, hab⟩ : ∃ p, (bits .and .i64 md 1024 != 0) = p := ⟨_, rfl⟩
  obtain ⟨k2, hk2⟩ : ∃ k, k2B cl fd md = k := ⟨_, rfl⟩
  obtain ⟨k3, hk3⟩ : ∃ k, k3B mj cl fd md = k := ⟨_, rfl⟩
  have HM1 := hide (fun W (hW : Maxed W) => made_m mj cl fd md (by omega) (by omega) (by omega) (by omega) (by omega) (by omega) (by omega) (by omega) (!ab) W hW)
  have HM2 := hide (fun W (hW : Maxed W) => made_m mj cl fd md (by omega) (by omega) (by omega) (by omega) (by omega) (by omega) (by omega) (by omega) ab W hW)
  rw [ok_yes cl fd md _ ab hab, ← k3_is mj cl fd md (by omega) (by omega), hk3] at HM1
  rw [ok_not cl fd md _ ab hab] at HM2
  have K0 : Hid (∀ p1 p2 p3 : Bool, (bits .andNot .i64 cl 1585 == 0) = p1 → (bits .and .i64 cl 16 != 0) = p2 → (bits .and .i64 cl 1024 != 0) = p3 → (p1 && !(p2 && p3) && !(false && !p3)) = true) := hide fun p1 p2 p3 h1 h2 h3 => by
    have hk := hk0
    unfold k0B at hk
    rw [hi, show inB cl 1585 = p1 from h1, show has cl 16 = p2 from h2, show has cl 1024 = p3 from h3] at hk
    exact hk
  have K1 : Hid ((if (false : Bool) = true then true && (fd == 25) else true && (bits .andNot .i64 fd 31 == 0) && accB fd) = true) := hide (by
    have hk := hk1
    unfold k1B at hk
    rw [hi, hk0] at hk
    exact hk)
  have K2 : Hid ((true && (bits .andNot .i64 md 1055 == 0) && accB md && !(ab && (bits .and .i64 md 26 != 0))) = k2) := hide (by
    have hk := hk2
    unfold k2B at hk
    rw [hk1, show has md 1024 = ab from hab] at hk
    exact hk)
  have K3 : Hid ((if (false : Bool) = true then k2 && !has md 20 && has md 3 && (mj == 52 || md == 1025) else k2) = k3) := hide (by
    have hk := hk3
    unfold k3B at hk
    rw [hi, hk2] at hk
    exact hk)
  clear hk0 hk1 hk2 hk3
  unfold has at hi
  generalize accB fd = p5 at *
  generalize accB md = p7 at *
  go_enter Tryz.func4, Tryz.ntmps4
  go_wp2_with fail
  refine HG.out.mono ?_
  rintro e w1 ⟨rfl, hb1⟩
  have HB1 := hide hb1
  clear hb1 HG
  go_upto_region 8 with fail
  go_cut [12] (fun s12 wx => s12 = .bool true ∧ w1 = wx)
  case first =>
    obtain ⟨p1, hp1⟩ : ∃ p, (bits .andNot .i64 cl 1585 == 0) = p := ⟨_, rfl⟩
    obtain ⟨p2, hp2⟩ : ∃ p, (bits .and .i64 cl 16 != 0) = p := ⟨_, rfl⟩
    obtain ⟨p3, hp3⟩ : ∃ p, (bits .and .i64 cl 1024 != 0) = p := ⟨_, rfl⟩
    have hp3' : (bits .and .i64 cl 1024 == 0) = !p3 := by rw [← hp3]; simp [bne]
    have HK := hide (K0.out p1 p2 p3 hp1 hp2 hp3)
    clear K0 K1 K2 K3 HM1 HM2 HA1 HA2
    cases p1
    · exact absurd HK.out (by simp)
    cases p2 <;> cases p3
    · simp only [Bool.not_false] at hp3'
      go_wp2_with fail
      go_meet
      case rel => exact ⟨rfl, rfl⟩
    · simp only [Bool.not_true] at hp3'
      go_wp2_with fail
      go_meet
      case rel => exact ⟨rfl, rfl⟩
    · simp only [Bool.not_false] at hp3'
      go_wp2_with fail
      go_meet
      case rel => exact ⟨rfl, rfl⟩
    · exact absurd HK.out (by simp)
  case rest =>
    obtain ⟨rfl, rfl⟩ := hcut
    go_upto_if 80 with fail
    go_cut [12] (fun s12 wx => s12 = .bool true ∧ w1 = wx)
    case first =>
      have HK := hide K1.out
      obtain ⟨p4, hp4⟩ : ∃ p, (bits .andNot .i64 fd 31 == 0) = p := ⟨_, rfl⟩
      rw [hp4] at HK
      clear K0 K1 K2 K3 HM1 HM2 HA2
      cases p4
      · exact absurd HK.out (by simp)
      cases p5
      · exact absurd HK.out (by simp)
      · go_wp2_with fail
        refine (HA1.out _).mono ?_
        rintro e w2 ⟨rfl, rfl⟩
        go_wp2_with fail
        go_meet
        case rel => exact ⟨rfl, rfl⟩
    case rest =>
      obtain ⟨rfl, rfl⟩ := hcut
      go_upto_region 12 with fail
      go_cut [12] (fun s12 wx => s12 = .bool k2 ∧ w1 = wx)
      case first =>
        have HK := hide K2.out
        obtain ⟨p6, hp6⟩ : ∃ p, (bits .andNot .i64 md 1055 == 0) = p := ⟨_, rfl⟩
        obtain ⟨p8, hp8⟩ : ∃ p, (bits .and .i64 md 26 != 0) = p := ⟨_, rfl⟩
        rw [hp6, hp8] at HK
        clear K0 K1 K2 K3 HM1 HM2 HA1
        cases p6
        · have hk := HK.out
          subst hk
          go_wp2_with fail
          go_meet
          case rel => exact ⟨rfl, rfl⟩
        cases p7
        · have hk := HK.out
          subst hk
          go_wp2_with fail
          refine (HA2.out _).mono ?_
          rintro e w2 ⟨rfl, rfl⟩
          go_wp2_with fail
          go_meet
          case rel => exact ⟨rfl, rfl⟩
        cases ab
        · have hk := HK.out
          subst hk
          go_wp2_with fail
          refine (HA2.out _).mono ?_
          rintro e w2 ⟨rfl, rfl⟩
          go_wp2_with fail
          go_meet
          case rel => exact ⟨rfl, rfl⟩
        have hk := HK.out
        subst hk
        go_wp2_with fail
        refine (HA2.out _).mono ?_
        rintro e w2 ⟨rfl, rfl⟩
        go_wp2_with fail
        go_meet
        case rel => exact ⟨by cases p8 <;> rfl, rfl⟩
      case rest =>
        obtain ⟨rfl, rfl⟩ := hcut
        go_upto_if 115 with fail
        go_cut [12] (fun s12 wx => s12 = .bool k3 ∧ w1 = wx)
        case first =>
          have HK := hide K3.out
          obtain ⟨p9, hp9⟩ : ∃ p, (bits .and .i64 md 20 == 0) = p := ⟨_, rfl⟩
          have hp9' : (!has md 20) = p9 := by rw [← hp9]; unfold has; simp [bne]
          obtain ⟨p10, hp10⟩ : ∃ p, (bits .and .i64 md 3 != 0) = p := ⟨_, rfl⟩
          have hp10' : has md 3 = p10 := hp10
          obtain ⟨p11, hp11⟩ : ∃ p, (mj == 52) = p := ⟨_, rfl⟩
          obtain ⟨p12, hp12⟩ : ∃ p, (md == 1025) = p := ⟨_, rfl⟩
          rw [hp9', hp10', hp11, hp12] at HK
          clear K0 K1 K2 K3 HM1 HM2 HA1 HA2 hp9' hp10'
          have hk := HK.out
          subst hk
          go_wp2_with fail
          go_meet
          case rel => exact ⟨rfl, rfl⟩
        case rest =>
          obtain ⟨rfl, rfl⟩ := hcut
          clear K0 K1 K2 K3 HA1 HA2 hi hab
          go_wp2_with fail
          refine (HM1.out _ (HW.out.below HB1.out)).mono ?_
          rintro e w3 ⟨g, n, c, rfl, hrd, hb3⟩
          have HB3 := hide (HB1.out.trans (hb3.mono HB1.out.size))
          have HR := hide hrd
          clear hrd hb3 HB1 HM1
          go_wp2_with fail
          refine HR.out.mono ?_
          rintro e w4 hT
          obtain ⟨⟨p, rfl⟩, hb4⟩ := told_err hT
          have HB4 := hide (HB3.out.trans (hb4.mono HB3.out.size))
          clear hT hb4 HR HB3
          go_wp2_with fail
          refine (HM2.out _ (HW.out.below HB4.out)).mono ?_
          rintro e w5 ⟨g, n, c, rfl, hrd, hb5⟩
          have HB5 := hide (HB4.out.trans (hb5.mono HB4.out.size))
          have HR := hide hrd
          clear hrd hb5 HB4 HM2
          go_wp2_with fail
          refine HR.out.mono ?_
          rintro e w6 hT
          obtain ⟨⟨p, rfl⟩, hb6⟩ := told_err hT
          have HB6 := hide (HB5.out.trans (hb6.mono HB5.out.size))
          clear hT hb6 HR HB5
          have h1 : errV false = 1 := rfl
          have h2 : errV true = 0 := rfl
          cases k3
          · rw [h1]
            go_wp2_with fail
            go_ret
            exact ⟨rfl, HB6.out⟩
          · rw [h1, h2]
            go_wp2_with fail
            go_ret
            exact ⟨rfl, HB6.out⟩
set_option maxHeartbeats 8000000 in
set_option maxRecDepth 100000 in
theorem flags_in_true_false_x (mj cl fd md : Int) (w : World) (hw : Maxed w) (r0 : ¬ (mj < 50)) (r1 : ¬ (52 < mj)) (r2 : ¬ (cl < 0)) (r3 : ¬ (65535 < cl)) (r4 : ¬ (fd < 0)) (r5 : ¬ (65535 < fd)) (r6 : ¬ (md < 0)) (r7 : ¬ (65535 < md)) (hi : has cl 512 = true) (hk0 : k0B cl = false) : Calls Tryz.prog 4 #[.int .i64 mj, .int .i64 cl, .int .i64 fd, .int .i64 md] w fun e w' => e = .returned (.bool true) ∧ Below w.heap.size w w' := by
  have HG := hide (clbegun_is w hw)
  have HW := hide hw
  clear hw
  have HA1 := hide (clAccess_is fd (by omega) (by omega))
  have HA2 := hide (clAccess_is md (by omega) (by omega))
  obtain ⟨ab, hab⟩ : ∃ p, (bits .and .i64 md 1024 != 0) = p := ⟨_, rfl⟩
  have hk1 : k1B cl fd = false := by unfold k1B; rw [hi, hk0]; simp
  obtain ⟨k2, hk2⟩ : ∃ k, k2B cl fd md = k := ⟨_, rfl⟩
  obtain ⟨k3, hk3⟩ : ∃ k, k3B mj cl fd md = k := ⟨_, rfl⟩
  have HM1 := hide (fun W (hW : Maxed W) => made_m mj cl fd md (by omega) (by omega) (by omega) (by omega) (by omega) (by omega) (by omega) (by omega) (!ab) W hW)
  have HM2 := hide (fun W (hW : Maxed W) => made_m mj cl fd md (by omega) (by omega) (by omega) (by omega) (by omega) (by omega) (by omega) (by omega) ab W hW)
  rw [ok_yes cl fd md _ ab hab, ← k3_is mj cl fd md (by omega) (by omega), hk3] at HM1
  rw [ok_not cl fd md _ ab hab] at HM2
  have K0 : Hid (∀ p1 p2 p3 : Bool, (bits .andNot .i64 cl 1585 == 0) = p1 → (bits .and .i64 cl 16 != 0) = p2 → (bits .and .i64 cl 1024 != 0) = p3 → (p1 && !(p2 && p3) && !(true && !p3)) = false) := hide fun p1 p2 p3 h1 h2 h3 => by
    have hk := hk0
    unfold k0B at hk
    rw [hi, show inB cl 1585 = p1 from h1, show has cl 16 = p2 from h2, show has cl 1024 = p3 from h3] at hk
    exact hk
  have K1 : Hid ((if (true : Bool) = true then false && (fd == 25) else false && (bits .andNot .i64 fd 31 == 0) && accB fd) = false) := hide (by
    have hk := hk1
    unfold k1B at hk
    rw [hi, hk0] at hk
    exact hk)
  have K2 : Hid ((false && (bits .andNot .i64 md 1055 == 0) && accB md && !(ab && (bits .and .i64 md 26 != 0))) = k2) := hide (by
    have hk := hk2
    unfold k2B at hk
    rw [hk1, show has md 1024 = ab from hab] at hk
    exact hk)
  have K3 : Hid ((if (true : Bool) = true then k2 && !has md 20 && has md 3 && (mj == 52 || md == 1025) else k2) = k3) := hide (by
    have hk := hk3
    unfold k3B at hk
    rw [hi, hk2] at hk
    exact hk)
  clear hk0 hk1 hk2 hk3
  unfold has at hi
  generalize accB fd = p5 at *
  generalize accB md = p7 at *
  go_enter Tryz.func4, Tryz.ntmps4
  go_wp2_with fail
  refine HG.out.mono ?_
  rintro e w1 ⟨rfl, hb1⟩
  have HB1 := hide hb1
  clear hb1 HG
  go_upto_region 8 with fail
  go_cut [12] (fun s12 wx => s12 = .bool false ∧ w1 = wx)
  case first =>
    obtain ⟨p1, hp1⟩ : ∃ p, (bits .andNot .i64 cl 1585 == 0) = p := ⟨_, rfl⟩
    obtain ⟨p2, hp2⟩ : ∃ p, (bits .and .i64 cl 16 != 0) = p := ⟨_, rfl⟩
    obtain ⟨p3, hp3⟩ : ∃ p, (bits .and .i64 cl 1024 != 0) = p := ⟨_, rfl⟩
    have hp3' : (bits .and .i64 cl 1024 == 0) = !p3 := by rw [← hp3]; simp [bne]
    have HK := hide (K0.out p1 p2 p3 hp1 hp2 hp3)
    clear K0 K1 K2 K3 HM1 HM2 HA1 HA2
    cases p1
    · go_wp2_with fail
      go_meet
      case rel => exact ⟨rfl, rfl⟩
    cases p2 <;> cases p3
    · simp only [Bool.not_false] at hp3'
      go_wp2_with fail
      go_meet
      case rel => exact ⟨rfl, rfl⟩
    · exact absurd HK.out (by simp)
    · simp only [Bool.not_false] at hp3'
      go_wp2_with fail
      go_meet
      case rel => exact ⟨rfl, rfl⟩
    · simp only [Bool.not_true] at hp3'
      go_wp2_with fail
      go_meet
      case rel => exact ⟨rfl, rfl⟩
  case rest =>
    obtain ⟨rfl, rfl⟩ := hcut
    go_upto_if 80 with fail
    go_cut [12] (fun s12 wx => s12 = .bool false ∧ w1 = wx)
    case first =>
      have HK := hide K1.out
      obtain ⟨q1, hq1⟩ : ∃ p, (fd == 25) = p := ⟨_, rfl⟩
      rw [hq1] at HK
      clear K0 K1 K2 K3 HM1 HM2 HA2 HA1
      go_wp2_with fail
      go_meet
      case rel => exact ⟨rfl, rfl⟩
    case rest =>
      obtain ⟨rfl, rfl⟩ := hcut
      go_upto_region 12 with fail
      go_cut [12] (fun s12 wx => s12 = .bool k2 ∧ w1 = wx)
      case first =>
        have HK := hide K2.out
        obtain ⟨p6, hp6⟩ : ∃ p, (bits .andNot .i64 md 1055 == 0) = p := ⟨_, rfl⟩
        obtain ⟨p8, hp8⟩ : ∃ p, (bits .and .i64 md 26 != 0) = p := ⟨_, rfl⟩
        rw [hp6, hp8] at HK
        clear K0 K1 K2 K3 HM1 HM2 HA1
        have hk := HK.out
        subst hk
        go_wp2_with fail
        go_meet
        case rel => exact ⟨rfl, rfl⟩
      case rest =>
        obtain ⟨rfl, rfl⟩ := hcut
        have hk2 : k2 = false := by rw [← K2.out]; rfl
        subst hk2
        go_upto_if 115 with fail
        go_cut [12] (fun s12 wx => s12 = .bool k3 ∧ w1 = wx)
        case first =>
          have HK := hide K3.out
          obtain ⟨p9, hp9⟩ : ∃ p, (bits .and .i64 md 20 == 0) = p := ⟨_, rfl⟩
          have hp9' : (!has md 20) = p9 := by rw [← hp9]; unfold has; simp [bne]
          obtain ⟨p10, hp10⟩ : ∃ p, (bits .and .i64 md 3 != 0) = p := ⟨_, rfl⟩
          have hp10' : has md 3 = p10 := hp10
          obtain ⟨p11, hp11⟩ : ∃ p, (mj == 52) = p := ⟨_, rfl⟩
          obtain ⟨p12, hp12⟩ : ∃ p, (md == 1025) = p := ⟨_, rfl⟩
          rw [hp9', hp10', hp11, hp12] at HK
          clear K0 K1 K2 K3 HM1 HM2 HA1 HA2 hp9' hp10'
          have hk := HK.out
          subst hk
          go_wp2_with fail
          go_meet
          case rel => exact ⟨rfl, rfl⟩
        case rest =>
          obtain ⟨rfl, rfl⟩ := hcut
          clear K0 K1 K2 K3 HA1 HA2 hi hab
          go_wp2_with fail
          refine (HM1.out _ (HW.out.below HB1.out)).mono ?_
          rintro e w3 ⟨g, n, c, rfl, hrd, hb3⟩
          have HB3 := hide (HB1.out.trans (hb3.mono HB1.out.size))
          have HR := hide hrd
          clear hrd hb3 HB1 HM1
          go_wp2_with fail
          refine HR.out.mono ?_
          rintro e w4 hT
          obtain ⟨⟨p, rfl⟩, hb4⟩ := told_err hT
          have HB4 := hide (HB3.out.trans (hb4.mono HB3.out.size))
          clear hT hb4 HR HB3
          go_wp2_with fail
          refine (HM2.out _ (HW.out.below HB4.out)).mono ?_
          rintro e w5 ⟨g, n, c, rfl, hrd, hb5⟩
          have HB5 := hide (HB4.out.trans (hb5.mono HB4.out.size))
          have HR := hide hrd
          clear hrd hb5 HB4 HM2
          go_wp2_with fail
          refine HR.out.mono ?_
          rintro e w6 hT
          obtain ⟨⟨p, rfl⟩, hb6⟩ := told_err hT
          have HB6 := hide (HB5.out.trans (hb6.mono HB5.out.size))
          clear hT hb6 HR HB5
          have h1 : errV false = 1 := rfl
          have h2 : errV true = 0 := rfl
          cases k3
          · rw [h1]
            go_wp2_with fail
            go_ret
            exact ⟨rfl, HB6.out⟩
          · rw [h1, h2]
            go_wp2_with fail
            go_ret
            exact ⟨rfl, HB6.out⟩
set_option maxHeartbeats 8000000 in
set_option maxRecDepth 100000 in
theorem flags_in_true_true_false (mj cl fd md : Int) (w : World) (hw : Maxed w) (r0 : ¬ (mj < 50)) (r1 : ¬ (52 < mj)) (r2 : ¬ (cl < 0)) (r3 : ¬ (65535 < cl)) (r4 : ¬ (fd < 0)) (r5 : ¬ (65535 < fd)) (r6 : ¬ (md < 0)) (r7 : ¬ (65535 < md)) (hi : has cl 512 = true) (hk0 : k0B cl = true) (hk1 : k1B cl fd = false) : Calls Tryz.prog 4 #[.int .i64 mj, .int .i64 cl, .int .i64 fd, .int .i64 md] w fun e w' => e = .returned (.bool true) ∧ Below w.heap.size w w' := by
  have HG := hide (clbegun_is w hw)
  have HW := hide hw
  clear hw
  have HA1 := hide (clAccess_is fd (by omega) (by omega))
  have HA2 := hide (clAccess_is md (by omega) (by omega))
  obtain ⟨ab, hab⟩ : ∃ p, (bits .and .i64 md 1024 != 0) = p := ⟨_, rfl⟩
  obtain ⟨k2, hk2⟩ : ∃ k, k2B cl fd md = k := ⟨_, rfl⟩
  obtain ⟨k3, hk3⟩ : ∃ k, k3B mj cl fd md = k := ⟨_, rfl⟩
  have HM1 := hide (fun W (hW : Maxed W) => made_m mj cl fd md (by omega) (by omega) (by omega) (by omega) (by omega) (by omega) (by omega) (by omega) (!ab) W hW)
  have HM2 := hide (fun W (hW : Maxed W) => made_m mj cl fd md (by omega) (by omega) (by omega) (by omega) (by omega) (by omega) (by omega) (by omega) ab W hW)
  rw [ok_yes cl fd md _ ab hab, ← k3_is mj cl fd md (by omega) (by omega), hk3] at HM1
  rw [ok_not cl fd md _ ab hab] at HM2
  have K0 : Hid (∀ p1 p2 p3 : Bool, (bits .andNot .i64 cl 1585 == 0) = p1 → (bits .and .i64 cl 16 != 0) = p2 → (bits .and .i64 cl 1024 != 0) = p3 → (p1 && !(p2 && p3) && !(true && !p3)) = true) := hide fun p1 p2 p3 h1 h2 h3 => by
    have hk := hk0
    unfold k0B at hk
    rw [hi, show inB cl 1585 = p1 from h1, show has cl 16 = p2 from h2, show has cl 1024 = p3 from h3] at hk
    exact hk
  have K1 : Hid ((if (true : Bool) = true then true && (fd == 25) else true && (bits .andNot .i64 fd 31 == 0) && accB fd) = false) := hide (by
    have hk := hk1
    unfold k1B at hk
    rw [hi, hk0] at hk
    exact hk)
  have K2 : Hid ((false && (bits .andNot .i64 md 1055 == 0) && accB md && !(ab && (bits .and .i64 md 26 != 0))) = k2) := hide (by
    have hk := hk2
    unfold k2B at hk
    rw [hk1, show has md 1024 = ab from hab] at hk
    exact hk)
  have K3 : Hid ((if (true : Bool) = true then k2 && !has md 20 && has md 3 && (mj == 52 || md == 1025) else k2) = k3) := hide (by
    have hk := hk3
    unfold k3B at hk
    rw [hi, hk2] at hk
    exact hk)
  clear hk0 hk1 hk2 hk3
  unfold has at hi
  generalize accB fd = p5 at *
  generalize accB md = p7 at *
  go_enter Tryz.func4, Tryz.ntmps4
  go_wp2_with fail
  refine HG.out.mono ?_
  rintro e w1 ⟨rfl, hb1⟩
  have HB1 := hide hb1
  clear hb1 HG
  go_upto_region 8 with fail
  go_cut [12] (fun s12 wx => s12 = .bool true ∧ w1 = wx)
  case first =>
    obtain ⟨p1, hp1⟩ : ∃ p, (bits .andNot .i64 cl 1585 == 0) = p := ⟨_, rfl⟩
    obtain ⟨p2, hp2⟩ : ∃ p, (bits .and .i64 cl 16 != 0) = p := ⟨_, rfl⟩
    obtain ⟨p3, hp3⟩ : ∃ p, (bits .and .i64 cl 1024 != 0) = p := ⟨_, rfl⟩
    have hp3' : (bits .and .i64 cl 1024 == 0) = !p3 := by rw [← hp3]; simp [bne]
    have HK := hide (K0.out p1 p2 p3 hp1 hp2 hp3)
    clear K0 K1 K2 K3 HM1 HM2 HA1 HA2
    cases p1
    · exact absurd HK.out (by simp)
    cases p2 <;> cases p3
    · exact absurd HK.out (by simp)
    · simp only [Bool.not_true] at hp3'
      go_wp2_with fail
      go_meet
      case rel => exact ⟨rfl, rfl⟩
    · exact absurd HK.out (by simp)
    · exact absurd HK.out (by simp)
  case rest =>
    obtain ⟨rfl, rfl⟩ := hcut
    go_upto_if 80 with fail
    go_cut [12] (fun s12 wx => s12 = .bool false ∧ w1 = wx)
    case first =>
      have HK := hide K1.out
      obtain ⟨q1, hq1⟩ : ∃ p, (fd == 25) = p := ⟨_, rfl⟩
      rw [hq1] at HK
      clear K0 K1 K2 K3 HM1 HM2 HA2 HA1
      cases q1
      · go_wp2_with fail
        go_meet
        case rel => exact ⟨rfl, rfl⟩
      · exact absurd HK.out (by simp)
    case rest =>
      obtain ⟨rfl, rfl⟩ := hcut
      go_upto_region 12 with fail
      go_cut [12] (fun s12 wx => s12 = .bool k2 ∧ w1 = wx)
      case first =>
        have HK := hide K2.out
        obtain ⟨p6, hp6⟩ : ∃ p, (bits .andNot .i64 md 1055 == 0) = p := ⟨_, rfl⟩
        obtain ⟨p8, hp8⟩ : ∃ p, (bits .and .i64 md 26 != 0) = p := ⟨_, rfl⟩
        rw [hp6, hp8] at HK
        clear K0 K1 K2 K3 HM1 HM2 HA1
        have hk := HK.out
        subst hk
        go_wp2_with fail
        go_meet
        case rel => exact ⟨rfl, rfl⟩
      case rest =>
        obtain ⟨rfl, rfl⟩ := hcut
        have hk2 : k2 = false := by rw [← K2.out]; rfl
        subst hk2
        go_upto_if 115 with fail
        go_cut [12] (fun s12 wx => s12 = .bool k3 ∧ w1 = wx)
        case first =>
          have HK := hide K3.out
          obtain ⟨p9, hp9⟩ : ∃ p, (bits .and .i64 md 20 == 0) = p := ⟨_, rfl⟩
          have hp9' : (!has md 20) = p9 := by rw [← hp9]; unfold has; simp [bne]
          obtain ⟨p10, hp10⟩ : ∃ p, (bits .and .i64 md 3 != 0) = p := ⟨_, rfl⟩
          have hp10' : has md 3 = p10 := hp10
          obtain ⟨p11, hp11⟩ : ∃ p, (mj == 52) = p := ⟨_, rfl⟩
          obtain ⟨p12, hp12⟩ : ∃ p, (md == 1025) = p := ⟨_, rfl⟩
          rw [hp9', hp10', hp11, hp12] at HK
          clear K0 K1 K2 K3 HM1 HM2 HA1 HA2 hp9' hp10'
          have hk := HK.out
          subst hk
          go_wp2_with fail
          go_meet
          case rel => exact ⟨rfl, rfl⟩
        case rest =>
          obtain ⟨rfl, rfl⟩ := hcut
          clear K0 K1 K2 K3 HA1 HA2 hi hab
          go_wp2_with fail
          refine (HM1.out _ (HW.out.below HB1.out)).mono ?_
          rintro e w3 ⟨g, n, c, rfl, hrd, hb3⟩
          have HB3 := hide (HB1.out.trans (hb3.mono HB1.out.size))
          have HR := hide hrd
          clear hrd hb3 HB1 HM1
          go_wp2_with fail
          refine HR.out.mono ?_
          rintro e w4 hT
          obtain ⟨⟨p, rfl⟩, hb4⟩ := told_err hT
          have HB4 := hide (HB3.out.trans (hb4.mono HB3.out.size))
          clear hT hb4 HR HB3
          go_wp2_with fail
          refine (HM2.out _ (HW.out.below HB4.out)).mono ?_
          rintro e w5 ⟨g, n, c, rfl, hrd, hb5⟩
          have HB5 := hide (HB4.out.trans (hb5.mono HB4.out.size))
          have HR := hide hrd
          clear hrd hb5 HB4 HM2
          go_wp2_with fail
          refine HR.out.mono ?_
          rintro e w6 hT
          obtain ⟨⟨p, rfl⟩, hb6⟩ := told_err hT
          have HB6 := hide (HB5.out.trans (hb6.mono HB5.out.size))
          clear hT hb6 HR HB5
          have h1 : errV false = 1 := rfl
          have h2 : errV true = 0 := rfl
          cases k3
          · rw [h1]
            go_wp2_with fail
            go_ret
            exact ⟨rfl, HB6.out⟩
          · rw [h1, h2]
            go_wp2_with fail
            go_ret
            exact ⟨rfl, HB6.out⟩
set_option maxHeartbeats 8000000 in
set_option maxRecDepth 100000 in
theorem flags_in_true_true_true (mj cl fd md : Int) (w : World) (hw : Maxed w) (r0 : ¬ (mj < 50)) (r1 : ¬ (52 < mj)) (r2 : ¬ (cl < 0)) (r3 : ¬ (65535 < cl)) (r4 : ¬ (fd < 0)) (r5 : ¬ (65535 < fd)) (r6 : ¬ (md < 0)) (r7 : ¬ (65535 < md)) (hi : has cl 512 = true) (hk0 : k0B cl = true) (hk1 : k1B cl fd = true) : Calls Tryz.prog 4 #[.int .i64 mj, .int .i64 cl, .int .i64 fd, .int .i64 md] w fun e w' => e = .returned (.bool true) ∧ Below w.heap.size w w' := by
  have HG := hide (clbegun_is w hw)
  have HW := hide hw
  clear hw
  have HA1 := hide (clAccess_is fd (by omega) (by omega))
  have HA2 := hide (clAccess_is md (by omega) (by omega))
  obtain ⟨ab, hab⟩ : ∃ p, (bits .and .i64 md 1024 != 0) = p := ⟨_, rfl⟩
  obtain ⟨k2, hk2⟩ : ∃ k, k2B cl fd md = k := ⟨_, rfl⟩
  obtain ⟨k3, hk3⟩ : ∃ k, k3B mj cl fd md = k := ⟨_, rfl⟩
  have HM1 := hide (fun W (hW : Maxed W) => made_m mj cl fd md (by omega) (by omega) (by omega) (by omega) (by omega) (by omega) (by omega) (by omega) (!ab) W hW)
  have HM2 := hide (fun W (hW : Maxed W) => made_m mj cl fd md (by omega) (by omega) (by omega) (by omega) (by omega) (by omega) (by omega) (by omega) ab W hW)
  rw [ok_yes cl fd md _ ab hab, ← k3_is mj cl fd md (by omega) (by omega), hk3] at HM1
  rw [ok_not cl fd md _ ab hab] at HM2
  have K0 : Hid (∀ p1 p2 p3 : Bool, (bits .andNot .i64 cl 1585 == 0) = p1 → (bits .and .i64 cl 16 != 0) = p2 → (bits .and .i64 cl 1024 != 0) = p3 → (p1 && !(p2 && p3) && !(true && !p3)) = true) := hide fun p1 p2 p3 h1 h2 h3 => by
    have hk := hk0
    unfold k0B at hk
    rw [hi, show inB cl 1585 = p1 from h1, show has cl 16 = p2 from h2, show has cl 1024 = p3 from h3] at hk
    exact hk
  have K1 : Hid ((if (true : Bool) = true then true && (fd == 25) else true && (bits .andNot .i64 fd 31 == 0) && accB fd) = true) := hide (by
    have hk := hk1
    unfold k1B at hk
    rw [hi, hk0] at hk
    exact hk)
  have K2 : Hid ((true && (bits .andNot .i64 md 1055 == 0) && accB md && !(ab && (bits .and .i64 md 26 != 0))) = k2) := hide (by
    have hk := hk2
    unfold k2B at hk
    rw [hk1, show has md 1024 = ab from hab] at hk
    exact hk)
  have K3 : Hid ((if (true : Bool) = true then k2 && !has md 20 && has md 3 && (mj == 52 || md == 1025) else k2) = k3) := hide (by
    have hk := hk3
    unfold k3B at hk
    rw [hi, hk2] at hk
    exact hk)
  clear hk0 hk1 hk2 hk3
  unfold has at hi
  generalize accB fd = p5 at *
  generalize accB md = p7 at *
  go_enter Tryz.func4, Tryz.ntmps4
  go_wp2_with fail
  refine HG.out.mono ?_
  rintro e w1 ⟨rfl, hb1⟩
  have HB1 := hide hb1
  clear hb1 HG
  go_upto_region 8 with fail
  go_cut [12] (fun s12 wx => s12 = .bool true ∧ w1 = wx)
  case first =>
    obtain ⟨p1, hp1⟩ : ∃ p, (bits .andNot .i64 cl 1585 == 0) = p := ⟨_, rfl⟩
    obtain ⟨p2, hp2⟩ : ∃ p, (bits .and .i64 cl 16 != 0) = p := ⟨_, rfl⟩
    obtain ⟨p3, hp3⟩ : ∃ p, (bits .and .i64 cl 1024 != 0) = p := ⟨_, rfl⟩
    have hp3' : (bits .and .i64 cl 1024 == 0) = !p3 := by rw [← hp3]; simp [bne]
    have HK := hide (K0.out p1 p2 p3 hp1 hp2 hp3)
    clear K0 K1 K2 K3 HM1 HM2 HA1 HA2
    cases p1
    · exact absurd HK.out (by simp)
    cases p2 <;> cases p3
    · exact absurd HK.out (by simp)
    · simp only [Bool.not_true] at hp3'
      go_wp2_with fail
      go_meet
      case rel => exact ⟨rfl, rfl⟩
    · exact absurd HK.out (by simp)
    · exact absurd HK.out (by simp)
  case rest =>
    obtain ⟨rfl, rfl⟩ := hcut
    go_upto_if 80 with fail
    go_cut [12] (fun s12 wx => s12 = .bool true ∧ w1 = wx)
    case first =>
      have HK := hide K1.out
      obtain ⟨q1, hq1⟩ : ∃ p, (fd == 25) = p := ⟨_, rfl⟩
      rw [hq1] at HK
      clear K0 K1 K2 K3 HM1 HM2 HA2 HA1
      cases q1
      · exact absurd HK.out (by simp)
      · go_wp2_with fail
        go_meet
        case rel => exact ⟨rfl, rfl⟩
    case rest =>
      obtain ⟨rfl, rfl⟩ := hcut
      go_upto_region 12 with fail
      go_cut [12] (fun s12 wx => s12 = .bool k2 ∧ w1 = wx)
      case first =>
        have HK := hide K2.out
        obtain ⟨p6, hp6⟩ : ∃ p, (bits .andNot .i64 md 1055 == 0) = p := ⟨_, rfl⟩
        obtain ⟨p8, hp8⟩ : ∃ p, (bits .and .i64 md 26 != 0) = p := ⟨_, rfl⟩
        rw [hp6, hp8] at HK
        clear K0 K1 K2 K3 HM1 HM2 HA1
        cases p6
        · have hk := HK.out
          subst hk
          go_wp2_with fail
          go_meet
          case rel => exact ⟨rfl, rfl⟩
        cases p7
        · have hk := HK.out
          subst hk
          go_wp2_with fail
          refine (HA2.out _).mono ?_
          rintro e w2 ⟨rfl, rfl⟩
          go_wp2_with fail
          go_meet
          case rel => exact ⟨rfl, rfl⟩
        cases ab
        · have hk := HK.out
          subst hk
          go_wp2_with fail
          refine (HA2.out _).mono ?_
          rintro e w2 ⟨rfl, rfl⟩
          go_wp2_with fail
          go_meet
          case rel => exact ⟨rfl, rfl⟩
        have hk := HK.out
        subst hk
        go_wp2_with fail
        refine (HA2.out _).mono ?_
        rintro e w2 ⟨rfl, rfl⟩
        go_wp2_with fail
        go_meet
        case rel => exact ⟨by cases p8 <;> rfl, rfl⟩
      case rest =>
        obtain ⟨rfl, rfl⟩ := hcut
        go_upto_if 115 with fail
        go_cut [12] (fun s12 wx => s12 = .bool k3 ∧ w1 = wx)
        case first =>
          have HK := hide K3.out
          obtain ⟨p9, hp9⟩ : ∃ p, (bits .and .i64 md 20 == 0) = p := ⟨_, rfl⟩
          have hp9' : (!has md 20) = p9 := by rw [← hp9]; unfold has; simp [bne]
          obtain ⟨p10, hp10⟩ : ∃ p, (bits .and .i64 md 3 != 0) = p := ⟨_, rfl⟩
          have hp10' : has md 3 = p10 := hp10
          obtain ⟨p11, hp11⟩ : ∃ p, (mj == 52) = p := ⟨_, rfl⟩
          obtain ⟨p12, hp12⟩ : ∃ p, (md == 1025) = p := ⟨_, rfl⟩
          rw [hp9', hp10', hp11, hp12] at HK
          clear K0 K1 K2 K3 HM1 HM2 HA1 HA2 hp9' hp10'
          cases k2
          · have hk := HK.out
            subst hk
            go_wp2_with fail
            go_meet
            case rel => exact ⟨rfl, rfl⟩
          cases p9
          · have hk := HK.out
            subst hk
            go_wp2_with fail
            go_meet
            case rel => exact ⟨rfl, rfl⟩
          cases p10
          · have hk := HK.out
            subst hk
            go_wp2_with fail
            go_meet
            case rel => exact ⟨rfl, rfl⟩
          cases p11
          · have hk := HK.out
            subst hk
            go_wp2_with fail
            go_meet
            case rel => exact ⟨by cases p12 <;> rfl, rfl⟩
          have hk := HK.out
          subst hk
          go_wp2_with fail
          go_meet
          case rel => exact ⟨rfl, rfl⟩
        case rest =>
          obtain ⟨rfl, rfl⟩ := hcut
          clear K0 K1 K2 K3 HA1 HA2 hi hab
          go_wp2_with fail
          refine (HM1.out _ (HW.out.below HB1.out)).mono ?_
          rintro e w3 ⟨g, n, c, rfl, hrd, hb3⟩
          have HB3 := hide (HB1.out.trans (hb3.mono HB1.out.size))
          have HR := hide hrd
          clear hrd hb3 HB1 HM1
          go_wp2_with fail
          refine HR.out.mono ?_
          rintro e w4 hT
          obtain ⟨⟨p, rfl⟩, hb4⟩ := told_err hT
          have HB4 := hide (HB3.out.trans (hb4.mono HB3.out.size))
          clear hT hb4 HR HB3
          go_wp2_with fail
          refine (HM2.out _ (HW.out.below HB4.out)).mono ?_
          rintro e w5 ⟨g, n, c, rfl, hrd, hb5⟩
          have HB5 := hide (HB4.out.trans (hb5.mono HB4.out.size))
          have HR := hide hrd
          clear hrd hb5 HB4 HM2
          go_wp2_with fail
          refine HR.out.mono ?_
          rintro e w6 hT
          obtain ⟨⟨p, rfl⟩, hb6⟩ := told_err hT
          have HB6 := hide (HB5.out.trans (hb6.mono HB5.out.size))
          clear hT hb6 HR HB5
          have h1 : errV false = 1 := rfl
          have h2 : errV true = 0 := rfl
          cases k3
          · rw [h1]
            go_wp2_with fail
            go_ret
            exact ⟨rfl, HB6.out⟩
          · rw [h1, h2]
            go_wp2_with fail
            go_ret
            exact ⟨rfl, HB6.out⟩
theorem ClassFlags_walk (mj cl fd md : Int) (_ : (Lit.int .i64 mj).wf = true) (_ : (Lit.int .i64 cl).wf = true) (_ : (Lit.int .i64 fd).wf = true) (_ : (Lit.int .i64 md).wf = true) (w : World) (hw : Maxed w) :
    Calls Tryz.prog 4 #[.int .i64 mj, .int .i64 cl, .int .i64 fd, .int .i64 md] w fun e w' => e = .returned (.bool true) ∧ Below w.heap.size w w' := by
  by_cases r0 : mj < 50
  · exact flags_out0 mj cl fd md w hw r0
  by_cases r1 : 52 < mj
  · exact flags_out1 mj cl fd md w hw r0 r1
  by_cases r2 : cl < 0
  · exact flags_out2 mj cl fd md w hw r0 r1 r2
  by_cases r3 : 65535 < cl
  · exact flags_out3 mj cl fd md w hw r0 r1 r2 r3
  by_cases r4 : fd < 0
  · exact flags_out4 mj cl fd md w hw r0 r1 r2 r3 r4
  by_cases r5 : 65535 < fd
  · exact flags_out5 mj cl fd md w hw r0 r1 r2 r3 r4 r5
  by_cases r6 : md < 0
  · exact flags_out6 mj cl fd md w hw r0 r1 r2 r3 r4 r5 r6
  by_cases r7 : 65535 < md
  · exact flags_out7 mj cl fd md w hw r0 r1 r2 r3 r4 r5 r6 r7
  cases hi : has cl 512 <;> cases hk0 : k0B cl
  · exact flags_in_false_false_x mj cl fd md w hw r0 r1 r2 r3 r4 r5 r6 r7 hi hk0
  · cases hk1 : k1B cl fd
    · exact flags_in_false_true_false mj cl fd md w hw r0 r1 r2 r3 r4 r5 r6 r7 hi hk0 hk1
    · exact flags_in_false_true_true mj cl fd md w hw r0 r1 r2 r3 r4 r5 r6 r7 hi hk0 hk1
  · exact flags_in_true_false_x mj cl fd md w hw r0 r1 r2 r3 r4 r5 r6 r7 hi hk0
  · cases hk1 : k1B cl fd
    · exact flags_in_true_true_false mj cl fd md w hw r0 r1 r2 r3 r4 r5 r6 r7 hi hk0 hk1
    · exact flags_in_true_true_true mj cl fd md w hw r0 r1 r2 r3 r4 r5 r6 r7 hi hk0 hk1
end Go.Proofs.YtbdbcalmjbmflaaGreatDoor
