/- Texts of one stage, merged. Nothing is claimed here. -/
import Derived.Test.YtbdbcalmjbmflaaGreatDoorPackQ
import Derived.Test.YtbdbcalmjbmflaaGreatDoorPackP
import Derived.Lib.AppendStr
import Derived.Deep.Cut
import Derived.Test.YtbdbcalmjbmflaaGreatDoorPackR
namespace Go.Proofs.YtbdbcalmjbmflaaGreatDoor
open Go.RowKit

def objL : List Int := [106, 97, 118, 97, 47, 108, 97, 110, 103, 47, 79, 98, 106, 101, 99, 116]
/-- The pool's bytes, with a method's name and descriptor. -/
def poolB (nm ds : List Int) : List Int :=
  [0, 11, 1, 0, 1, 97, 7, 0, 1, 1, 0, 16, 106, 97, 118, 97, 47, 108, 97, 110, 103, 47, 79, 98, 106, 101, 99, 116, 7, 0, 3, 1, 0, 1, 120, 1, 0, 1, 73, 1, 0, (nm.length : Int)] ++ nm ++ [1, 0, (ds.length : Int)] ++ ds ++ [1, 0, 4, 67, 111, 100, 101, 3, 0, 0, 0, 9]
def psB (nm ds : List Int) : List Cst :=
  [noC, ⟨1, [97], 0, 0, 0⟩, ⟨7, [], 0, 1, 0⟩, ⟨1, objL, 0, 0, 0⟩, ⟨7, [], 0, 3, 0⟩, ⟨1, [120], 0, 0, 0⟩, ⟨1, [73], 0, 0, 0⟩, ⟨1, nm, 0, 0, 0⟩, ⟨1, ds, 0, 0, 0⟩, ⟨1, [67, 111, 100, 101], 0, 0, 0⟩, ⟨3, [], 9, 0, 0⟩]
/-- What stands behind the pool. -/
def tailB (c1 c0 f1 f0 m1 m0 : Int) (code : Bool) : List Int :=
  [c1, c0, 0, 2, 0, 4, 0, 0, 0, 1, f1, f0, 0, 5, 0, 6, 0, 0, 0, 1, m1, m0, 0, 7, 0, 8] ++ (if code = true then [0, 1, 0, 9, 0, 0, 0, 13, 0, 1, 0, 1, 0, 0, 0, 1, 177, 0, 0, 0, 0] else [0, 0]) ++ [0, 0]
def nM : List Int := [109]
def dV : List Int := [40, 41, 86]
def dI : List Int := [40, 41, 73]
theorem pool_m_dV_true (c1 c0 f1 f0 m1 m0 : Int) : pool (poolB nM dV ++ tailB c1 c0 f1 f0 m1 m0 true) = some (psB nM dV, (poolB nM dV).length) := by kernel_rfl
theorem pool_m_dV_false (c1 c0 f1 f0 m1 m0 : Int) : pool (poolB nM dV ++ tailB c1 c0 f1 f0 m1 m0 false) = some (psB nM dV, (poolB nM dV).length) := by kernel_rfl
theorem pool_init_dV_true (c1 c0 f1 f0 m1 m0 : Int) : pool (poolB nInit dV ++ tailB c1 c0 f1 f0 m1 m0 true) = some (psB nInit dV, (poolB nInit dV).length) := by kernel_rfl
theorem pool_init_dV_false (c1 c0 f1 f0 m1 m0 : Int) : pool (poolB nInit dV ++ tailB c1 c0 f1 f0 m1 m0 false) = some (psB nInit dV, (poolB nInit dV).length) := by kernel_rfl
theorem pool_init_dI_true (c1 c0 f1 f0 m1 m0 : Int) : pool (poolB nInit dI ++ tailB c1 c0 f1 f0 m1 m0 true) = some (psB nInit dI, (poolB nInit dI).length) := by kernel_rfl
theorem pool_init_dI_false (c1 c0 f1 f0 m1 m0 : Int) : pool (poolB nInit dI ++ tailB c1 c0 f1 f0 m1 m0 false) = some (psB nInit dI, (poolB nInit dI).length) := by kernel_rfl
theorem pool_clinit_dV_true (c1 c0 f1 f0 m1 m0 : Int) : pool (poolB nClinit dV ++ tailB c1 c0 f1 f0 m1 m0 true) = some (psB nClinit dV, (poolB nClinit dV).length) := by kernel_rfl
theorem pool_clinit_dV_false (c1 c0 f1 f0 m1 m0 : Int) : pool (poolB nClinit dV ++ tailB c1 c0 f1 f0 m1 m0 false) = some (psB nClinit dV, (poolB nClinit dV).length) := by kernel_rfl
theorem pool_clinit_dI_true (c1 c0 f1 f0 m1 m0 : Int) : pool (poolB nClinit dI ++ tailB c1 c0 f1 f0 m1 m0 true) = some (psB nClinit dI, (poolB nClinit dI).length) := by kernel_rfl
theorem pool_clinit_dI_false (c1 c0 f1 f0 m1 m0 : Int) : pool (poolB nClinit dI ++ tailB c1 c0 f1 f0 m1 m0 false) = some (psB nClinit dI, (poolB nClinit dI).length) := by kernel_rfl
end Go.Proofs.YtbdbcalmjbmflaaGreatDoor
namespace Go.Proofs.YtbdbcalmjbmflaaGreatDoor
open Go.RowKit

theorem numAt_app (P T : List Int) (i n : Nat) : numAt (P ++ T) (P.length + i) n = numAt T i n := by
  unfold numAt
  rw [List.drop_append, List.drop_of_length_le (by omega), List.nil_append, Nat.add_sub_cancel_left]
theorem two_bytes (x : Int) : numAt [x / 256, x % 256] 0 2 = x := by
  show (0 * 256 + x / 256) * 256 + x % 256 = x
  omega
theorem tail_len (c1 c0 f1 f0 m1 m0 : Int) (code : Bool) : (tailB c1 c0 f1 f0 m1 m0 code).length = if code = true then 49 else 30 := by cases code <;> rfl
/-- What one class file is told as: with these flags, this name and this descriptor, with a body or without. -/
def fileB (mj cl fd md : Int) (nm ds : List Int) (code : Bool) : List Int := [202, 254, 186, 190, 0, 0, 0, mj] ++ (poolB nm ds ++ tailB (cl / 256) (cl % 256) (fd / 256) (fd % 256) (md / 256) (md % 256) code)
theorem body_says : Body1Says := fun _ _ _ _ _ _ _ _ _ _ h hk h0 ht h4 hb f a ha => body_1 h hk h0 ht h4 hb f a ha

/-- The rules of a file's flags. -/
def okB (cl fd md : Int) (aR code : Bool) : Bool := classFlagsB cl && (fieldFlagsB fd (has cl 512) && (aR && (if code = true then !has md 1024 else has md 1024)))

set_option maxHeartbeats 4000000 in
set_option maxRecDepth 100000 in
theorem read_file (g o n c : Nat) (mj cl fd md : Int) (nm ds : List Int) (sn sd : ByteArray) (code aR : Bool) (w : World) (hw : Maxed w) (hr : Rd w w.heap.size (some ⟨g, o, none⟩) n (bys (fileB mj cl fd md nm ds code))) (hc : n ≤ c)
    (hx : IsBytes (fileB mj cl fd md nm ds code)) (hz : n ≤ 65536) (v1 : 50 ≤ mj) (v2 : mj ≤ 52) (f0 : 0 ≤ fd) (f1 : fd < 65536)
    (hp : ∀ c1 c0 f1 f0 m1 m0, pool (poolB nm ds ++ tailB c1 c0 f1 f0 m1 m0 code) = some (psB nm ds, (poolB nm ds).length)) (en : strOfNums nm = sn) (ed : strOfNums ds = sd) (pn : methodB (nums sn) = true) (ln : sn.size ≤ 1000000) (ld : sd.size ≤ 1000000) (ad : argsW (nums sd) = 0)
    (HA : ∀ (E : CEnv) (k : Nat) nm' sp' I F M W, CW E k (clsV E mj cl nm' sp' I F M) W → Calls Tryz.prog 63 #[(.agg #[.pointer (some ⟨E.g, 0, none⟩), .pointer (some ⟨E.q, 0, none⟩)]), .int .i64 md, .string sn, .string sd] W fun e w' => e = .returned (.bool aR) ∧ CW E k (clsV E mj cl nm' sp' I F M) w' ∧ Grew E W w') :
    Calls Tryz.prog 11 #[.slice (some ⟨g, o, none⟩) n c] w (FileTold mj cl ⟨#[97]⟩ sObj (fun _ => True) (okB cl fd md aR code) w) := by
  have hl : (fileB mj cl fd md nm ds code).length = n := by have := hr.1; rwa [bys_len] at this
  obtain ⟨T, hT⟩ : ∃ T, tailB (cl / 256) (cl % 256) (fd / 256) (fd % 256) (md / 256) (md % 256) code = T := ⟨_, rfl⟩
  have hd8 : (fileB mj cl fd md nm ds code).drop 8 = poolB nm ds ++ T := by rw [← hT]; rfl
  have htl : T.length = if code = true then 49 else 30 := by rw [← hT]; exact tail_len _ _ _ _ _ _ _
  have hn : ∀ i m v, numAt T i m = v → numAt (poolB nm ds ++ T) ((poolB nm ds).length + i) m = v := fun i m v h => by rw [numAt_app]; exact h
  have hlen : (poolB nm ds ++ T).length = (poolB nm ds).length + T.length := List.length_append
  have hp' : pool (poolB nm ds ++ T) = some (psB nm ds, (poolB nm ds).length) := by rw [← hT]; exact hp _ _ _ _ _ _
  have q0 : numAt T 0 2 = cl := by rw [← hT]; exact two_bytes cl
  have q10 : numAt T 10 2 = fd := by rw [← hT]; exact two_bytes fd
  have q20 : numAt T 20 2 = md := by rw [← hT]; exact two_bytes md
  have q2 : numAt T 2 2 = 2 := by rw [← hT]; rfl
  have q4 : numAt T 4 2 = 4 := by rw [← hT]; rfl
  have q6 : numAt T 6 2 = 0 := by rw [← hT]; rfl
  have q8 : numAt T 8 2 = 1 := by rw [← hT]; rfl
  have q12 : numAt T 12 2 = 5 := by rw [← hT]; rfl
  have q14 : numAt T 14 2 = 6 := by rw [← hT]; rfl
  have q16 : numAt T 16 2 = 0 := by rw [← hT]; rfl
  have q18 : numAt T 18 2 = 1 := by rw [← hT]; rfl
  have q22 : numAt T 22 2 = 7 := by rw [← hT]; rfl
  have q24 : numAt T 24 2 = 8 := by rw [← hT]; rfl
  have q26 : numAt T 26 2 = if code = true then 1 else 0 := by rw [← hT]; cases code <;> rfl
  have qE : numAt T (if code = true then 47 else 28) 2 = 0 := by rw [← hT]; cases code <;> rfl
  have q28 : code = true → numAt T 28 2 = 9 := by rintro rfl; rw [← hT]; rfl
  have q30 : code = true → numAt T 30 4 = 13 := by rintro rfl; rw [← hT]; rfl
  have q34 : code = true → (T.drop 34).take 13 = B13 := by rintro rfl; rw [← hT]; rfl
  generalize hpl : (poolB nm ds).length = m at *
  have hdr : ∀ i j, ((poolB nm ds ++ T).drop (m + i)).take j = (T.drop i).take j := fun i j => by
    rw [← hpl, List.drop_append, List.drop_of_length_le (by omega), List.nil_append, Nat.add_sub_cancel_left]
  refine cfRead_good g o n c _ w hr hx (by rw [← hl]; simp [fileB]; rw [← hT] at htl; rw [htl]; split <;> omega) hc hz rfl mj cl rfl (by
    show (0 * 256 + 0) * 256 + mj = mj
    omega) v1 v2 ⟨#[97]⟩ sObj _ _ ?_
  rw [hd8]
  refine hide fun W g2 gb2 q hb hcu hq hg hq0 => ?_
  have hkE : (poolB nm ds ++ T).length = (m + (if code = true then 47 else 28)) + 2 := by rw [hlen, htl]; cases code <;> simp
  rw [hkE]
  have t1 : classAt (psB nm ds) 2 = some [97] := by rfl
  have t2 : classAt (psB nm ds) 4 = some objL := by rfl
  refine parts_1 w g2 gb2 q (poolB nm ds ++ T) (psB nm ds) m mj W hb hw hcu hq hg hq0 hp' (by simp [psB]) (by rw [hlen, htl]; split <;> omega) cl (by rw [← Nat.add_zero m]; exact hn 0 2 _ q0) [97] objL (by rw [hn 2 2 _ q2]; exact t1) (by rw [hn 4 2 _ q4]; exact t2)
    (show ∀ x ∈ ([97] : List Int), 0 ≤ x ∧ x < 256 by decide) (show ∀ x ∈ (objL : List Int), 0 ≤ x ∧ x < 256 by decide) (by decide +kernel) (by decide +kernel) ⟨#[97]⟩ sObj rfl rfl (fun _ => rfl) (hn 6 2 _ q6) (fieldFlagsB fd (has cl 512)) (aR && (if code = true then !has md 1024 else has md 1024)) (m + (if code = true then 47 else 28)) (by split <;> omega) (by rw [hlen, htl]; split <;> omega)
    (hn 8 2 _ q8) (hn 18 2 _ q18) (hn _ 2 _ qE) ?_ ?_
  · refine hide fun E h1 h2 nm' sp' I F M W' hW' => ?_
    refine (field9_any hW' (by rw [h1, hlen, htl]; split <;> omega) fd (by rw [h1]; exact hn 10 2 _ q10) f0 f1 [120] [73] (by rw [h1, h2, show m + 10 + 2 = m + 12 by omega, hn 12 2 _ q12]; rfl) (by rw [h1, h2, show m + 10 + 4 = m + 14 by omega, hn 14 2 _ q14]; rfl)
      (show ∀ x ∈ ([120] : List Int), 0 ≤ x ∧ x < 256 by decide) (show ∀ x ∈ ([73] : List Int), 0 ≤ x ∧ x < 256 by decide) (by decide) (by decide) (by decide +kernel) ⟨73, [], 0, 0⟩ (by decide +kernel) (by rw [h1, show m + 10 + 6 = m + 16 by omega]; exact hn 16 2 _ q16)).mono ?_
    rintro e w2 ⟨c0, c3, c1, c2, k', rfl, hk', hcw, hgr⟩
    exact ⟨⟨c0, c3, c1, c2, rfl⟩, ⟨k', (fun h => (hk' h).trans (by omega)), hcw⟩, hgr⟩
  · refine hide fun E h1 h2 nm' sp' I F M W' hW' => ?_
    refine method9_any hW' (by rw [h1, hlen, htl]; split <;> omega) md (by rw [h1]; exact hn 20 2 _ q20) nm ds (by rw [h1, h2, show m + 20 + 2 = m + 22 by omega, hn 22 2 _ q22]; rfl) (by rw [h1, h2, show m + 20 + 4 = m + 24 by omega, hn 24 2 _ q24]; rfl)
      sn sd en ed pn ln ld ad aR _ (m + (if code = true then 47 else 28)) (hide fun W2 hW2 => HA E _ _ _ _ _ _ W2 hW2) ?_
    refine hide fun a W2 ha hW2 => ?_
    cases code
    · refine (body_0 hW2 (by rw [h1, hlen, htl]; simp <;> omega) (by rw [h1, show m + 20 + 6 = m + 26 by omega, hn 26 2 _ q26]; rfl) md a).mono ?_
      rintro e w2 ⟨rfl, hcw, hgr⟩
      exact ⟨0, 0, none, 0, false, rfl, hcw, hgr⟩
    · refine (body_1 hW2 (by rw [h1, hlen, htl]; simp <;> omega) (by rw [h1, show m + 20 + 6 = m + 26 by omega, hn 26 2 _ q26]; rfl) (by rw [h1, h2, show m + 20 + 6 + 2 = m + 28 by omega, hn 28 2 _ (q28 rfl)]; rfl) (by rw [h1, show m + 20 + 6 + 4 = m + 30 by omega, hn 30 4 _ (q30 rfl)]) (by rw [h1, show m + 20 + 6 + 8 = m + 34 by omega, hdr]; exact q34 rfl) md a ha).mono ?_
      rintro e w2 ⟨c0, c1, A, n2, rfl, hcw, hgr⟩
      exact ⟨c0, c1, A, n2, _, rfl, hcw, hgr⟩
end Go.Proofs.YtbdbcalmjbmflaaGreatDoor
namespace Go.Proofs.YtbdbcalmjbmflaaGreatDoor
open Go.RowKit

theorem strCells_bys (s : ByteArray) : Lib.strCells s = bys (nums s) := by simp [Lib.strCells, bys, nums, List.map_map, Function.comp_def]
theorem lit_row {w : World} {l : List Value} {n : Nat} (hn : l.length = n) (hm : n ≤ maxLen) : (w.alloc (.cells l.toArray 5)).ownsRow w.heap.size 5 1 (.slice (some ⟨w.heap.size, 0, none⟩) n n) n l :=
  ⟨by rw [hn, Nat.mul_one], .inr ⟨w.heap.size, n, l.toArray, rfl, Nat.le_refl _, heap_alloc_new w _, Nat.le_refl _, hm, by simp [hn], by rw [Nat.mul_one, List.take_of_length_le (by simp [hn])]⟩⟩
theorem nums_obj : nums ⟨#[106, 97, 118, 97, 47, 108, 97, 110, 103, 47, 79, 98, 106, 101, 99, 116]⟩ = [106, 97, 118, 97, 47, 108, 97, 110, 103, 47, 79, 98, 106, 101, 99, 116] := by rfl
theorem wrap8 (x : Int) : IntKind.u8.wrap x = x % 256 := by simp [IntKind.wrap, IntKind.bits, IntKind.signed]
set_option maxHeartbeats 4000000 in
set_option maxRecDepth 100000 in
theorem file_true (mj cl fd md : Int) (sn sd : ByteArray) (m0 : 0 ≤ mj) (m1 : mj < 256) (c0 : 0 ≤ cl) (c1 : cl < 65536) (f0 : 0 ≤ fd) (f1 : fd < 65536) (d0 : 0 ≤ md) (d1 : md < 65536) (ln : sn.size ≤ 100) (ld : sd.size ≤ 100) (w : World) :
    Calls Tryz.prog 12 #[.int .i64 mj, .int .i64 cl, .int .i64 fd, .int .i64 md, .string sn, .string sd, .bool true] w fun e w' => ∃ v n, e = .returned v ∧ n ≤ 400 ∧ w'.ownsRow w.heap.size 5 1 v n (bys (fileB mj cl fd md (nums sn) (nums sd) true)) ∧ Below w.heap.size w w' := by
  obtain ⟨i0, hi0, hz0, hz1, hz2⟩ := info_parts u8info
  have x1 : IntKind.u8.wrap mj = mj := by rw [wrap8]; omega
  have x2 : IntKind.u8.wrap cl = cl % 256 := wrap8 cl
  have x3 : IntKind.u8.wrap fd = fd % 256 := wrap8 fd
  have x4 : IntKind.u8.wrap md = md % 256 := wrap8 md
  have x5 : IntKind.u8.wrap (cl / 256) = cl / 256 := by rw [wrap8]; omega
  have x6 : IntKind.u8.wrap (fd / 256) = fd / 256 := by rw [wrap8]; omega
  have x7 : IntKind.u8.wrap (md / 256) = md / 256 := by rw [wrap8]; omega
  have x8 : IntKind.u8.wrap (sn.size : Int) = (sn.size : Int) := by rw [wrap8]; omega
  have x9 : IntKind.u8.wrap (sd.size : Int) = (sd.size : Int) := by rw [wrap8]; omega
  have HO0 : Hid ((w.alloc (.cells #[.int .u8 202, .int .u8 254, .int .u8 186, .int .u8 190, .int .u8 0, .int .u8 0, .int .u8 0, .int .u8 mj, .int .u8 0, .int .u8 11, .int .u8 1, .int .u8 0, .int .u8 1, .int .u8 97, .int .u8 7, .int .u8 0, .int .u8 1, .int .u8 1, .int .u8 0, .int .u8 16] 5)).ownsRow w.heap.size 5 1 (.slice (some ⟨w.heap.size, 0, none⟩) 20 20) 20 [.int .u8 202, .int .u8 254, .int .u8 186, .int .u8 190, .int .u8 0, .int .u8 0, .int .u8 0, .int .u8 mj, .int .u8 0, .int .u8 11, .int .u8 1, .int .u8 0, .int .u8 1, .int .u8 97, .int .u8 7, .int .u8 0, .int .u8 1, .int .u8 1, .int .u8 0, .int .u8 16]) := hide (lit_row (l := [.int .u8 202, .int .u8 254, .int .u8 186, .int .u8 190, .int .u8 0, .int .u8 0, .int .u8 0, .int .u8 mj, .int .u8 0, .int .u8 11, .int .u8 1, .int .u8 0, .int .u8 1, .int .u8 97, .int .u8 7, .int .u8 0, .int .u8 1, .int .u8 1, .int .u8 0, .int .u8 16]) rfl (by unfold maxLen; omega))
  have HG0 : Hid (Below w.heap.size w (w.alloc (.cells #[.int .u8 202, .int .u8 254, .int .u8 186, .int .u8 190, .int .u8 0, .int .u8 0, .int .u8 0, .int .u8 mj, .int .u8 0, .int .u8 11, .int .u8 1, .int .u8 0, .int .u8 1, .int .u8 97, .int .u8 7, .int .u8 0, .int .u8 1, .int .u8 1, .int .u8 0, .int .u8 16] 5))) := hide ((Below.refl _ _).alloc (Nat.le_refl _) _)
  have HS0 : Hid (w.heap.size ≤ (w.alloc (.cells #[.int .u8 202, .int .u8 254, .int .u8 186, .int .u8 190, .int .u8 0, .int .u8 0, .int .u8 0, .int .u8 mj, .int .u8 0, .int .u8 11, .int .u8 1, .int .u8 0, .int .u8 1, .int .u8 97, .int .u8 7, .int .u8 0, .int .u8 1, .int .u8 1, .int .u8 0, .int .u8 16] 5)).heap.size) := hide HG0.out.size
  clear m0 m1 c0 c1 f0 f1 d0 d1
  go_enter Tryz.func12, Tryz.ntmps12
  go_upto_region 2 with fail
  generalize w.alloc (.cells #[.int .u8 202, .int .u8 254, .int .u8 186, .int .u8 190, .int .u8 0, .int .u8 0, .int .u8 0, .int .u8 mj, .int .u8 0, .int .u8 11, .int .u8 1, .int .u8 0, .int .u8 1, .int .u8 97, .int .u8 7, .int .u8 0, .int .u8 1, .int .u8 1, .int .u8 0, .int .u8 16] 5) = w0 at *
  generalize hv0 : Value.slice (some ⟨w.heap.size, 0, none⟩) 20 20 = v0 at *
  clear hv0
  obtain ⟨X0, hX0⟩ : ∃ X0 : List Value, X0 = [.int .u8 202, .int .u8 254, .int .u8 186, .int .u8 190, .int .u8 0, .int .u8 0, .int .u8 0, .int .u8 mj, .int .u8 0, .int .u8 11, .int .u8 1, .int .u8 0, .int .u8 1, .int .u8 97, .int .u8 7, .int .u8 0, .int .u8 1, .int .u8 1, .int .u8 0, .int .u8 16] := ⟨_, rfl⟩
  rw [← hX0] at HO0
  have HX0 := hide hX0
  clear hX0
  go_upto_region 3 with (first
    | (at_builtin; go_loud (refine Lib.wpList_append_own_string w0 rfl (.tmp 19) (.const (.string ⟨#[106, 97, 118, 97, 47, 108, 97, 110, 103, 47, 79, 98, 106, 101, 99, 116]⟩)) 29 9 rfl w.heap.size 5 i0 Tryz.underlying29 Tryz.underlying9 hi0 hz0 hz1 hz2 v0 (20) X0 rfl HO0.out ⟨#[106, 97, 118, 97, 47, 108, 97, 110, 103, 47, 79, 98, 106, 101, 99, 116]⟩ rfl (by unfold maxLen; show _ + 16 ≤ _; omega) (by show _ + 16 ≤ _; omega) HS0.out ?_); intro v1 w1 ho1 hg1 _; obtain ⟨X1, hX1⟩ : ∃ X, X = X0 ++ Lib.strCells ⟨#[106, 97, 118, 97, 47, 108, 97, 110, 103, 47, 79, 98, 106, 101, 99, 116]⟩ := ⟨_, rfl⟩; have HX1 := hide hX1; have HO1 : Hid (w1.ownsRow w.heap.size 5 1 v1 (36) X1) := hide (by rw [hX1]; first | exact ho1 | (have hh := ho1; rw [show 36 = 20 + 16 by omega]; exact hh)); have HG1 : Hid (Below w.heap.size w w1) := hide (below_orow HG0.out HO0.out hg1 HS0.out (Nat.le_refl _)); have HS1 : Hid (w.heap.size ≤ w1.heap.size) := hide HG1.out.size; clear ho1 hg1 hX1))
  clear HO0 HS0 HG0
  go_upto_region 4 with (first
    | (at_builtin; go_loud (refine wpList_append_lits w1 rfl (.tmp 21) (.tmp 25) 29 rfl w.heap.size 5 i0 _ 1 Tryz.underlying29 hi0 hz0 hz1 hz2 rfl v1 (36) X1 rfl HO1.out [.int .u8 7, .int .u8 0, .int .u8 3, .int .u8 1, .int .u8 0, .int .u8 1, .int .u8 120, .int .u8 1, .int .u8 0, .int .u8 1, .int .u8 73, .int .u8 1, .int .u8 0, .int .u8 (sn.size : Int)] 14 rfl rfl rfl (by unfold maxLen; omega) (by omega) HS1.out ?_); intro v2 w2 ho2 hg2; obtain ⟨X2, hX2⟩ : ∃ X, X = X1 ++ [.int .u8 7, .int .u8 0, .int .u8 3, .int .u8 1, .int .u8 0, .int .u8 1, .int .u8 120, .int .u8 1, .int .u8 0, .int .u8 1, .int .u8 73, .int .u8 1, .int .u8 0, .int .u8 (sn.size : Int)] := ⟨_, rfl⟩; have HX2 := hide hX2; have HO2 : Hid (w2.ownsRow w.heap.size 5 1 v2 (50) X2) := hide (by rw [hX2]; first | exact ho2 | (have hh := ho2; rw [show 50 = 36 + 14 by omega]; exact hh)); have HG2 : Hid (Below w.heap.size w w2) := hide (below_orow HG1.out HO1.out hg2 HS1.out (Nat.le_refl _)); have HS2 : Hid (w.heap.size ≤ w2.heap.size) := hide HG2.out.size; clear ho2 hg2 hX2))
  clear HO1 HS1 HG1
  go_upto_region 5 with (first
    | (at_builtin; go_loud (refine Lib.wpList_append_own_string w2 rfl (.tmp 27) (.tmp 28) 29 9 rfl w.heap.size 5 i0 Tryz.underlying29 Tryz.underlying9 hi0 hz0 hz1 hz2 v2 (50) X2 rfl HO2.out sn rfl (by unfold maxLen; omega) (by omega) HS2.out ?_); intro v3 w3 ho3 hg3 _; obtain ⟨X3, hX3⟩ : ∃ X, X = X2 ++ Lib.strCells sn := ⟨_, rfl⟩; have HX3 := hide hX3; have HO3 : Hid (w3.ownsRow w.heap.size 5 1 v3 (50 + sn.size) X3) := hide (by rw [hX3]; first | exact ho3 | (have hh := ho3; rw [show 50 + sn.size = 50 + sn.size by omega]; exact hh)); have HG3 : Hid (Below w.heap.size w w3) := hide (below_orow HG2.out HO2.out hg3 HS2.out (Nat.le_refl _)); have HS3 : Hid (w.heap.size ≤ w3.heap.size) := hide HG3.out.size; clear ho3 hg3 hX3))
  clear HO2 HS2 HG2
  go_upto_region 6 with (first
    | (at_builtin; go_loud (refine wpList_append_lits w3 rfl (.tmp 30) (.tmp 34) 29 rfl w.heap.size 5 i0 _ 1 Tryz.underlying29 hi0 hz0 hz1 hz2 rfl v3 (50 + sn.size) X3 rfl HO3.out [.int .u8 1, .int .u8 0, .int .u8 (sd.size : Int)] 3 rfl rfl rfl (by unfold maxLen; omega) (by omega) HS3.out ?_); intro v4 w4 ho4 hg4; obtain ⟨X4, hX4⟩ : ∃ X, X = X3 ++ [.int .u8 1, .int .u8 0, .int .u8 (sd.size : Int)] := ⟨_, rfl⟩; have HX4 := hide hX4; have HO4 : Hid (w4.ownsRow w.heap.size 5 1 v4 (53 + sn.size) X4) := hide (by rw [hX4]; first | exact ho4 | (have hh := ho4; rw [show 53 + sn.size = 50 + sn.size + 3 by omega]; exact hh)); have HG4 : Hid (Below w.heap.size w w4) := hide (below_orow HG3.out HO3.out hg4 HS3.out (Nat.le_refl _)); have HS4 : Hid (w.heap.size ≤ w4.heap.size) := hide HG4.out.size; clear ho4 hg4 hX4))
  clear HO3 HS3 HG3
  go_upto_region 7 with (first
    | (at_builtin; go_loud (refine Lib.wpList_append_own_string w4 rfl (.tmp 36) (.tmp 37) 29 9 rfl w.heap.size 5 i0 Tryz.underlying29 Tryz.underlying9 hi0 hz0 hz1 hz2 v4 (53 + sn.size) X4 rfl HO4.out sd rfl (by unfold maxLen; omega) (by omega) HS4.out ?_); intro v5 w5 ho5 hg5 _; obtain ⟨X5, hX5⟩ : ∃ X, X = X4 ++ Lib.strCells sd := ⟨_, rfl⟩; have HX5 := hide hX5; have HO5 : Hid (w5.ownsRow w.heap.size 5 1 v5 (53 + sn.size + sd.size) X5) := hide (by rw [hX5]; first | exact ho5 | (have hh := ho5; rw [show 53 + sn.size + sd.size = 53 + sn.size + sd.size by omega]; exact hh)); have HG5 : Hid (Below w.heap.size w w5) := hide (below_orow HG4.out HO4.out hg5 HS4.out (Nat.le_refl _)); have HS5 : Hid (w.heap.size ≤ w5.heap.size) := hide HG5.out.size; clear ho5 hg5 hX5))
  clear HO4 HS4 HG4
  go_upto_region 8 with (first
    | (at_builtin; go_loud (refine wpList_append_lits w5 rfl (.tmp 39) (.tmp 40) 29 rfl w.heap.size 5 i0 _ 1 Tryz.underlying29 hi0 hz0 hz1 hz2 rfl v5 (53 + sn.size + sd.size) X5 rfl HO5.out [.int .u8 1, .int .u8 0, .int .u8 4, .int .u8 67, .int .u8 111, .int .u8 100, .int .u8 101, .int .u8 3, .int .u8 0, .int .u8 0, .int .u8 0, .int .u8 9] 12 rfl rfl rfl (by unfold maxLen; omega) (by omega) HS5.out ?_); intro v6 w6 ho6 hg6; obtain ⟨X6, hX6⟩ : ∃ X, X = X5 ++ [.int .u8 1, .int .u8 0, .int .u8 4, .int .u8 67, .int .u8 111, .int .u8 100, .int .u8 101, .int .u8 3, .int .u8 0, .int .u8 0, .int .u8 0, .int .u8 9] := ⟨_, rfl⟩; have HX6 := hide hX6; have HO6 : Hid (w6.ownsRow w.heap.size 5 1 v6 (65 + sn.size + sd.size) X6) := hide (by rw [hX6]; first | exact ho6 | (have hh := ho6; rw [show 65 + sn.size + sd.size = 53 + sn.size + sd.size + 12 by omega]; exact hh)); have HG6 : Hid (Below w.heap.size w w6) := hide (below_orow HG5.out HO5.out hg6 HS5.out (Nat.le_refl _)); have HS6 : Hid (w.heap.size ≤ w6.heap.size) := hide HG6.out.size; clear ho6 hg6 hX6))
  clear HO5 HS5 HG5
  go_upto_region 9 with (first
    | (at_builtin; go_loud (refine wpList_append_lits w6 rfl (.tmp 42) (.tmp 48) 29 rfl w.heap.size 5 i0 _ 1 Tryz.underlying29 hi0 hz0 hz1 hz2 rfl v6 (65 + sn.size + sd.size) X6 rfl HO6.out [.int .u8 (cl / 256), .int .u8 (cl % 256), .int .u8 0, .int .u8 2, .int .u8 0, .int .u8 4, .int .u8 0, .int .u8 0, .int .u8 0, .int .u8 1] 10 rfl rfl rfl (by unfold maxLen; omega) (by omega) HS6.out ?_); intro v7 w7 ho7 hg7; obtain ⟨X7, hX7⟩ : ∃ X, X = X6 ++ [.int .u8 (cl / 256), .int .u8 (cl % 256), .int .u8 0, .int .u8 2, .int .u8 0, .int .u8 4, .int .u8 0, .int .u8 0, .int .u8 0, .int .u8 1] := ⟨_, rfl⟩; have HX7 := hide hX7; have HO7 : Hid (w7.ownsRow w.heap.size 5 1 v7 (75 + sn.size + sd.size) X7) := hide (by rw [hX7]; first | exact ho7 | (have hh := ho7; rw [show 75 + sn.size + sd.size = 65 + sn.size + sd.size + 10 by omega]; exact hh)); have HG7 : Hid (Below w.heap.size w w7) := hide (below_orow HG6.out HO6.out hg7 HS6.out (Nat.le_refl _)); have HS7 : Hid (w.heap.size ≤ w7.heap.size) := hide HG7.out.size; clear ho7 hg7 hX7))
  clear HO6 HS6 HG6
  go_upto_region 10 with (first
    | (at_builtin; go_loud (refine wpList_append_lits w7 rfl (.tmp 50) (.tmp 56) 29 rfl w.heap.size 5 i0 _ 1 Tryz.underlying29 hi0 hz0 hz1 hz2 rfl v7 (75 + sn.size + sd.size) X7 rfl HO7.out [.int .u8 (fd / 256), .int .u8 (fd % 256), .int .u8 0, .int .u8 5, .int .u8 0, .int .u8 6, .int .u8 0, .int .u8 0, .int .u8 0, .int .u8 1] 10 rfl rfl rfl (by unfold maxLen; omega) (by omega) HS7.out ?_); intro v8 w8 ho8 hg8; obtain ⟨X8, hX8⟩ : ∃ X, X = X7 ++ [.int .u8 (fd / 256), .int .u8 (fd % 256), .int .u8 0, .int .u8 5, .int .u8 0, .int .u8 6, .int .u8 0, .int .u8 0, .int .u8 0, .int .u8 1] := ⟨_, rfl⟩; have HX8 := hide hX8; have HO8 : Hid (w8.ownsRow w.heap.size 5 1 v8 (85 + sn.size + sd.size) X8) := hide (by rw [hX8]; first | exact ho8 | (have hh := ho8; rw [show 85 + sn.size + sd.size = 75 + sn.size + sd.size + 10 by omega]; exact hh)); have HG8 : Hid (Below w.heap.size w w8) := hide (below_orow HG7.out HO7.out hg8 HS7.out (Nat.le_refl _)); have HS8 : Hid (w.heap.size ≤ w8.heap.size) := hide HG8.out.size; clear ho8 hg8 hX8))
  clear HO7 HS7 HG7
  go_upto_region 11 with (first
    | (at_builtin; go_loud (refine wpList_append_lits w8 rfl (.tmp 58) (.tmp 64) 29 rfl w.heap.size 5 i0 _ 1 Tryz.underlying29 hi0 hz0 hz1 hz2 rfl v8 (85 + sn.size + sd.size) X8 rfl HO8.out [.int .u8 (md / 256), .int .u8 (md % 256), .int .u8 0, .int .u8 7, .int .u8 0, .int .u8 8] 6 rfl rfl rfl (by unfold maxLen; omega) (by omega) HS8.out ?_); intro v9 w9 ho9 hg9; obtain ⟨X9, hX9⟩ : ∃ X, X = X8 ++ [.int .u8 (md / 256), .int .u8 (md % 256), .int .u8 0, .int .u8 7, .int .u8 0, .int .u8 8] := ⟨_, rfl⟩; have HX9 := hide hX9; have HO9 : Hid (w9.ownsRow w.heap.size 5 1 v9 (91 + sn.size + sd.size) X9) := hide (by rw [hX9]; first | exact ho9 | (have hh := ho9; rw [show 91 + sn.size + sd.size = 85 + sn.size + sd.size + 6 by omega]; exact hh)); have HG9 : Hid (Below w.heap.size w w9) := hide (below_orow HG8.out HO8.out hg9 HS8.out (Nat.le_refl _)); have HS9 : Hid (w.heap.size ≤ w9.heap.size) := hide HG9.out.size; clear ho9 hg9 hX9))
  clear HO8 HS8 HG8
  go_upto_region 14 with (first
    | (at_builtin; go_loud (refine wpList_append_lits w9 rfl (.tmp 67) (.tmp 68) 29 rfl w.heap.size 5 i0 _ 1 Tryz.underlying29 hi0 hz0 hz1 hz2 rfl v9 (91 + sn.size + sd.size) X9 rfl HO9.out [.int .u8 0, .int .u8 1, .int .u8 0, .int .u8 9, .int .u8 0, .int .u8 0, .int .u8 0, .int .u8 13, .int .u8 0, .int .u8 1, .int .u8 0, .int .u8 1, .int .u8 0, .int .u8 0, .int .u8 0, .int .u8 1, .int .u8 177, .int .u8 0, .int .u8 0, .int .u8 0, .int .u8 0] 21 rfl rfl rfl (by unfold maxLen; omega) (by omega) HS9.out ?_); intro v10 w10 ho10 hg10; obtain ⟨X10, hX10⟩ : ∃ X, X = X9 ++ [.int .u8 0, .int .u8 1, .int .u8 0, .int .u8 9, .int .u8 0, .int .u8 0, .int .u8 0, .int .u8 13, .int .u8 0, .int .u8 1, .int .u8 0, .int .u8 1, .int .u8 0, .int .u8 0, .int .u8 0, .int .u8 1, .int .u8 177, .int .u8 0, .int .u8 0, .int .u8 0, .int .u8 0] := ⟨_, rfl⟩; have HX10 := hide hX10; have HO10 : Hid (w10.ownsRow w.heap.size 5 1 v10 (112 + sn.size + sd.size) X10) := hide (by rw [hX10]; first | exact ho10 | (have hh := ho10; rw [show 112 + sn.size + sd.size = 91 + sn.size + sd.size + 21 by omega]; exact hh)); have HG10 : Hid (Below w.heap.size w w10) := hide (below_orow HG9.out HO9.out hg10 HS9.out (Nat.le_refl _)); have HS10 : Hid (w.heap.size ≤ w10.heap.size) := hide HG10.out.size; clear ho10 hg10 hX10))
  clear HO9 HS9 HG9
  go_wp2_with (first
    | (at_builtin; go_loud (refine wpList_append_lits w10 rfl (.tmp 73) (.tmp 74) 29 rfl w.heap.size 5 i0 _ 1 Tryz.underlying29 hi0 hz0 hz1 hz2 rfl v10 (112 + sn.size + sd.size) X10 rfl HO10.out [.int .u8 0, .int .u8 0] 2 rfl rfl rfl (by unfold maxLen; omega) (by omega) HS10.out ?_); intro v11 w11 ho11 hg11; obtain ⟨X11, hX11⟩ : ∃ X, X = X10 ++ [.int .u8 0, .int .u8 0] := ⟨_, rfl⟩; have HX11 := hide hX11; have HO11 : Hid (w11.ownsRow w.heap.size 5 1 v11 (114 + sn.size + sd.size) X11) := hide (by rw [hX11]; first | exact ho11 | (have hh := ho11; rw [show 114 + sn.size + sd.size = 112 + sn.size + sd.size + 2 by omega]; exact hh)); have HG11 : Hid (Below w.heap.size w w11) := hide (below_orow HG10.out HO10.out hg11 HS10.out (Nat.le_refl _)); have HS11 : Hid (w.heap.size ≤ w11.heap.size) := hide HG11.out.size; clear ho11 hg11 hX11))
  go_ret
  refine ⟨v11, 114 + sn.size + sd.size, rfl, by omega, ?_, HG11.out⟩
  have := HO11.out
  rw [HX11.out, HX10.out, HX9.out, HX8.out, HX7.out, HX6.out, HX5.out, HX4.out, HX3.out, HX2.out, HX1.out, HX0.out, strCells_bys, strCells_bys, strCells_bys] at this
  refine cast (congrArg (fun l => w11.ownsRow w.heap.size 5 1 v11 (114 + sn.size + sd.size) l) ?_) this
  simp [fileB, poolB, tailB, bys, nums_len, nums_obj]
set_option maxHeartbeats 4000000 in
set_option maxRecDepth 100000 in
theorem file_false (mj cl fd md : Int) (sn sd : ByteArray) (m0 : 0 ≤ mj) (m1 : mj < 256) (c0 : 0 ≤ cl) (c1 : cl < 65536) (f0 : 0 ≤ fd) (f1 : fd < 65536) (d0 : 0 ≤ md) (d1 : md < 65536) (ln : sn.size ≤ 100) (ld : sd.size ≤ 100) (w : World) :
    Calls Tryz.prog 12 #[.int .i64 mj, .int .i64 cl, .int .i64 fd, .int .i64 md, .string sn, .string sd, .bool false] w fun e w' => ∃ v n, e = .returned v ∧ n ≤ 400 ∧ w'.ownsRow w.heap.size 5 1 v n (bys (fileB mj cl fd md (nums sn) (nums sd) false)) ∧ Below w.heap.size w w' := by
  obtain ⟨i0, hi0, hz0, hz1, hz2⟩ := info_parts u8info
  have x1 : IntKind.u8.wrap mj = mj := by rw [wrap8]; omega
  have x2 : IntKind.u8.wrap cl = cl % 256 := wrap8 cl
  have x3 : IntKind.u8.wrap fd = fd % 256 := wrap8 fd
  have x4 : IntKind.u8.wrap md = md % 256 := wrap8 md
  have x5 : IntKind.u8.wrap (cl / 256) = cl / 256 := by rw [wrap8]; omega
  have x6 : IntKind.u8.wrap (fd / 256) = fd / 256 := by rw [wrap8]; omega
  have x7 : IntKind.u8.wrap (md / 256) = md / 256 := by rw [wrap8]; omega
  have x8 : IntKind.u8.wrap (sn.size : Int) = (sn.size : Int) := by rw [wrap8]; omega
  have x9 : IntKind.u8.wrap (sd.size : Int) = (sd.size : Int) := by rw [wrap8]; omega
  have HO0 : Hid ((w.alloc (.cells #[.int .u8 202, .int .u8 254, .int .u8 186, .int .u8 190, .int .u8 0, .int .u8 0, .int .u8 0, .int .u8 mj, .int .u8 0, .int .u8 11, .int .u8 1, .int .u8 0, .int .u8 1, .int .u8 97, .int .u8 7, .int .u8 0, .int .u8 1, .int .u8 1, .int .u8 0, .int .u8 16] 5)).ownsRow w.heap.size 5 1 (.slice (some ⟨w.heap.size, 0, none⟩) 20 20) 20 [.int .u8 202, .int .u8 254, .int .u8 186, .int .u8 190, .int .u8 0, .int .u8 0, .int .u8 0, .int .u8 mj, .int .u8 0, .int .u8 11, .int .u8 1, .int .u8 0, .int .u8 1, .int .u8 97, .int .u8 7, .int .u8 0, .int .u8 1, .int .u8 1, .int .u8 0, .int .u8 16]) := hide (lit_row (l := [.int .u8 202, .int .u8 254, .int .u8 186, .int .u8 190, .int .u8 0, .int .u8 0, .int .u8 0, .int .u8 mj, .int .u8 0, .int .u8 11, .int .u8 1, .int .u8 0, .int .u8 1, .int .u8 97, .int .u8 7, .int .u8 0, .int .u8 1, .int .u8 1, .int .u8 0, .int .u8 16]) rfl (by unfold maxLen; omega))
  have HG0 : Hid (Below w.heap.size w (w.alloc (.cells #[.int .u8 202, .int .u8 254, .int .u8 186, .int .u8 190, .int .u8 0, .int .u8 0, .int .u8 0, .int .u8 mj, .int .u8 0, .int .u8 11, .int .u8 1, .int .u8 0, .int .u8 1, .int .u8 97, .int .u8 7, .int .u8 0, .int .u8 1, .int .u8 1, .int .u8 0, .int .u8 16] 5))) := hide ((Below.refl _ _).alloc (Nat.le_refl _) _)
  have HS0 : Hid (w.heap.size ≤ (w.alloc (.cells #[.int .u8 202, .int .u8 254, .int .u8 186, .int .u8 190, .int .u8 0, .int .u8 0, .int .u8 0, .int .u8 mj, .int .u8 0, .int .u8 11, .int .u8 1, .int .u8 0, .int .u8 1, .int .u8 97, .int .u8 7, .int .u8 0, .int .u8 1, .int .u8 1, .int .u8 0, .int .u8 16] 5)).heap.size) := hide HG0.out.size
  clear m0 m1 c0 c1 f0 f1 d0 d1
  go_enter Tryz.func12, Tryz.ntmps12
  go_upto_region 2 with fail
  generalize w.alloc (.cells #[.int .u8 202, .int .u8 254, .int .u8 186, .int .u8 190, .int .u8 0, .int .u8 0, .int .u8 0, .int .u8 mj, .int .u8 0, .int .u8 11, .int .u8 1, .int .u8 0, .int .u8 1, .int .u8 97, .int .u8 7, .int .u8 0, .int .u8 1, .int .u8 1, .int .u8 0, .int .u8 16] 5) = w0 at *
  generalize hv0 : Value.slice (some ⟨w.heap.size, 0, none⟩) 20 20 = v0 at *
  clear hv0
  obtain ⟨X0, hX0⟩ : ∃ X0 : List Value, X0 = [.int .u8 202, .int .u8 254, .int .u8 186, .int .u8 190, .int .u8 0, .int .u8 0, .int .u8 0, .int .u8 mj, .int .u8 0, .int .u8 11, .int .u8 1, .int .u8 0, .int .u8 1, .int .u8 97, .int .u8 7, .int .u8 0, .int .u8 1, .int .u8 1, .int .u8 0, .int .u8 16] := ⟨_, rfl⟩
  rw [← hX0] at HO0
  have HX0 := hide hX0
  clear hX0
  go_upto_region 3 with (first
    | (at_builtin; go_loud (refine Lib.wpList_append_own_string w0 rfl (.tmp 19) (.const (.string ⟨#[106, 97, 118, 97, 47, 108, 97, 110, 103, 47, 79, 98, 106, 101, 99, 116]⟩)) 29 9 rfl w.heap.size 5 i0 Tryz.underlying29 Tryz.underlying9 hi0 hz0 hz1 hz2 v0 (20) X0 rfl HO0.out ⟨#[106, 97, 118, 97, 47, 108, 97, 110, 103, 47, 79, 98, 106, 101, 99, 116]⟩ rfl (by unfold maxLen; show _ + 16 ≤ _; omega) (by show _ + 16 ≤ _; omega) HS0.out ?_); intro v1 w1 ho1 hg1 _; obtain ⟨X1, hX1⟩ : ∃ X, X = X0 ++ Lib.strCells ⟨#[106, 97, 118, 97, 47, 108, 97, 110, 103, 47, 79, 98, 106, 101, 99, 116]⟩ := ⟨_, rfl⟩; have HX1 := hide hX1; have HO1 : Hid (w1.ownsRow w.heap.size 5 1 v1 (36) X1) := hide (by rw [hX1]; first | exact ho1 | (have hh := ho1; rw [show 36 = 20 + 16 by omega]; exact hh)); have HG1 : Hid (Below w.heap.size w w1) := hide (below_orow HG0.out HO0.out hg1 HS0.out (Nat.le_refl _)); have HS1 : Hid (w.heap.size ≤ w1.heap.size) := hide HG1.out.size; clear ho1 hg1 hX1))
  clear HO0 HS0 HG0
  go_upto_region 4 with (first
    | (at_builtin; go_loud (refine wpList_append_lits w1 rfl (.tmp 21) (.tmp 25) 29 rfl w.heap.size 5 i0 _ 1 Tryz.underlying29 hi0 hz0 hz1 hz2 rfl v1 (36) X1 rfl HO1.out [.int .u8 7, .int .u8 0, .int .u8 3, .int .u8 1, .int .u8 0, .int .u8 1, .int .u8 120, .int .u8 1, .int .u8 0, .int .u8 1, .int .u8 73, .int .u8 1, .int .u8 0, .int .u8 (sn.size : Int)] 14 rfl rfl rfl (by unfold maxLen; omega) (by omega) HS1.out ?_); intro v2 w2 ho2 hg2; obtain ⟨X2, hX2⟩ : ∃ X, X = X1 ++ [.int .u8 7, .int .u8 0, .int .u8 3, .int .u8 1, .int .u8 0, .int .u8 1, .int .u8 120, .int .u8 1, .int .u8 0, .int .u8 1, .int .u8 73, .int .u8 1, .int .u8 0, .int .u8 (sn.size : Int)] := ⟨_, rfl⟩; have HX2 := hide hX2; have HO2 : Hid (w2.ownsRow w.heap.size 5 1 v2 (50) X2) := hide (by rw [hX2]; first | exact ho2 | (have hh := ho2; rw [show 50 = 36 + 14 by omega]; exact hh)); have HG2 : Hid (Below w.heap.size w w2) := hide (below_orow HG1.out HO1.out hg2 HS1.out (Nat.le_refl _)); have HS2 : Hid (w.heap.size ≤ w2.heap.size) := hide HG2.out.size; clear ho2 hg2 hX2))
  clear HO1 HS1 HG1
  go_upto_region 5 with (first
    | (at_builtin; go_loud (refine Lib.wpList_append_own_string w2 rfl (.tmp 27) (.tmp 28) 29 9 rfl w.heap.size 5 i0 Tryz.underlying29 Tryz.underlying9 hi0 hz0 hz1 hz2 v2 (50) X2 rfl HO2.out sn rfl (by unfold maxLen; omega) (by omega) HS2.out ?_); intro v3 w3 ho3 hg3 _; obtain ⟨X3, hX3⟩ : ∃ X, X = X2 ++ Lib.strCells sn := ⟨_, rfl⟩; have HX3 := hide hX3; have HO3 : Hid (w3.ownsRow w.heap.size 5 1 v3 (50 + sn.size) X3) := hide (by rw [hX3]; first | exact ho3 | (have hh := ho3; rw [show 50 + sn.size = 50 + sn.size by omega]; exact hh)); have HG3 : Hid (Below w.heap.size w w3) := hide (below_orow HG2.out HO2.out hg3 HS2.out (Nat.le_refl _)); have HS3 : Hid (w.heap.size ≤ w3.heap.size) := hide HG3.out.size; clear ho3 hg3 hX3))
  clear HO2 HS2 HG2
  go_upto_region 6 with (first
    | (at_builtin; go_loud (refine wpList_append_lits w3 rfl (.tmp 30) (.tmp 34) 29 rfl w.heap.size 5 i0 _ 1 Tryz.underlying29 hi0 hz0 hz1 hz2 rfl v3 (50 + sn.size) X3 rfl HO3.out [.int .u8 1, .int .u8 0, .int .u8 (sd.size : Int)] 3 rfl rfl rfl (by unfold maxLen; omega) (by omega) HS3.out ?_); intro v4 w4 ho4 hg4; obtain ⟨X4, hX4⟩ : ∃ X, X = X3 ++ [.int .u8 1, .int .u8 0, .int .u8 (sd.size : Int)] := ⟨_, rfl⟩; have HX4 := hide hX4; have HO4 : Hid (w4.ownsRow w.heap.size 5 1 v4 (53 + sn.size) X4) := hide (by rw [hX4]; first | exact ho4 | (have hh := ho4; rw [show 53 + sn.size = 50 + sn.size + 3 by omega]; exact hh)); have HG4 : Hid (Below w.heap.size w w4) := hide (below_orow HG3.out HO3.out hg4 HS3.out (Nat.le_refl _)); have HS4 : Hid (w.heap.size ≤ w4.heap.size) := hide HG4.out.size; clear ho4 hg4 hX4))
  clear HO3 HS3 HG3
  go_upto_region 7 with (first
    | (at_builtin; go_loud (refine Lib.wpList_append_own_string w4 rfl (.tmp 36) (.tmp 37) 29 9 rfl w.heap.size 5 i0 Tryz.underlying29 Tryz.underlying9 hi0 hz0 hz1 hz2 v4 (53 + sn.size) X4 rfl HO4.out sd rfl (by unfold maxLen; omega) (by omega) HS4.out ?_); intro v5 w5 ho5 hg5 _; obtain ⟨X5, hX5⟩ : ∃ X, X = X4 ++ Lib.strCells sd := ⟨_, rfl⟩; have HX5 := hide hX5; have HO5 : Hid (w5.ownsRow w.heap.size 5 1 v5 (53 + sn.size + sd.size) X5) := hide (by rw [hX5]; first | exact ho5 | (have hh := ho5; rw [show 53 + sn.size + sd.size = 53 + sn.size + sd.size by omega]; exact hh)); have HG5 : Hid (Below w.heap.size w w5) := hide (below_orow HG4.out HO4.out hg5 HS4.out (Nat.le_refl _)); have HS5 : Hid (w.heap.size ≤ w5.heap.size) := hide HG5.out.size; clear ho5 hg5 hX5))
  clear HO4 HS4 HG4
  go_upto_region 8 with (first
    | (at_builtin; go_loud (refine wpList_append_lits w5 rfl (.tmp 39) (.tmp 40) 29 rfl w.heap.size 5 i0 _ 1 Tryz.underlying29 hi0 hz0 hz1 hz2 rfl v5 (53 + sn.size + sd.size) X5 rfl HO5.out [.int .u8 1, .int .u8 0, .int .u8 4, .int .u8 67, .int .u8 111, .int .u8 100, .int .u8 101, .int .u8 3, .int .u8 0, .int .u8 0, .int .u8 0, .int .u8 9] 12 rfl rfl rfl (by unfold maxLen; omega) (by omega) HS5.out ?_); intro v6 w6 ho6 hg6; obtain ⟨X6, hX6⟩ : ∃ X, X = X5 ++ [.int .u8 1, .int .u8 0, .int .u8 4, .int .u8 67, .int .u8 111, .int .u8 100, .int .u8 101, .int .u8 3, .int .u8 0, .int .u8 0, .int .u8 0, .int .u8 9] := ⟨_, rfl⟩; have HX6 := hide hX6; have HO6 : Hid (w6.ownsRow w.heap.size 5 1 v6 (65 + sn.size + sd.size) X6) := hide (by rw [hX6]; first | exact ho6 | (have hh := ho6; rw [show 65 + sn.size + sd.size = 53 + sn.size + sd.size + 12 by omega]; exact hh)); have HG6 : Hid (Below w.heap.size w w6) := hide (below_orow HG5.out HO5.out hg6 HS5.out (Nat.le_refl _)); have HS6 : Hid (w.heap.size ≤ w6.heap.size) := hide HG6.out.size; clear ho6 hg6 hX6))
  clear HO5 HS5 HG5
  go_upto_region 9 with (first
    | (at_builtin; go_loud (refine wpList_append_lits w6 rfl (.tmp 42) (.tmp 48) 29 rfl w.heap.size 5 i0 _ 1 Tryz.underlying29 hi0 hz0 hz1 hz2 rfl v6 (65 + sn.size + sd.size) X6 rfl HO6.out [.int .u8 (cl / 256), .int .u8 (cl % 256), .int .u8 0, .int .u8 2, .int .u8 0, .int .u8 4, .int .u8 0, .int .u8 0, .int .u8 0, .int .u8 1] 10 rfl rfl rfl (by unfold maxLen; omega) (by omega) HS6.out ?_); intro v7 w7 ho7 hg7; obtain ⟨X7, hX7⟩ : ∃ X, X = X6 ++ [.int .u8 (cl / 256), .int .u8 (cl % 256), .int .u8 0, .int .u8 2, .int .u8 0, .int .u8 4, .int .u8 0, .int .u8 0, .int .u8 0, .int .u8 1] := ⟨_, rfl⟩; have HX7 := hide hX7; have HO7 : Hid (w7.ownsRow w.heap.size 5 1 v7 (75 + sn.size + sd.size) X7) := hide (by rw [hX7]; first | exact ho7 | (have hh := ho7; rw [show 75 + sn.size + sd.size = 65 + sn.size + sd.size + 10 by omega]; exact hh)); have HG7 : Hid (Below w.heap.size w w7) := hide (below_orow HG6.out HO6.out hg7 HS6.out (Nat.le_refl _)); have HS7 : Hid (w.heap.size ≤ w7.heap.size) := hide HG7.out.size; clear ho7 hg7 hX7))
  clear HO6 HS6 HG6
  go_upto_region 10 with (first
    | (at_builtin; go_loud (refine wpList_append_lits w7 rfl (.tmp 50) (.tmp 56) 29 rfl w.heap.size 5 i0 _ 1 Tryz.underlying29 hi0 hz0 hz1 hz2 rfl v7 (75 + sn.size + sd.size) X7 rfl HO7.out [.int .u8 (fd / 256), .int .u8 (fd % 256), .int .u8 0, .int .u8 5, .int .u8 0, .int .u8 6, .int .u8 0, .int .u8 0, .int .u8 0, .int .u8 1] 10 rfl rfl rfl (by unfold maxLen; omega) (by omega) HS7.out ?_); intro v8 w8 ho8 hg8; obtain ⟨X8, hX8⟩ : ∃ X, X = X7 ++ [.int .u8 (fd / 256), .int .u8 (fd % 256), .int .u8 0, .int .u8 5, .int .u8 0, .int .u8 6, .int .u8 0, .int .u8 0, .int .u8 0, .int .u8 1] := ⟨_, rfl⟩; have HX8 := hide hX8; have HO8 : Hid (w8.ownsRow w.heap.size 5 1 v8 (85 + sn.size + sd.size) X8) := hide (by rw [hX8]; first | exact ho8 | (have hh := ho8; rw [show 85 + sn.size + sd.size = 75 + sn.size + sd.size + 10 by omega]; exact hh)); have HG8 : Hid (Below w.heap.size w w8) := hide (below_orow HG7.out HO7.out hg8 HS7.out (Nat.le_refl _)); have HS8 : Hid (w.heap.size ≤ w8.heap.size) := hide HG8.out.size; clear ho8 hg8 hX8))
  clear HO7 HS7 HG7
  go_upto_region 11 with (first
    | (at_builtin; go_loud (refine wpList_append_lits w8 rfl (.tmp 58) (.tmp 64) 29 rfl w.heap.size 5 i0 _ 1 Tryz.underlying29 hi0 hz0 hz1 hz2 rfl v8 (85 + sn.size + sd.size) X8 rfl HO8.out [.int .u8 (md / 256), .int .u8 (md % 256), .int .u8 0, .int .u8 7, .int .u8 0, .int .u8 8] 6 rfl rfl rfl (by unfold maxLen; omega) (by omega) HS8.out ?_); intro v9 w9 ho9 hg9; obtain ⟨X9, hX9⟩ : ∃ X, X = X8 ++ [.int .u8 (md / 256), .int .u8 (md % 256), .int .u8 0, .int .u8 7, .int .u8 0, .int .u8 8] := ⟨_, rfl⟩; have HX9 := hide hX9; have HO9 : Hid (w9.ownsRow w.heap.size 5 1 v9 (91 + sn.size + sd.size) X9) := hide (by rw [hX9]; first | exact ho9 | (have hh := ho9; rw [show 91 + sn.size + sd.size = 85 + sn.size + sd.size + 6 by omega]; exact hh)); have HG9 : Hid (Below w.heap.size w w9) := hide (below_orow HG8.out HO8.out hg9 HS8.out (Nat.le_refl _)); have HS9 : Hid (w.heap.size ≤ w9.heap.size) := hide HG9.out.size; clear ho9 hg9 hX9))
  clear HO8 HS8 HG8
  go_upto_region 14 with (first
    | (at_builtin; go_loud (refine wpList_append_lits w9 rfl (.tmp 70) (.tmp 71) 29 rfl w.heap.size 5 i0 _ 1 Tryz.underlying29 hi0 hz0 hz1 hz2 rfl v9 (91 + sn.size + sd.size) X9 rfl HO9.out [.int .u8 0, .int .u8 0] 2 rfl rfl rfl (by unfold maxLen; omega) (by omega) HS9.out ?_); intro v10 w10 ho10 hg10; obtain ⟨X10, hX10⟩ : ∃ X, X = X9 ++ [.int .u8 0, .int .u8 0] := ⟨_, rfl⟩; have HX10 := hide hX10; have HO10 : Hid (w10.ownsRow w.heap.size 5 1 v10 (93 + sn.size + sd.size) X10) := hide (by rw [hX10]; first | exact ho10 | (have hh := ho10; rw [show 93 + sn.size + sd.size = 91 + sn.size + sd.size + 2 by omega]; exact hh)); have HG10 : Hid (Below w.heap.size w w10) := hide (below_orow HG9.out HO9.out hg10 HS9.out (Nat.le_refl _)); have HS10 : Hid (w.heap.size ≤ w10.heap.size) := hide HG10.out.size; clear ho10 hg10 hX10))
  clear HO9 HS9 HG9
  go_wp2_with (first
    | (at_builtin; go_loud (refine wpList_append_lits w10 rfl (.tmp 73) (.tmp 74) 29 rfl w.heap.size 5 i0 _ 1 Tryz.underlying29 hi0 hz0 hz1 hz2 rfl v10 (93 + sn.size + sd.size) X10 rfl HO10.out [.int .u8 0, .int .u8 0] 2 rfl rfl rfl (by unfold maxLen; omega) (by omega) HS10.out ?_); intro v11 w11 ho11 hg11; obtain ⟨X11, hX11⟩ : ∃ X, X = X10 ++ [.int .u8 0, .int .u8 0] := ⟨_, rfl⟩; have HX11 := hide hX11; have HO11 : Hid (w11.ownsRow w.heap.size 5 1 v11 (95 + sn.size + sd.size) X11) := hide (by rw [hX11]; first | exact ho11 | (have hh := ho11; rw [show 95 + sn.size + sd.size = 93 + sn.size + sd.size + 2 by omega]; exact hh)); have HG11 : Hid (Below w.heap.size w w11) := hide (below_orow HG10.out HO10.out hg11 HS10.out (Nat.le_refl _)); have HS11 : Hid (w.heap.size ≤ w11.heap.size) := hide HG11.out.size; clear ho11 hg11 hX11))
  go_ret
  refine ⟨v11, 95 + sn.size + sd.size, rfl, by omega, ?_, HG11.out⟩
  have := HO11.out
  rw [HX11.out, HX10.out, HX9.out, HX8.out, HX7.out, HX6.out, HX5.out, HX4.out, HX3.out, HX2.out, HX1.out, HX0.out, strCells_bys, strCells_bys, strCells_bys] at this
  refine cast (congrArg (fun l => w11.ownsRow w.heap.size 5 1 v11 (95 + sn.size + sd.size) l) ?_) this
  simp [fileB, poolB, tailB, bys, nums_len, nums_obj]
end Go.Proofs.YtbdbcalmjbmflaaGreatDoor
namespace Go.Proofs.YtbdbcalmjbmflaaGreatDoor
open Go.RowKit

theorem row_rd {w : World} {base n : Nat} {v : Value} {xs : List Value} (h : w.ownsRow base 5 1 v n xs) (hn : 0 < n) :
    ∃ g c, v = .slice (some ⟨g, 0, none⟩) n c ∧ n ≤ c ∧ base ≤ g ∧ Rd w w.heap.size (some ⟨g, 0, none⟩) n xs := by
  have hx : xs.length = n := by have := h.1; rwa [Nat.mul_one] at this
  obtain ⟨_, ⟨rfl, rfl⟩ | ⟨g, cap, cur, rfl, hb, hg, hnc, hm, hs, ht⟩⟩ := h
  · exact absurd hn (Nat.lt_irrefl 0)
  · refine ⟨g, cap, rfl, hnc, hb, hx, fun _ => ⟨g, 0, rfl, (Array.getElem?_eq_some_iff.1 hg).1, fun j u hu => ?_⟩⟩
    rw [Nat.zero_add, cell_of_row w g _ cur 5 (0, 0) hg]
    rw [← ht, List.getElem?_take] at hu
    split at hu
    · simpa using hu
    · cases hu
theorem file_bytes (mj cl fd md : Int) (nm ds : List Int) (code : Bool) (m0 : 0 ≤ mj) (m1 : mj < 256) (c0 : 0 ≤ cl) (c1 : cl < 65536) (f0 : 0 ≤ fd) (f1 : fd < 65536) (d0 : 0 ≤ md) (d1 : md < 65536) (bn : IsBytes nm) (bd : IsBytes ds) (ln : nm.length ≤ 100) (ld : ds.length ≤ 100) : IsBytes (fileB mj cl fd md nm ds code) := by
  have h1 : IsBytes [202, 254, 186, 190, 0, 0, 0, mj] := fun x hx => by simp at hx; omega
  have h2 : IsBytes [0, 11, 1, 0, 1, 97, 7, 0, 1, 1, 0, 16, 106, 97, 118, 97, 47, 108, 97, 110, 103, 47, 79, 98, 106, 101, 99, 116, 7, 0, 3, 1, 0, 1, 120, 1, 0, 1, 73, 1, 0, (nm.length : Int)] := fun x hx => by simp at hx; omega
  have h3 : IsBytes [1, 0, (ds.length : Int)] := fun x hx => by simp at hx; omega
  have h4 : IsBytes [1, 0, 4, 67, 111, 100, 101, 3, 0, 0, 0, 9] := fun x hx => by simp at hx; omega
  have h5 : IsBytes [cl / 256, cl % 256, 0, 2, 0, 4, 0, 0, 0, 1, fd / 256, fd % 256, 0, 5, 0, 6, 0, 0, 0, 1, md / 256, md % 256, 0, 7, 0, 8] := fun x hx => by simp at hx; omega
  have h6 : IsBytes (if code = true then [0, 1, 0, 9, 0, 0, 0, 13, 0, 1, 0, 1, 0, 0, 0, 1, 177, 0, 0, 0, 0] else [0, 0]) := by
    cases code
    · exact fun x hx => by simp at hx; omega
    · exact fun x hx => by simp at hx; omega
  have h7 : IsBytes [0, 0] := fun x hx => by simp at hx; omega
  unfold fileB poolB tailB
  intro x hx
  simp only [List.mem_append] at hx
  rcases hx with hx | ((((hx | hx) | hx) | hx) | hx) | ((hx | hx) | hx)
  · exact h1 x hx
  · exact h2 x hx
  · exact bn x hx
  · exact h3 x hx
  · exact bd x hx
  · exact h4 x hx
  · exact h5 x hx
  · exact h6 x hx
  · exact h7 x hx

theorem made_read (mj cl fd md : Int) (nm ds : List Int) (sn sd : ByteArray) (code aR : Bool) (v1 : 50 ≤ mj) (v2 : mj ≤ 52) (c0 : 0 ≤ cl) (c1 : cl < 65536) (f0 : 0 ≤ fd) (f1 : fd < 65536) (d0 : 0 ≤ md) (d1 : md < 65536) (en : nums sn = nm) (ed : nums sd = ds) (ln : sn.size ≤ 100) (ld : sd.size ≤ 100)
    (hp : ∀ c1 c0 f1 f0 m1 m0, pool (poolB nm ds ++ tailB c1 c0 f1 f0 m1 m0 code) = some (psB nm ds, (poolB nm ds).length)) (pn : methodB nm = true) (ad : argsW ds = 0)
    (HA : ∀ (E : CEnv) (k : Nat) nm' sp' I F M W, CW E k (clsV E mj cl nm' sp' I F M) W → Calls Tryz.prog 63 #[(.agg #[.pointer (some ⟨E.g, 0, none⟩), .pointer (some ⟨E.q, 0, none⟩)]), .int .i64 md, .string sn, .string sd] W fun e w' => e = .returned (.bool aR) ∧ CW E k (clsV E mj cl nm' sp' I F M) w' ∧ Grew E W w') (w : World) (hw : Maxed w) :
    Calls Tryz.prog 12 #[.int .i64 mj, .int .i64 cl, .int .i64 fd, .int .i64 md, .string sn, .string sd, .bool code] w fun e w' => ∃ g n c, e = .returned (.slice (some ⟨g, 0, none⟩) n c) ∧ Calls Tryz.prog 11 #[.slice (some ⟨g, 0, none⟩) n c] w' (FileTold mj cl ⟨#[97]⟩ sObj (fun _ => True) (okB cl fd md aR code) w') ∧ Below w.heap.size w w' := by
  subst en ed
  have hF : Calls Tryz.prog 12 #[.int .i64 mj, .int .i64 cl, .int .i64 fd, .int .i64 md, .string sn, .string sd, .bool code] w fun e w' => ∃ v n, e = .returned v ∧ n ≤ 400 ∧ w'.ownsRow w.heap.size 5 1 v n (bys (fileB mj cl fd md (nums sn) (nums sd) code)) ∧ Below w.heap.size w w' := by
    cases code
    · exact file_false mj cl fd md sn sd (by omega) (by omega) c0 c1 f0 f1 d0 d1 ln ld w
    · exact file_true mj cl fd md sn sd (by omega) (by omega) c0 c1 f0 f1 d0 d1 ln ld w
  refine hF.mono ?_
  rintro e w1 ⟨v, n, rfl, hn, ho, hb⟩
  have hl : (bys (fileB mj cl fd md (nums sn) (nums sd) code)).length = n := by have := ho.1; rwa [Nat.mul_one] at this
  have hpos : 0 < n := by rw [← hl, bys_len]; simp [fileB]
  obtain ⟨g, c, rfl, hnc, _, hr⟩ := row_rd ho hpos
  refine ⟨g, n, c, rfl, ?_, hb⟩
  exact read_file g 0 n c mj cl fd md (nums sn) (nums sd) sn sd code aR w1 (hw.below hb) hr hnc (file_bytes mj cl fd md _ _ code (by omega) (by omega) c0 c1 f0 f1 d0 d1 (nums_bytes sn) (nums_bytes sd) (by rw [nums_len]; exact ln) (by rw [nums_len]; exact ld)) (by omega) v1 v2 f0 f1 hp (of_nums sn) (of_nums sd) pn (by omega) (by omega) ad HA
end Go.Proofs.YtbdbcalmjbmflaaGreatDoor
namespace Go.Proofs.YtbdbcalmjbmflaaGreatDoor
open Go.RowKit

theorem inits_ok : ∀ n : Fin 8, methodFlagsB (n.val : Int) = accB (n.val : Int) := by decide +kernel
theorem init_plain (f : Int) (f0 : 0 ≤ f) (f1 : f < 65536) : initFlagsB f 33 52 true = (inB f 7 && accB f) := by
  unfold initFlagsB
  rw [show has 33 512 = false by decide +kernel]
  cases h : inB f 7
  · rfl
  · rw [in7 f f0 f1] at h
    have h8 : f < 8 := of_decide_eq_true h
    have := inits_ok ⟨f.toNat, by omega⟩
    simp only [Int.toNat_of_nonneg f0] at this
    simp [this]
theorem init_face (f : Int) (rv : Bool) : initFlagsB f 1537 52 rv = false := by
  unfold initFlagsB
  rw [show has 1537 512 = true by decide +kernel]
  cases faceFlagsB f 52 <;> rfl
theorem init_value (f cl : Int) : initFlagsB f cl 52 false = false := by
  unfold initFlagsB
  cases has cl 512 <;> cases faceFlagsB f 52 <;> cases inB f 7 <;> rfl
theorem ok_inits (f : Int) (aR cd : Bool) (h : cd = !has f 1024) : okB 33 0 f aR cd = aR := by
  subst h
  unfold okB
  rw [show classFlagsB 33 = true by decide +kernel, show fieldFlagsB 0 (has 33 512) = true by decide +kernel]
  cases aR <;> cases has f 1024 <;> rfl
theorem ok_initsF (f : Int) (aR cd : Bool) (h : cd = !has f 1024) : okB 1537 25 f aR cd = aR := by
  subst h
  unfold okB
  rw [show classFlagsB 1537 = true by decide +kernel, show fieldFlagsB 25 (has 1537 512) = true by decide +kernel]
  cases aR <;> cases has f 1024 <;> rfl
theorem sig_V : sig (nums ⟨#[40, 41, 86]⟩) = some ([], ⟨86, [], 0, 0⟩) := by decide +kernel
theorem sig_I : sig (nums ⟨#[40, 41, 73]⟩) = some ([], ⟨73, [], 0, 0⟩) := by decide +kernel
theorem made_init_V_cls (f : Int) (f0 : 0 ≤ f) (f1 : f < 65536) (cd : Bool) (h : cd = !has f 1024) (w : World) (hw : Maxed w) :
    Calls Tryz.prog 12 #[.int .i64 52, .int .i64 33, .int .i64 0, .int .i64 f, .string ⟨#[60, 105, 110, 105, 116, 62]⟩, .string ⟨#[40, 41, 86]⟩, .bool cd] w fun e w' => ∃ g n c, e = .returned (.slice (some ⟨g, 0, none⟩) n c) ∧ Calls Tryz.prog 11 #[.slice (some ⟨g, 0, none⟩) n c] w' (FileTold 52 33 ⟨#[97]⟩ sObj (fun _ => True) (inB f 7 && accB f) w') ∧ Below w.heap.size w w' := by
  have := made_read 52 33 0 f nInit dV ⟨#[60, 105, 110, 105, 116, 62]⟩ ⟨#[40, 41, 86]⟩ cd (initFlagsB f 33 52 true) (by omega) (by omega) (by omega) (by omega) (by omega) (by omega) f0 f1 (by rfl) (by rfl) (by decide) (by decide) (by cases cd; exact pool_init_dV_false; exact pool_init_dV_true) (by decide +kernel) (by decide +kernel) (fun E k nm' sp' I F M W hW => allows_init hW f f0 f1 ⟨#[40, 41, 86]⟩ (by decide) [] ⟨86, [], 0, 0⟩ sig_V) w hw
  rw [ok_inits f _ cd h, show initFlagsB f 33 52 true = (inB f 7 && accB f) from init_plain f f0 f1] at this
  exact this
theorem made_init_V_face (f : Int) (f0 : 0 ≤ f) (f1 : f < 65536) (cd : Bool) (h : cd = !has f 1024) (w : World) (hw : Maxed w) :
    Calls Tryz.prog 12 #[.int .i64 52, .int .i64 1537, .int .i64 25, .int .i64 f, .string ⟨#[60, 105, 110, 105, 116, 62]⟩, .string ⟨#[40, 41, 86]⟩, .bool cd] w fun e w' => ∃ g n c, e = .returned (.slice (some ⟨g, 0, none⟩) n c) ∧ Calls Tryz.prog 11 #[.slice (some ⟨g, 0, none⟩) n c] w' (FileTold 52 1537 ⟨#[97]⟩ sObj (fun _ => True) false w') ∧ Below w.heap.size w w' := by
  have := made_read 52 1537 25 f nInit dV ⟨#[60, 105, 110, 105, 116, 62]⟩ ⟨#[40, 41, 86]⟩ cd (initFlagsB f 1537 52 true) (by omega) (by omega) (by omega) (by omega) (by omega) (by omega) f0 f1 (by rfl) (by rfl) (by decide) (by decide) (by cases cd; exact pool_init_dV_false; exact pool_init_dV_true) (by decide +kernel) (by decide +kernel) (fun E k nm' sp' I F M W hW => allows_init hW f f0 f1 ⟨#[40, 41, 86]⟩ (by decide) [] ⟨86, [], 0, 0⟩ sig_V) w hw
  rw [ok_initsF f _ cd h, show initFlagsB f 1537 52 true = false from init_face _ _] at this
  exact this
theorem made_init_I_cls (f : Int) (f0 : 0 ≤ f) (f1 : f < 65536) (cd : Bool) (h : cd = !has f 1024) (w : World) (hw : Maxed w) :
    Calls Tryz.prog 12 #[.int .i64 52, .int .i64 33, .int .i64 0, .int .i64 f, .string ⟨#[60, 105, 110, 105, 116, 62]⟩, .string ⟨#[40, 41, 73]⟩, .bool cd] w fun e w' => ∃ g n c, e = .returned (.slice (some ⟨g, 0, none⟩) n c) ∧ Calls Tryz.prog 11 #[.slice (some ⟨g, 0, none⟩) n c] w' (FileTold 52 33 ⟨#[97]⟩ sObj (fun _ => True) false w') ∧ Below w.heap.size w w' := by
  have := made_read 52 33 0 f nInit dI ⟨#[60, 105, 110, 105, 116, 62]⟩ ⟨#[40, 41, 73]⟩ cd (initFlagsB f 33 52 false) (by omega) (by omega) (by omega) (by omega) (by omega) (by omega) f0 f1 (by rfl) (by rfl) (by decide) (by decide) (by cases cd; exact pool_init_dI_false; exact pool_init_dI_true) (by decide +kernel) (by decide +kernel) (fun E k nm' sp' I F M W hW => allows_init hW f f0 f1 ⟨#[40, 41, 73]⟩ (by decide) [] ⟨73, [], 0, 0⟩ sig_I) w hw
  rw [ok_inits f _ cd h, show initFlagsB f 33 52 false = false from init_value _ _] at this
  exact this
theorem made_init_I_face (f : Int) (f0 : 0 ≤ f) (f1 : f < 65536) (cd : Bool) (h : cd = !has f 1024) (w : World) (hw : Maxed w) :
    Calls Tryz.prog 12 #[.int .i64 52, .int .i64 1537, .int .i64 25, .int .i64 f, .string ⟨#[60, 105, 110, 105, 116, 62]⟩, .string ⟨#[40, 41, 73]⟩, .bool cd] w fun e w' => ∃ g n c, e = .returned (.slice (some ⟨g, 0, none⟩) n c) ∧ Calls Tryz.prog 11 #[.slice (some ⟨g, 0, none⟩) n c] w' (FileTold 52 1537 ⟨#[97]⟩ sObj (fun _ => True) false w') ∧ Below w.heap.size w w' := by
  have := made_read 52 1537 25 f nInit dI ⟨#[60, 105, 110, 105, 116, 62]⟩ ⟨#[40, 41, 73]⟩ cd (initFlagsB f 1537 52 false) (by omega) (by omega) (by omega) (by omega) (by omega) (by omega) f0 f1 (by rfl) (by rfl) (by decide) (by decide) (by cases cd; exact pool_init_dI_false; exact pool_init_dI_true) (by decide +kernel) (by decide +kernel) (fun E k nm' sp' I F M W hW => allows_init hW f f0 f1 ⟨#[40, 41, 73]⟩ (by decide) [] ⟨73, [], 0, 0⟩ sig_I) w hw
  rw [ok_initsF f _ cd h, show initFlagsB f 1537 52 false = false from init_face _ _] at this
  exact this
theorem made_clinit_V_cls (f : Int) (f0 : 0 ≤ f) (f1 : f < 65536) (cd : Bool) (h : cd = !has f 1024) (w : World) (hw : Maxed w) :
    Calls Tryz.prog 12 #[.int .i64 52, .int .i64 33, .int .i64 0, .int .i64 f, .string ⟨#[60, 99, 108, 105, 110, 105, 116, 62]⟩, .string ⟨#[40, 41, 86]⟩, .bool cd] w fun e w' => ∃ g n c, e = .returned (.slice (some ⟨g, 0, none⟩) n c) ∧ Calls Tryz.prog 11 #[.slice (some ⟨g, 0, none⟩) n c] w' (FileTold 52 33 ⟨#[97]⟩ sObj (fun _ => True) (f == 8) w') ∧ Below w.heap.size w w' := by
  have := made_read 52 33 0 f nClinit dV ⟨#[60, 99, 108, 105, 110, 105, 116, 62]⟩ ⟨#[40, 41, 86]⟩ cd ((f == 8 && true)) (by omega) (by omega) (by omega) (by omega) (by omega) (by omega) f0 f1 (by rfl) (by rfl) (by decide) (by decide) (by cases cd; exact pool_clinit_dV_false; exact pool_clinit_dV_true) (by decide +kernel) (by decide +kernel) (fun E k nm' sp' I F M W hW => allows_clinit hW f ⟨#[40, 41, 86]⟩ true (by decide +kernel)) w hw
  rw [ok_inits f _ cd h, show (f == 8 && true) = (f == 8) from by cases (f == 8) <;> rfl] at this
  exact this
theorem made_clinit_V_face (f : Int) (f0 : 0 ≤ f) (f1 : f < 65536) (cd : Bool) (h : cd = !has f 1024) (w : World) (hw : Maxed w) :
    Calls Tryz.prog 12 #[.int .i64 52, .int .i64 1537, .int .i64 25, .int .i64 f, .string ⟨#[60, 99, 108, 105, 110, 105, 116, 62]⟩, .string ⟨#[40, 41, 86]⟩, .bool cd] w fun e w' => ∃ g n c, e = .returned (.slice (some ⟨g, 0, none⟩) n c) ∧ Calls Tryz.prog 11 #[.slice (some ⟨g, 0, none⟩) n c] w' (FileTold 52 1537 ⟨#[97]⟩ sObj (fun _ => True) (f == 8) w') ∧ Below w.heap.size w w' := by
  have := made_read 52 1537 25 f nClinit dV ⟨#[60, 99, 108, 105, 110, 105, 116, 62]⟩ ⟨#[40, 41, 86]⟩ cd ((f == 8 && true)) (by omega) (by omega) (by omega) (by omega) (by omega) (by omega) f0 f1 (by rfl) (by rfl) (by decide) (by decide) (by cases cd; exact pool_clinit_dV_false; exact pool_clinit_dV_true) (by decide +kernel) (by decide +kernel) (fun E k nm' sp' I F M W hW => allows_clinit hW f ⟨#[40, 41, 86]⟩ true (by decide +kernel)) w hw
  rw [ok_initsF f _ cd h, show (f == 8 && true) = (f == 8) from by cases (f == 8) <;> rfl] at this
  exact this
theorem made_clinit_I_cls (f : Int) (f0 : 0 ≤ f) (f1 : f < 65536) (cd : Bool) (h : cd = !has f 1024) (w : World) (hw : Maxed w) :
    Calls Tryz.prog 12 #[.int .i64 52, .int .i64 33, .int .i64 0, .int .i64 f, .string ⟨#[60, 99, 108, 105, 110, 105, 116, 62]⟩, .string ⟨#[40, 41, 73]⟩, .bool cd] w fun e w' => ∃ g n c, e = .returned (.slice (some ⟨g, 0, none⟩) n c) ∧ Calls Tryz.prog 11 #[.slice (some ⟨g, 0, none⟩) n c] w' (FileTold 52 33 ⟨#[97]⟩ sObj (fun _ => True) false w') ∧ Below w.heap.size w w' := by
  have := made_read 52 33 0 f nClinit dI ⟨#[60, 99, 108, 105, 110, 105, 116, 62]⟩ ⟨#[40, 41, 73]⟩ cd ((f == 8 && false)) (by omega) (by omega) (by omega) (by omega) (by omega) (by omega) f0 f1 (by rfl) (by rfl) (by decide) (by decide) (by cases cd; exact pool_clinit_dI_false; exact pool_clinit_dI_true) (by decide +kernel) (by decide +kernel) (fun E k nm' sp' I F M W hW => allows_clinit hW f ⟨#[40, 41, 73]⟩ false (by decide +kernel)) w hw
  rw [ok_inits f _ cd h, show (f == 8 && false) = false from by cases (f == 8) <;> rfl] at this
  exact this
theorem made_clinit_I_face (f : Int) (f0 : 0 ≤ f) (f1 : f < 65536) (cd : Bool) (h : cd = !has f 1024) (w : World) (hw : Maxed w) :
    Calls Tryz.prog 12 #[.int .i64 52, .int .i64 1537, .int .i64 25, .int .i64 f, .string ⟨#[60, 99, 108, 105, 110, 105, 116, 62]⟩, .string ⟨#[40, 41, 73]⟩, .bool cd] w fun e w' => ∃ g n c, e = .returned (.slice (some ⟨g, 0, none⟩) n c) ∧ Calls Tryz.prog 11 #[.slice (some ⟨g, 0, none⟩) n c] w' (FileTold 52 1537 ⟨#[97]⟩ sObj (fun _ => True) false w') ∧ Below w.heap.size w w' := by
  have := made_read 52 1537 25 f nClinit dI ⟨#[60, 99, 108, 105, 110, 105, 116, 62]⟩ ⟨#[40, 41, 73]⟩ cd ((f == 8 && false)) (by omega) (by omega) (by omega) (by omega) (by omega) (by omega) f0 f1 (by rfl) (by rfl) (by decide) (by decide) (by cases cd; exact pool_clinit_dI_false; exact pool_clinit_dI_true) (by decide +kernel) (by decide +kernel) (fun E k nm' sp' I F M W hW => allows_clinit hW f ⟨#[40, 41, 73]⟩ false (by decide +kernel)) w hw
  rw [ok_initsF f _ cd h, show (f == 8 && false) = false from by cases (f == 8) <;> rfl] at this
  exact this
/-- What a reading answers, by whether the rules hold. -/
def errV (R : Bool) : Int := if R = true then 0 else 1
theorem told_err {mj fl : Int} {s1 s2 : ByteArray} {M : Value → Prop} {R : Bool} {w w' : World} {e : Ending} (h : FileTold mj fl s1 s2 M R w e w') : (∃ p, e = .returned (.tuple #[.pointer p, .int .i64 (errV R)])) ∧ Below w.heap.size w w' := by
  obtain ⟨hb, hy, hn⟩ := h
  cases R
  · exact ⟨⟨_, hn rfl⟩, hb⟩
  · obtain ⟨q, P, I, F, V, he, _⟩ := hy rfl
    exact ⟨⟨_, he⟩, hb⟩
end Go.Proofs.YtbdbcalmjbmflaaGreatDoor
