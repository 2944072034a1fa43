/- Types with their names: package stackmap. Nothing is claimed here. -/
import Derived.Test.YtlgknednfgpgfaaFrC
import Derived.Test.YtlgknednfgpgfaaPoolAsk2
namespace Go.Proofs.Ytlgknednfgpgfaa
open Go.RowKit

def noV : VT := ⟨0, 0⟩
theorem ft_at (l : List VT) (j : Nat) (hj : j < l.length) : (l.map VT.ft).getD j noF = (l.getD j noV).ft := by
  simp [List.getD, hj]
theorem getD_memV {l : List VT} {j : Nat} (hj : j < l.length) : l.getD j noV ∈ l := by
  rw [List.getD, List.getElem?_eq_getElem hj]; exact List.getElem_mem _
theorem map_take_snoc {β : Type} (f : VT → β) (l : List VT) {j : Nat} (hj : j < l.length) : (l.take (j + 1)).map f = (l.take j).map f ++ [f (l.getD j noV)] := by
  rw [take_snoc l noV hj, List.map_append]; rfl

set_option maxHeartbeats 8000000 in
set_option maxRecDepth 100000 in
theorem smnamed_any (sb : Nat) (Ap : Option Addr) (np cp : Nat) (x1 x2 x3 : Value) (ps : List Cst) (A : Option Addr) (n c : Nat) (l : List VT) (hg : ∀ v ∈ l, GoodV ps v) (w : World) (hs : At w sb 68 [.slice Ap np cp, x1, x2, x3])
    (hp : RdC w w.heap.size Ap np ps) (B : Nat) (h : RdF w B A n (l.map VT.ft)) (hB : B ≤ w.heap.size) (hn : n ≤ 100000) :
    Calls Try.prog 48 #[.pointer (some ⟨sb, 0, none⟩), .slice A n c] w fun e w' => ∃ V, e = .returned (.tuple #[V, .bool true]) ∧ w'.ownsRow w.heap.size 37 3 V n (fcells (l.map (nameF ps))) ∧ Below w.heap.size w w' := by
  have HH := hide h
  have HS := hide hs
  have hsl := hs.lt
  have hl : l.length = n := by have := h.1; rwa [List.length_map] at this
  obtain ⟨X, hX, hO⟩ := make_vts n hn w
  have HO := hide hO
  have HB0 := hide ((Below.refl w.heap.size w).alloc (Nat.le_refl _) (.cells X 37))
  have HC : Hid (∀ x W, Below w.heap.size w W → Calls Try.prog 49 #[.slice Ap np cp, .int .i64 x] W fun e w' => e = .returned (.tuple #[.string (strOfNums ((classAt ps x).getD [])), .bool (classAt ps x).isSome]) ∧ Below W.heap.size W w') := hide fun x W hb => by rw [← textV_pair]; exact class_is Ap np cp ps x W ((hp.below hb).mono hb.size)
  clear h hO hs hp
  go_enter Try.func48, Try.ntmps48
  go_wp2_with fail
  generalize w.alloc (.cells X 37) = w1 at *
  have hz1 := HB0.out.size
  go_loopw [6, 16] (fun v iv wr => ∃ j : Nat, j ≤ n ∧ iv = .int .i64 j ∧ wr.ownsRow w.heap.size 37 3 v j (fcells ((l.take j).map (nameF ps))) ∧ Below w.heap.size w wr) (fun _ iv _ => n - (intOf iv).toNat)
  case atStart => exact ⟨0, Nat.zero_le _, rfl, HO.out, HB0.out⟩
  case round =>
    obtain ⟨j, hj, rfl, hown, hbel⟩ := hrel
    have hz := hbel.size
    have HB := hide hbel
    have HO2 := hide hown
    clear hbel hown HO HB0
    by_cases hlt : j < n
    · have hv := hg _ (getD_memV (l := l) (j := j) (by omega))
      obtain ⟨g, o, rfl, hg2, c0, c1, c2⟩ := (HH.out.below (HB.out.mono hB)).cells3 hlt
      rw [ft_at l j (by omega)] at c0 c1 c2
      have hgB : g < wr.heap.size := by omega
      have HT : Hid ((l.take (j + 1)).map (nameF ps) = (l.take j).map (nameF ps) ++ [nameF ps (l.getD j noV)]) := hide (map_take_snoc _ l (by omega))
      generalize l.getD j noV = v at *
      obtain ⟨vk, va⟩ := v
      simp only [VT.ft] at c0 c1 c2
      rw [show strOfNums [] = ⟨#[]⟩ from rfl] at c1
      rcases hv with ⟨hk, hz0⟩ | ⟨hk, hcl⟩ | hk
      · simp only at hk hz0
        subst hz0
        have HA0 := hide (At.new wr 37 [.int .i64 vk, .string ⟨#[]⟩, .int .i64 0])
        have HN : Hid (nameF ps ⟨vk, 0⟩ = ⟨vk, [], 0⟩) := hide (if_neg (by rcases hk with rfl | rfl | rfl | rfl | rfl <;> decide))
        have HO5 := hide (orow_below HO2.out (((Below.refl _ wr).alloc (Nat.le_refl _) (.cells #[.int .i64 vk, .string ⟨#[]⟩, .int .i64 0] 37)).alloc (by (first | omega | (simp only [World.size_alloc]; omega) | (simp; done) | (simp; omega))) (.cells #[.int .i64 vk, .string ⟨#[]⟩, .int .i64 0] 37)))
        have HB5 := hide ((HB.out.alloc hz (.cells #[.int .i64 vk, .string ⟨#[]⟩, .int .i64 0] 37)).alloc (by (first | omega | (simp only [World.size_alloc]; omega) | (simp; done) | (simp; omega))) (.cells #[.int .i64 vk, .string ⟨#[]⟩, .int .i64 0] 37))
        rcases hk with rfl | rfl | rfl | rfl | rfl
        all_goals
          go_wp2_with (at_builtin; refine app_vt _ rfl (.tmp 51) (.tmp 53) rfl w.heap.size _ _ _ rfl HO5.out ⟨_, [], 0⟩ _ (by (first | omega | (simp only [World.size_alloc]; omega) | (simp; done) | (simp; omega))) rfl (by omega) (by (first | omega | (simp only [World.size_alloc]; omega) | (simp; done) | (simp; omega))) ?_; intro v3 w3 hown3 hg3 hb3; have HB3 := hide (hb3 _ _ HB5.out (by (first | omega | (simp only [World.size_alloc]; omega) | (simp; done) | (simp; omega))) (Nat.le_refl _)); have HO3 := hide hown3; have hz3 := HB3.out.size; clear hown3 hg3 hb3)
          go_roundw
          case rel => exact ⟨j + 1, by omega, by go_num, by rw [HT.out, HN.out]; exact HO3.out, HB3.out⟩
          case measure => simp [intOf]; omega
      · simp only at hk hcl
        subst hk
        have HC2 := hide (HC.out va)
        have HN : Hid (nameF ps ⟨7, va⟩ = ⟨7, (classAt ps va).getD [], 0⟩) := hide (if_pos rfl)
        rw [hcl] at HC2
        generalize (classAt ps va).getD [] = nm at *
        have HA1 := hide ((At.new wr 37 [.int .i64 7, .string ⟨#[]⟩, .int .i64 va]).alloc (.cells #[.int .i64 7, .string ⟨#[]⟩, .int .i64 0] 37))
        have HA2 := hide (At.new (wr.alloc (.cells #[.int .i64 7, .string ⟨#[]⟩, .int .i64 va] 37)) 37 [.int .i64 7, .string ⟨#[]⟩, .int .i64 0])
        have HO5 := hide (orow_below HO2.out (((Below.refl _ wr).alloc (Nat.le_refl _) (.cells #[.int .i64 7, .string ⟨#[]⟩, .int .i64 va] 37)).alloc (by (first | omega | (simp only [World.size_alloc]; omega) | (simp; done) | (simp; omega))) (.cells #[.int .i64 7, .string ⟨#[]⟩, .int .i64 0] 37)))
        have HB5 := hide ((HB.out.alloc hz (.cells #[.int .i64 7, .string ⟨#[]⟩, .int .i64 va] 37)).alloc (by (first | omega | (simp only [World.size_alloc]; omega) | (simp; done) | (simp; omega))) (.cells #[.int .i64 7, .string ⟨#[]⟩, .int .i64 0] 37))
        go_wp2_with fail
        simp only [World.size_alloc] at HA2
        have hza : ((wr.alloc (.cells #[.int .i64 7, .string ⟨#[]⟩, .int .i64 va] 37)).alloc (.cells #[.int .i64 7, .string ⟨#[]⟩, .int .i64 0] 37)).heap.size = wr.heap.size + 2 := by simp
        generalize (wr.alloc (.cells #[.int .i64 7, .string ⟨#[]⟩, .int .i64 va] 37)).alloc (.cells #[.int .i64 7, .string ⟨#[]⟩, .int .i64 0] 37) = wa at *
        have HNE : Hid (some (wr.heap.size + 1) ≠ u6.ownBlock) := hide (orow_new HO2.out (Nat.le_succ _))
        generalize wr.heap.size = q at *
        have s0 : wa.cell? ⟨sb, 0, none⟩ = some (.slice Ap np cp) := (HS.out.below HB5.out hsl).cell 0
        have b2 : wa.cell? ⟨q, 2, none⟩ = some (.int .i64 va) := HA1.out.cell 2
        have hne1 : sb ≠ q + 1 := by omega
        have hne2 : q + 1 ≠ sb := by omega
        go_region_held3 (fun W => W.cell? ⟨sb, 0, none⟩ = some (.slice Ap np cp) ∧ W.cell? ⟨q, 2, none⟩ = some (.int .i64 va)) (go_keep) (first
          | (go_at_call 49; refine (HC2.out _ (by first | exact HB5.out | exact below_drewN HB5.out _)).mono ?_; rintro e w2 ⟨rfl, hb2⟩; have b3 : w2.cell? ⟨q, 2, none⟩ = some (.int .i64 va) := ((show At wa.drew q 37 _ from HA1.out).below hb2 (show q < wa.heap.size by omega)).cell 2; have s3 : w2.cell? ⟨sb, 0, none⟩ = some (.slice Ap np cp) := ((show At wa.drew sb 68 _ from HS.out.below (below_drewN HB5.out 1) hsl).below hb2 (show sb < wa.heap.size by omega)).cell 0; have f3 : w2.frozen? ⟨q + 1, 1, none⟩ = false := ((show At wa.drew (q + 1) 37 _ from HA2.out).below hb2 (show q + 1 < wa.heap.size by omega)).free 1; have e3 : w2.cell? ⟨q + 1, 1, none⟩ = some (.string ⟨#[]⟩) := ((show At wa.drew (q + 1) 37 _ from HA2.out).below hb2 (show q + 1 < wa.heap.size by omega)).cell 1))
        have HA9 := hide (((show At wa.drew (q + 1) 37 _ from HA2.out).below hb2 (show q + 1 < wa.heap.size by omega)).set 1 (.string (strOfNums nm)))
        have HO9 := hide ((orow_below (show wa.drew.ownsRow _ _ _ _ _ _ from HO5.out) hb2).kept (only_set (g := q + 1) (i := 1) (.string (strOfNums nm))) (.inr fun he => HNE.out he.symm))
        have HB9 := hide ((below_drewN HB5.out 1).trans (hb2.mono (show w.heap.size ≤ wa.heap.size by omega)) |>.setCell (p := ⟨q + 1, 1, none⟩) (by simp; omega) (.string (strOfNums nm)))
        have hz2 := hb2.size
        have hz2' : q + 2 ≤ w2.heap.size := by have : wa.drew.heap.size = wa.heap.size := rfl; omega
        clear b3 s3 f3 e3 s0 b2 hb2 HA1 HA2 HO5 HB5
        dsimp only [List.set] at HA9
        have hz5 : (w2.setCell ⟨q + 1, 1, none⟩ (.string (strOfNums nm))).heap.size = w2.heap.size := by simp
        generalize w2.setCell ⟨q + 1, 1, none⟩ (.string (strOfNums nm)) = w5 at *
        have k0 : w5.cell? ⟨q + 1, 0, none⟩ = some (.int .i64 7) := HA9.out.cell 0
        have k1 : w5.cell? ⟨q + 1, 1, none⟩ = some (.string (strOfNums nm)) := HA9.out.cell 1
        have k2 : w5.cell? ⟨q + 1, 2, none⟩ = some (.int .i64 0) := HA9.out.cell 2
        go_wp2_with (at_builtin; refine app_vt _ rfl (.tmp 51) (.tmp 53) rfl w.heap.size _ _ _ rfl HO9.out ⟨7, nm, 0⟩ _ (by (first | omega | (simp only [World.size_alloc]; omega) | (simp; done) | (simp; omega))) rfl (by omega) (by (first | omega | (simp only [World.size_alloc]; omega) | (simp; done) | (simp; omega))) ?_; intro v3 w3 hown3 hg3 hb3; have HB3 := hide (hb3 _ _ HB9.out (by (first | omega | (simp only [World.size_alloc]; omega) | (simp; done) | (simp; omega))) (Nat.le_refl _)); have HO3 := hide hown3; have hz3 := HB3.out.size; clear hown3 hg3 hb3)
        go_roundw
        case rel => exact ⟨j + 1, by omega, by go_num, by rw [HT.out, HN.out]; exact HO3.out, HB3.out⟩
        case measure => simp [intOf]; omega
      · simp only at hk
        subst hk
        have HN : Hid (nameF ps ⟨8, va⟩ = ⟨8, [], va⟩) := hide (if_neg (show ¬ ((8 : Int) = 7) by decide))
        have HO5 := hide (orow_below HO2.out (((Below.refl _ wr).alloc (Nat.le_refl _) (.cells #[.int .i64 8, .string ⟨#[]⟩, .int .i64 va] 37)).alloc (by (first | omega | (simp only [World.size_alloc]; omega) | (simp; done) | (simp; omega))) (.cells #[.int .i64 8, .string ⟨#[]⟩, .int .i64 va] 37)))
        have HB5 := hide ((HB.out.alloc hz (.cells #[.int .i64 8, .string ⟨#[]⟩, .int .i64 va] 37)).alloc (by (first | omega | (simp only [World.size_alloc]; omega) | (simp; done) | (simp; omega))) (.cells #[.int .i64 8, .string ⟨#[]⟩, .int .i64 va] 37))
        go_wp2_with (at_builtin; refine app_vt _ rfl (.tmp 51) (.tmp 53) rfl w.heap.size _ _ _ rfl HO5.out ⟨8, [], va⟩ _ (by (first | omega | (simp only [World.size_alloc]; omega) | (simp; done) | (simp; omega))) rfl (by omega) (by (first | omega | (simp only [World.size_alloc]; omega) | (simp; done) | (simp; omega))) ?_; intro v3 w3 hown3 hg3 hb3; have HB3 := hide (hb3 _ _ HB5.out (by (first | omega | (simp only [World.size_alloc]; omega) | (simp; done) | (simp; omega))) (Nat.le_refl _)); have HO3 := hide hown3; have hz3 := HB3.out.size; clear hown3 hg3 hb3)
        go_roundw
        case rel => exact ⟨j + 1, by omega, by go_num, by rw [HT.out, HN.out]; exact HO3.out, HB3.out⟩
        case measure => simp [intOf]; omega
    · obtain rfl : j = n := by omega
      have HN : Hid (l.take j = l) := hide (List.take_of_length_le (by omega))
      go_wp2_with fail
      go_ret2
      exact ⟨_, rfl, by have := HO2.out; rw [HN.out] at this; exact this, HB.out⟩
end Go.Proofs.Ytlgknednfgpgfaa
