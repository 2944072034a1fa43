/- MapsRead, walked. Nothing is claimed here. -/
import Derived.Test.YtlgknednfgpgfaaMapsBg
namespace Go.Proofs.Ytlgknednfgpgfaa
open Go.RowKit

theorem drewN_two (w : World) (a b : Nat) : (w.drewN a).drewN b = w.drewN (a + b) := by simp [World.drewN, Nat.add_assoc]
theorem mvtypes_q {A : Option Addr} {n c : Nat} {A' : Option Addr} {c' : Nat} {l : List FT} {w : World} {B B' : Nat} (h : RdF w B A n l) (h' : RdF w B' A' n l) (hn : n ≤ 100000) (k : Nat) :
    Calls Try.prog 10 #[.slice A n c, .slice A' n c'] (w.drewN k) fun e w'' => e = .returned (.bool true) ∧ ∃ m, w'' = w.drewN m :=
  (mvtypes_any A n c A' c' l (w.drewN k) B B' (h.drewN k) (h'.drewN k) hn).mono fun _ _ ⟨he, m, hm⟩ => ⟨he, k + m, by rw [hm]; exact drewN_two w k m⟩
theorem MapsAt.drewN {w : World} {B : Nat} {A : Option Addr} {n : Nat} {M : List (Mp × Value × Value)} (h : MapsAt w B A n M) (k : Nat) : MapsAt (w.drewN k) B A n M := ⟨h.len, h.cells, h.lists⟩

set_option maxHeartbeats 8000000 in
set_option maxRecDepth 100000 in
theorem MapsRead_walk (a0 : Option Addr) (len0 cap0 : Nat) (z0 : List Int) (w : World) (w0 : Came .u8 w a0 len0 cap0 z0) :
    Calls Try.prog 3 #[.slice a0 len0 cap0] w fun e w' => e = .returned (.bool true) ∧ Below w.heap.size w w' := by
  have hlc : len0 ≤ cap0 := by rcases w0 with ⟨_, h, _⟩ | ⟨_, _, h, _⟩ <;> omega
  have hcm : cap0 ≤ maxLen := by rcases w0 with ⟨_, _, h, _⟩ | ⟨_, _, _, h, _⟩; (subst h; exact Nat.zero_le _); exact h
  have hnil : a0 = none → len0 = 0 := by rcases w0 with ⟨_, h, _⟩ | ⟨x, h, _⟩; (intro _; exact h); (intro h2; rw [h] at h2; cases h2)
  have W0 := hide w0
  clear w0
  obtain ⟨L, hL⟩ : ∃ L, L = min len0 300 := ⟨_, rfl⟩
  have hL1 : L ≤ 300 := by omega
  have hL2 : L ≤ len0 := by omega
  have HS : Hid (∀ W, Calls Try.prog 6 #[.slice a0 len0 cap0, .int .i64 300] W fun e w' => e = .returned (.slice a0 L cap0) ∧ W = w') := hide fun W => by
    have := short_any a0 len0 cap0 300 W hlc hnil (by omega) hcm
    rwa [show min len0 (Int.toNat 300) = L from hL.symm] at this
  have hm := hcm
  unfold maxLen at hm
  clear hL hcm
  obtain ⟨xs, hxs⟩ : ∃ xs, xs = z0.take L := ⟨_, rfl⟩
  have Hrd : Hid (Rd w w.heap.size a0 L (bys xs)) := by rw [hxs]; exact came_rd W0.out L (by omega)
  have HX : Hid (IsBytes xs) := by rw [hxs]; exact (came_bytes W0.out).take _
  clear hxs W0
  have HP := hide mpool_any
  go_enter Try.func3, Try.ntmps3
  go_wp2_with fail
  refine (mbegun_any w).mono ?_
  rintro e w1 ⟨rfl, hb1⟩
  have HB1 := hide hb1
  clear hb1
  go_wp2_with fail
  refine (HS.out _).mono ?_
  rintro e w2 ⟨rfl, rfl⟩
  go_wp2_with fail
  refine (HP.out _).mono ?_
  rintro e w2 ⟨A2, rfl, hp2, hb2⟩
  have HB2 := hide (HB1.out.trans (hb2.mono HB1.out.size))
  have HM := hide (smRead_any a0 L cap0 xs A2 5 5 mPool w2 w.heap.size (Hrd.out.below HB2.out) HB2.out.size (by omega) HX.out hp2)
  clear hp2 hb2
  go_wp2_with fail
  refine HM.out.mono ?_
  rintro e w3 ⟨hm3, hb3⟩
  have HM3 := hide hm3
  have HB3 := hide (HB2.out.trans (hb3.mono HB2.out.size))
  have HP4 := hide (HP.out w3)
  cases hI : mapsI xs mPool with
  | none =>
    have hm4 := HM3.out
    rw [hI] at hm4
    subst hm4
    clear hm3 hb3 HM3 HM
    go_wp2_with fail
    refine HP4.out.mono ?_
    rintro e w4 ⟨A4, rfl, hp4, hb4⟩
    have HB4 := hide (HB3.out.trans (hb4.mono HB3.out.size))
    have HR := hide (rMaps_any a0 L cap0 xs A4 5 5 mPool w4 ((Hrd.out.below HB4.out).more HB4.out.size) (by omega) (by omega) HX.out hp4)
    rw [hI] at HR
    clear hp4 hb4
    go_wp2_with fail
    refine HR.out.mono ?_
    rintro e w5 ⟨rfl, hb5⟩
    have HB5 := hide (HB4.out.trans (hb5.mono HB4.out.size))
    clear hb5 HR
    go_wp2_with fail
    go_loopw [8] (fun iv wr => iv = .int .i64 0 ∧ wr = w5) (fun _ _ => 0)
    case atStart => exact ⟨rfl, rfl⟩
    case round =>
      obtain ⟨rfl, rfl⟩ := hrel
      go_wp2_with fail
      go_ret
      exact ⟨rfl, HB5.out⟩
  | some l =>
    have hm4 := HM3.out
    rw [hI] at hm4
    obtain ⟨V1, L1, rfl, hl1, hown1, hrows1⟩ := hm4
    obtain ⟨A1, c1, rfl, hmap1⟩ := maps_at hown1 hrows1
    have HM1 := hide hmap1
    have hlen : L1.length = l.length := by rw [← hl1, List.length_map]
    have hbig := (mapsI_good HX.out hI).1
    have hgood := (mapsI_good HX.out hI).2
    clear hm3 hb3 HM3 HM hown1 hrows1 hmap1
    go_wp2_with fail
    refine HP4.out.mono ?_
    rintro e w4 ⟨A4, rfl, hp4, hb4⟩
    have HB4 := hide (HB3.out.trans (hb4.mono HB3.out.size))
    have HR := hide (rMaps_any a0 L cap0 xs A4 5 5 mPool w4 ((Hrd.out.below HB4.out).more HB4.out.size) (by omega) (by omega) HX.out hp4)
    rw [hI] at HR
    have HM14 := hide ((HM1.out.below hb4).mono' hb4.size)
    clear hp4 hb4 HM1
    go_wp2_with fail
    refine HR.out.mono ?_
    rintro e w5 ⟨⟨V2, L2, rfl, hl2, hown2, hrows2⟩, hb5⟩
    obtain ⟨A3, c3, rfl, hmap2⟩ := maps_at hown2 hrows2
    have HM5 := hide (HM14.out.below hb5)
    have HN5 := hide hmap2
    have HB5 := hide (HB4.out.trans (hb5.mono HB4.out.size))
    have hlen2 : L2.length = l.length := by rw [← hl2, List.length_map]
    have HL1 := hide hl1
    have HL2 := hide hl2
    rw [hlen] at HM5
    rw [hlen2] at HN5
    rw [hlen2]
    generalize hn : l.length = n at *
    clear hb5 HR HM14 hown2 hrows2 hmap2 hl1 hl2 HP4 HP
    go_wp2_with fail
    go_loopw [8] (fun iv wr => ∃ j q : Nat, j ≤ n ∧ iv = .int .i64 j ∧ wr = w5.drewN q) (fun iv _ => n - (intOf iv).toNat)
    case atStart => exact ⟨0, 0, Nat.zero_le _, rfl, rfl⟩
    case round =>
      obtain ⟨j, q, hj, rfl, rfl⟩ := hrel
      by_cases hlt : j < n
      · have hj1 : j < L1.length := by omega
        have hj2 : j < L2.length := by omega
        obtain ⟨g, rfl, _, c0, c1', c2, c3'⟩ := (HM5.out.drewN q).at4 hlt hj1
        obtain ⟨g', rfl, _, d0, d1, d2, d3⟩ := (HN5.out.drewN q).at4 hlt hj2
        obtain ⟨Aa, ca, Ab, cb, ha1, ha2, hra, hrb⟩ := (HM5.out.drewN q).lists _ (List.getElem_mem hj1)
        obtain ⟨Ac, cc, Ad, cd, hb1, hb2, hrc, hrd⟩ := (HN5.out.drewN q).lists _ (List.getElem_mem hj2)
        have hjl : j < l.length := by omega
        have he1 : L1[j].1 = l[j] := by
          have : (L1.map Prod.fst)[j]? = l[j]? := by rw [HL1.out]
          simpa [List.getElem?_map, hj1, hjl] using this
        have he2 : L2[j].1 = l[j] := by
          have : (L2.map Prod.fst)[j]? = l[j]? := by rw [HL2.out]
          simpa [List.getElem?_map, hj2, hjl] using this
        have hsm := (hgood _ (List.getElem_mem hjl)).small
        rw [ha1] at c2
        rw [ha2] at c3'
        rw [hb1] at d2
        rw [hb2] at d3
        rw [he1] at c0 c1' c2 c3' hra hrb
        rw [he2] at d0 d1 d2 d3 hrc hrd
        generalize l[j] = m at *
        clear ha1 ha2 hb1 hb2 he1 he2
        have HQa := hide (fun k => mvtypes_q (c := ca) (c' := cc) hra hrc (by omega) k)
        have HQb := hide (fun k => mvtypes_q (c := cb) (c' := cd) hrb hrd (by omega) k)
        have HBq := hide (below_drewN HB5.out q)
        have hdd := drewN_two w5 q
        clear hra hrb hrc hrd
        generalize hwr : w5.drewN q = wr at *
        have HWR := hide hwr
        have HDD := hide hdd
        clear hwr hdd
        go_wp2_with fail
        go_quiet ((first | (go_at_call 10; with_reducible exact HQa.out _) | (go_at_call 10; with_reducible exact HQb.out _)))
        go_wp2_with fail
        go_roundw
        case rel => exact ⟨j + 1, _, by omega, by go_num, HDD.out _⟩
        case measure => simp [intOf]; omega
      · obtain rfl : j = n := by omega
        have HB6 := hide (below_drewN HB5.out q)
        go_wp2_with fail
        go_ret
        exact ⟨rfl, HB6.out⟩
end Go.Proofs.Ytlgknednfgpgfaa
