/- MapsFrames, walked. Nothing is claimed here. -/
import Derived.Test.YtlgknednfgpgfaaMapsRead
namespace Go.Proofs.Ytlgknednfgpgfaa
open Go.RowKit

/-- A type of the locals that the statement makes. -/
def GoodE (v : FT) : Prop := ((v.kind = 0 ∨ v.kind = 1 ∨ v.kind = 5 ∨ v.kind = 4) ∧ v.name = [] ∧ v.num = 0) ∨ v = ⟨7, [113], 0⟩
theorem GoodE.bare {v : FT} (h : GoodE v) : bareF v = v := by
  obtain ⟨k, n, a⟩ := v
  rcases h with ⟨hk, hn, ha⟩ | h
  · simp only at hk hn ha
    subst hn; subst ha
    rcases hk with rfl | rfl | rfl | rfl <;> rfl
  · cases h; rfl
theorem framesF_rise {ps : List Cst} {ml ms : Nat} : ∀ (M : List Mp) (at_ : Int) (L : List FT) (l : List Fr), (∀ m ∈ M, GoodM ps m) → framesF ps ml ms M at_ L = some l →
    (∀ x ∈ l, at_ < x.at_ ∧ wordsF x.stack ≤ ms ∧ ∀ v ∈ x.stack, v.kind ≠ 99) ∧ l.Pairwise (fun a b => a.at_ < b.at_) ∧ l.length = M.length := by
  intro M
  induction M with
  | nil => intro at_ L l _ h; cases h; exact ⟨fun x hx => (by cases hx), List.Pairwise.nil, rfl⟩
  | cons m r ih =>
    intro at_ L l hg h
    have hm := hg m (by simp)
    unfold framesF at h
    split at h
    · cases h
    · rename_i L' _
      split at h
      · cases h
      · rename_i hwd
        cases hr : framesF ps ml ms r (at_ + 1 + m.delta) L' with
        | none => rw [hr] at h; cases h
        | some l' =>
          rw [hr] at h
          cases h
          obtain ⟨h1, h2, h3⟩ := ih _ _ _ (fun x hx => hg x (List.mem_cons_of_mem _ hx)) hr
          have hd := hm.delta
          refine ⟨fun x hx => ?_, List.Pairwise.cons (fun x hx => ?_) h2, by simp [h3]⟩
          · rcases List.mem_cons.1 hx with rfl | hx
            · refine ⟨by simp only [frOf]; omega, by simp only [frOf]; omega, fun v hv => ?_⟩
              simp only [frOf, List.mem_map] at hv
              obtain ⟨y, hy, rfl⟩ := hv
              unfold nameF
              rcases hm.stack y hy with ⟨hk, _⟩ | ⟨hk, _⟩ | hk
              · rw [if_neg (by omega)]; simp only; omega
              · rw [if_pos hk]; exact (show ¬ ((7 : Int) = 99) by decide)
              · rw [if_neg (by omega)]; simp only; omega
            · exact ⟨by have := (h1 x hx).1; omega, (h1 x hx).2⟩
          · have := (h1 x hx).1
            simp only [frOf]; omega
theorem flat_at {α β : Type} (f : α → List β) (c : Nat) (hc : ∀ x, (f x).length = c) : ∀ (l : List α) (j i : Nat) (hj : j < l.length), i < c → (l.flatMap f)[j * c + i]? = (f l[j])[i]? := by
  intro l
  induction l with
  | nil => intro j i h; simp at h
  | cons t r ih =>
    intro j i h hi
    have hl := hc t
    cases j with
    | zero =>
      rw [List.flatMap_cons, List.getElem?_append_left (by omega)]
      simp
    | succ j =>
      rw [List.flatMap_cons, List.getElem?_append_right (by rw [hl, Nat.succ_mul]; omega), hl, show (j + 1) * c + i - c = j * c + i by rw [Nat.succ_mul]; omega]
      have := ih j i (by simpa using h) hi
      rw [this]; simp
theorem wide_rep (E : List FT) (k : Nat) : wideF 0 (E ++ List.replicate k noF) = wideF 0 E ++ List.replicate k noF := by
  rw [wideF_app]
  congr 1
  induction k with
  | zero => rfl
  | succ k ih => rw [List.replicate_succ, show noF :: List.replicate k noF = [noF] ++ List.replicate k noF from rfl, wideF_app, ih]; rfl
theorem kind_cases (x : Int) : ∃ k : Nat, (x.tmod 5 + 5).tmod 5 = k ∧ k < 5 := by
  have h1 := Int.lt_tmod_of_pos x (show (0 : Int) < 5 by decide)
  have h2 := Int.tmod_lt_of_pos x (show (0 : Int) < 5 by decide)
  have h3 : 0 ≤ (x.tmod 5 + 5).tmod 5 := Int.tmod_nonneg _ (by omega)
  have h4 := Int.tmod_lt_of_pos (x.tmod 5 + 5) (show (0 : Int) < 5 by decide)
  exact ⟨((x.tmod 5 + 5).tmod 5).toNat, by omega, by omega⟩

set_option maxHeartbeats 8000000 in
set_option maxRecDepth 100000 in
theorem MapsFrames_walk (a0 : Option Addr) (len0 cap0 : Nat) (z0 : List Int) (a1 : Option Addr) (len1 cap1 : Nat) (z1 : List Int) (a2 a3 : Int) (w : World) (w0 : Came .i64 w a0 len0 cap0 z0) (w1 : Came .u8 w a1 len1 cap1 z1)
    (_ : (Lit.int .i64 a2).wf = true) (_ : (Lit.int .i64 a3).wf = true) :
    Calls Try.prog 4 #[.slice a0 len0 cap0, .slice a1 len1 cap1, .int .i64 a2, .int .i64 a3] w fun e w' => e = .returned (.bool true) ∧ Below w.heap.size w w' := by
  have hlc : len1 ≤ cap1 := by rcases w1 with ⟨_, h, _⟩ | ⟨_, _, h, _⟩ <;> omega
  have hcm : cap1 ≤ maxLen := by rcases w1 with ⟨_, _, h, _⟩ | ⟨_, _, _, h, _⟩; (subst h; exact Nat.zero_le _); exact h
  have hlc0 : len0 ≤ maxLen := by rcases w0 with ⟨_, h, _⟩ | ⟨_, _, h, h2, _⟩; (subst h; exact Nat.zero_le _); (exact Nat.le_trans h h2)
  have hnil : a1 = none → len1 = 0 := by rcases w1 with ⟨_, h, _⟩ | ⟨x, h, _⟩; (intro _; exact h); (intro h2; rw [h] at h2; cases h2)
  have W1 := hide w1
  have HZ := hide (came_cells w0 len0 (Nat.le_refl _))
  have HWf := hide (came_wf w0)
  clear w0 w1
  by_cases hout : a2 < 0 ∨ 12 < a2 ∨ a3 < 0 ∨ 8 < a3
  · have hout' : a2 < 0 ∨ (¬ a2 < 0 ∧ 12 < a2) ∨ (¬ a2 < 0 ∧ ¬ 12 < a2 ∧ a3 < 0) ∨ (¬ a2 < 0 ∧ ¬ 12 < a2 ∧ ¬ a3 < 0 ∧ 8 < a3) := by omega
    clear hout
    rcases hout' with h1 | ⟨h1, h2⟩ | ⟨h1, h2, h3⟩ | ⟨h1, h2, h3, h4⟩
    all_goals
      go_enter Try.func4, Try.ntmps4
      go_wp2_with fail
      refine (mbegun_any w).mono ?_
      rintro e w1 ⟨rfl, hb1⟩
      have HB1 := hide hb1
      clear hb1
      go_wp2_with fail
      go_ret
      exact ⟨rfl, HB1.out⟩
  obtain ⟨lo, rfl⟩ : ∃ n : Nat, a2 = n := ⟨a2.toNat, by omega⟩
  obtain ⟨so, rfl⟩ : ∃ n : Nat, a3 = n := ⟨a3.toNat, by omega⟩
  have g1 : ¬ (lo : Int) < 0 := by omega
  have g2 : ¬ (12 : Int) < lo := by omega
  have g3 : ¬ (so : Int) < 0 := by omega
  have g4 : ¬ (8 : Int) < so := by omega
  have hlo : lo ≤ 12 := by omega
  have hso : so ≤ 8 := by omega
  clear hout
  obtain ⟨L, hL⟩ : ∃ L, L = min len1 300 := ⟨_, rfl⟩
  have hL1 : L ≤ 300 := by omega
  have hL2 : L ≤ len1 := by omega
  have HS : Hid (∀ W, Calls Try.prog 6 #[.slice a1 len1 cap1, .int .i64 300] W fun e w' => e = .returned (.slice a1 L cap1) ∧ W = w') := hide fun W => by
    have := short_any a1 len1 cap1 300 W hlc hnil (by omega) hcm
    rwa [show min len1 (Int.toNat 300) = L from hL.symm] at this
  have hm := hcm
  unfold maxLen at hm hlc0
  clear hL hcm
  obtain ⟨xs, hxs⟩ : ∃ xs, xs = z1.take L := ⟨_, rfl⟩
  have Hrd : Hid (Rd w w.heap.size a1 L (bys xs)) := by rw [hxs]; exact came_rd W1.out L (by omega)
  have HX : Hid (IsBytes xs) := by rw [hxs]; exact (came_bytes W1.out).take _
  clear hxs W1
  have HP := hide mpool_any
  go_enter Try.func4, Try.ntmps4
  go_wp2_with fail
  refine (mbegun_any w).mono ?_
  rintro e w1 ⟨rfl, hb1⟩
  have HB1 := hide hb1
  clear hb1
  go_wp2_with fail
  refine (HS.out _).mono ?_
  rintro e w2 ⟨rfl, rfl⟩
  go_wp2_with fail
  refine (HP.out _).mono ?_
  rintro e w2 ⟨A2, rfl, hp2, hb2⟩
  have HB2 := hide (HB1.out.trans (hb2.mono HB1.out.size))
  have HR := hide (rMaps_any a1 L cap1 xs A2 5 5 mPool w2 ((Hrd.out.below HB2.out).more HB2.out.size) (by omega) (by omega) HX.out hp2)
  clear hp2 hb2
  go_wp2_with fail
  refine HR.out.mono ?_
  rintro e w3 ⟨hm3, hb3⟩
  have HB3 := hide (HB2.out.trans (hb3.mono HB2.out.size))
  cases hI : mapsI xs mPool with
  | none =>
    rw [hI] at hm3
    subst hm3
    clear hb3 HR
    go_wp2_with fail
    go_ret
    exact ⟨rfl, HB3.out⟩
  | some l =>
    rw [hI] at hm3
    obtain ⟨V1, M, rfl, hM, hown1, hrows1⟩ := hm3
    obtain ⟨A1, c1, rfl, hmap1⟩ := maps_at hown1 hrows1
    have HM3 := hide hmap1
    have hlen : M.length = l.length := by rw [← hM, List.length_map]
    have hbig := (mapsI_good HX.out hI).1
    have HG := hide (mapsI_good HX.out hI).2
    have HMl := hide hM
    clear hb3 HR hown1 hrows1 hmap1 hM
    rw [hlen]
    generalize hn : l.length = n at *
    go_upto_block 0 with fail
    go_cut [12, 13] (fun s12 s13 wx => ∃ (E : List FT) (VA : Option Addr) (VC : Nat), s12 = .slice VA (wordsF E) VC ∧ (∀ x ∈ E, GoodE x) ∧ wordsF E ≤ lo + 1 ∧ wx.ownsRow w3.heap.size 37 3 (.slice VA (wordsF E) VC) (wordsF E) (fcells (wideF 0 E)) ∧ Below w3.heap.size w3 wx)
    case first =>
      go_wp2_with fail
      go_loopw [12, 13] (fun v iv wr => ∃ (j : Nat) (E : List FT), j ≤ len0 ∧ iv = .int .i64 j ∧ (∀ x ∈ E, GoodE x) ∧ wordsF E ≤ lo + 1 ∧ wr.ownsRow w3.heap.size 37 3 v (wordsF E) (fcells (wideF 0 E)) ∧ Below w3.heap.size w3 wr) (fun _ iv _ => len0 - (intOf iv).toNat)
      case atStart => exact ⟨0, [], Nat.zero_le _, rfl, fun x hx => (by cases hx), by simp [wordsF, wideF], World.ownsRow_nil _ _ _ _, Below.refl _ _⟩
      case round =>
        obtain ⟨j, E, hj, rfl, hE, hw, hown, hbel⟩ := hrel
        have hz := hbel.size
        have HB := hide hbel
        have HO := hide hown
        have HE := hide hE
        clear hbel hown hE
        obtain ⟨VA, VC, rfl⟩ := len_own HO.out
        by_cases hlt : j < len0 ∧ wordsF E < lo
        · obtain ⟨hlt, hlt2⟩ := hlt
          have hlt2' : (wordsF E : Int) < lo := by omega
          obtain ⟨g, o, rfl, hg, c0⟩ := cells_at (HZ.out.below (HB3.out.trans (HB.out.mono HB3.out.size))) hlt
          have hgB : g < wr.heap.size := by have := HB3.out.size; omega
          generalize (z0.take len0).getD j 0 = x at *
          obtain ⟨k, hk, hk5⟩ := kind_cases x
          have hx1 := Int.lt_tmod_of_pos x (show (0 : Int) < 5 by decide)
          have hx2 := Int.tmod_lt_of_pos x (show (0 : Int) < 5 by decide)
          obtain rfl | rfl | rfl | rfl | rfl : k = 0 ∨ k = 1 ∨ k = 2 ∨ k = 3 ∨ k = 4 := by omega
          · have HK5 := hide ((Below.refl wr.heap.size wr).alloc (Nat.le_refl _) (.cells #[.int .i64 0, .int .i64 1, .int .i64 5, .int .i64 7, .int .i64 4] 3))
            have HA := hide (At.new (wr.alloc (.cells #[.int .i64 0, .int .i64 1, .int .i64 5, .int .i64 7, .int .i64 4] 3)) 37 [.int .i64 0, .string ⟨#[]⟩, .int .i64 0])
            have HKA := hide (HK5.out.alloc HK5.out.size (.cells #[.int .i64 0, .string ⟨#[]⟩, .int .i64 0] 37))
            have HOA := hide (orow_below HO.out HKA.out)
            have HBA := hide (HB.out.trans (HKA.out.mono hz))
            have HN : Hid (some (wr.heap.size + 1) ≠ (Value.slice VA (wordsF E) VC).ownBlock) := hide (orow_new HO.out (Nat.le_succ _))
            simp only [World.size_alloc] at HA
            go_wp2_with (first
              | (at_builtin; refine app_vt _ rfl (.tmp 77) (.tmp 79) rfl w3.heap.size _ _ _ rfl HOA.out ⟨0, [], 0⟩ _ (by (first | omega | (simp only [World.size_alloc]; omega) | (simp; done) | (simp; omega))) rfl (by omega) (by (first | omega | (simp only [World.size_alloc]; omega) | (simp; done) | (simp; omega))) ?_; intro v2 w4 hown4 hg4 hb4; have HO4 := hide hown4; have HB4 := hide (hb4 _ _ HBA.out (by (first | omega | (simp only [World.size_alloc]; omega) | (simp; done) | (simp; omega))) (Nat.le_refl _)); have hz4 := HB4.out.size; have e0 : w4.cell? ⟨wr.heap.size + 1, 0, none⟩ = some (.int .i64 0) := (HA.out.grown hg4 HN.out).cell 0; clear hown4 hg4 hb4))
            go_roundw
            case rel => exact ⟨j + 1, E ++ [⟨0, [], 0⟩], by omega, by go_num, fun y hy => (by
                rcases List.mem_append.1 hy with hy | hy
                · exact HE.out y hy
                · obtain rfl := List.mem_singleton.1 hy
                  exact .inl ⟨by simp, rfl, rfl⟩), by rw [wordsF_app, wordsF_one]; simp; omega, by rw [wordsF_app, wordsF_one, wideF_app, wideF_one]; exact HO4.out, HB4.out⟩
            case measure => simp [intOf]; omega
          · have HK5 := hide ((Below.refl wr.heap.size wr).alloc (Nat.le_refl _) (.cells #[.int .i64 0, .int .i64 1, .int .i64 5, .int .i64 7, .int .i64 4] 3))
            have HA := hide (At.new (wr.alloc (.cells #[.int .i64 0, .int .i64 1, .int .i64 5, .int .i64 7, .int .i64 4] 3)) 37 [.int .i64 1, .string ⟨#[]⟩, .int .i64 0])
            have HKA := hide (HK5.out.alloc HK5.out.size (.cells #[.int .i64 1, .string ⟨#[]⟩, .int .i64 0] 37))
            have HOA := hide (orow_below HO.out HKA.out)
            have HBA := hide (HB.out.trans (HKA.out.mono hz))
            have HN : Hid (some (wr.heap.size + 1) ≠ (Value.slice VA (wordsF E) VC).ownBlock) := hide (orow_new HO.out (Nat.le_succ _))
            simp only [World.size_alloc] at HA
            go_wp2_with (first
              | (at_builtin; refine app_vt _ rfl (.tmp 77) (.tmp 79) rfl w3.heap.size _ _ _ rfl HOA.out ⟨1, [], 0⟩ _ (by (first | omega | (simp only [World.size_alloc]; omega) | (simp; done) | (simp; omega))) rfl (by omega) (by (first | omega | (simp only [World.size_alloc]; omega) | (simp; done) | (simp; omega))) ?_; intro v2 w4 hown4 hg4 hb4; have HO4 := hide hown4; have HB4 := hide (hb4 _ _ HBA.out (by (first | omega | (simp only [World.size_alloc]; omega) | (simp; done) | (simp; omega))) (Nat.le_refl _)); have hz4 := HB4.out.size; have e0 : w4.cell? ⟨wr.heap.size + 1, 0, none⟩ = some (.int .i64 1) := (HA.out.grown hg4 HN.out).cell 0; clear hown4 hg4 hb4))
            go_roundw
            case rel => exact ⟨j + 1, E ++ [⟨1, [], 0⟩], by omega, by go_num, fun y hy => (by
                rcases List.mem_append.1 hy with hy | hy
                · exact HE.out y hy
                · obtain rfl := List.mem_singleton.1 hy
                  exact .inl ⟨by simp, rfl, rfl⟩), by rw [wordsF_app, wordsF_one]; simp; omega, by rw [wordsF_app, wordsF_one, wideF_app, wideF_one]; exact HO4.out, HB4.out⟩
            case measure => simp [intOf]; omega
          · have HK5 := hide ((Below.refl wr.heap.size wr).alloc (Nat.le_refl _) (.cells #[.int .i64 0, .int .i64 1, .int .i64 5, .int .i64 7, .int .i64 4] 3))
            have HA := hide (At.new (wr.alloc (.cells #[.int .i64 0, .int .i64 1, .int .i64 5, .int .i64 7, .int .i64 4] 3)) 37 [.int .i64 5, .string ⟨#[]⟩, .int .i64 0])
            have HKA := hide (HK5.out.alloc HK5.out.size (.cells #[.int .i64 5, .string ⟨#[]⟩, .int .i64 0] 37))
            have HOA := hide (orow_below HO.out HKA.out)
            have HBA := hide (HB.out.trans (HKA.out.mono hz))
            have HN : Hid (some (wr.heap.size + 1) ≠ (Value.slice VA (wordsF E) VC).ownBlock) := hide (orow_new HO.out (Nat.le_succ _))
            simp only [World.size_alloc] at HA
            go_wp2_with (first
              | (at_builtin; refine app_vt _ rfl (.tmp 77) (.tmp 79) rfl w3.heap.size _ _ _ rfl HOA.out ⟨5, [], 0⟩ _ (by (first | omega | (simp only [World.size_alloc]; omega) | (simp; done) | (simp; omega))) rfl (by omega) (by (first | omega | (simp only [World.size_alloc]; omega) | (simp; done) | (simp; omega))) ?_; intro v2 w4 hown4 hg4 hb4; have HO4 := hide hown4; have HB4 := hide (hb4 _ _ HBA.out (by (first | omega | (simp only [World.size_alloc]; omega) | (simp; done) | (simp; omega))) (Nat.le_refl _)); have hz4 := HB4.out.size; have e0 : w4.cell? ⟨wr.heap.size + 1, 0, none⟩ = some (.int .i64 5) := (HA.out.grown hg4 HN.out).cell 0; clear hown4 hg4 hb4))
            go_roundw
            case rel => exact ⟨j + 1, E ++ [⟨5, [], 0⟩], by omega, by go_num, fun y hy => (by
                rcases List.mem_append.1 hy with hy | hy
                · exact HE.out y hy
                · obtain rfl := List.mem_singleton.1 hy
                  exact .inl ⟨by simp, rfl, rfl⟩), by rw [wordsF_app, wordsF_one]; simp; omega, by rw [wordsF_app, wordsF_one, wideF_app, wideF_one]; exact HO4.out, HB4.out⟩
            case measure => simp [intOf]; omega
          · have HK5 := hide ((Below.refl wr.heap.size wr).alloc (Nat.le_refl _) (.cells #[.int .i64 0, .int .i64 1, .int .i64 5, .int .i64 7, .int .i64 4] 3))
            have HA := hide (At.new (wr.alloc (.cells #[.int .i64 0, .int .i64 1, .int .i64 5, .int .i64 7, .int .i64 4] 3)) 37 [.int .i64 7, .string ⟨#[113]⟩, .int .i64 0])
            have HKA := hide (HK5.out.alloc HK5.out.size (.cells #[.int .i64 7, .string ⟨#[113]⟩, .int .i64 0] 37))
            have HOA := hide (orow_below HO.out HKA.out)
            have HBA := hide (HB.out.trans (HKA.out.mono hz))
            have HN : Hid (some (wr.heap.size + 1) ≠ (Value.slice VA (wordsF E) VC).ownBlock) := hide (orow_new HO.out (Nat.le_succ _))
            simp only [World.size_alloc] at HA
            go_wp2_with (first
              | (at_builtin; refine app_vt _ rfl (.tmp 77) (.tmp 79) rfl w3.heap.size _ _ _ rfl HOA.out ⟨7, [113], 0⟩ _ (by (first | omega | (simp only [World.size_alloc]; omega) | (simp; done) | (simp; omega))) rfl (by omega) (by (first | omega | (simp only [World.size_alloc]; omega) | (simp; done) | (simp; omega))) ?_; intro v2 w4 hown4 hg4 hb4; have HO4 := hide hown4; have HB4 := hide (hb4 _ _ HBA.out (by (first | omega | (simp only [World.size_alloc]; omega) | (simp; done) | (simp; omega))) (Nat.le_refl _)); have hz4 := HB4.out.size; have e0 : w4.cell? ⟨wr.heap.size + 1, 0, none⟩ = some (.int .i64 7) := (HA.out.grown hg4 HN.out).cell 0; clear hown4 hg4 hb4))
            go_roundw
            case rel => exact ⟨j + 1, E ++ [⟨7, [113], 0⟩], by omega, by go_num, fun y hy => (by
                rcases List.mem_append.1 hy with hy | hy
                · exact HE.out y hy
                · obtain rfl := List.mem_singleton.1 hy
                  exact .inr rfl), by rw [wordsF_app, wordsF_one]; simp; omega, by rw [wordsF_app, wordsF_one, wideF_app, wideF_one]; exact HO4.out, HB4.out⟩
            case measure => simp [intOf]; omega
          · have HK5 := hide ((Below.refl wr.heap.size wr).alloc (Nat.le_refl _) (.cells #[.int .i64 0, .int .i64 1, .int .i64 5, .int .i64 7, .int .i64 4] 3))
            have HA := hide (At.new (wr.alloc (.cells #[.int .i64 0, .int .i64 1, .int .i64 5, .int .i64 7, .int .i64 4] 3)) 37 [.int .i64 4, .string ⟨#[]⟩, .int .i64 0])
            have HKA := hide (HK5.out.alloc HK5.out.size (.cells #[.int .i64 4, .string ⟨#[]⟩, .int .i64 0] 37))
            have HOA := hide (orow_below HO.out HKA.out)
            have HBA := hide (HB.out.trans (HKA.out.mono hz))
            have HN : Hid (some (wr.heap.size + 1) ≠ (Value.slice VA (wordsF E) VC).ownBlock) := hide (orow_new HO.out (Nat.le_succ _))
            simp only [World.size_alloc] at HA
            go_wp2_with (first
              | (at_builtin; refine app_vt _ rfl (.tmp 77) (.tmp 79) rfl w3.heap.size _ _ _ rfl HOA.out ⟨4, [], 0⟩ _ (by (first | omega | (simp only [World.size_alloc]; omega) | (simp; done) | (simp; omega))) rfl (by omega) (by (first | omega | (simp only [World.size_alloc]; omega) | (simp; done) | (simp; omega))) ?_; intro v2 w4 hown4 hg4 hb4; have HO4 := hide hown4; have HB4 := hide (hb4 _ _ HBA.out (by (first | omega | (simp only [World.size_alloc]; omega) | (simp; done) | (simp; omega))) (Nat.le_refl _)); have hz4 := HB4.out.size; have e0 : w4.cell? ⟨wr.heap.size + 1, 0, none⟩ = some (.int .i64 4) := (HA.out.grown hg4 HN.out).cell 0; clear hown4 hg4 hb4)
              | (at_builtin; refine app_vt _ rfl (.tmp 84) (.tmp 86) rfl w3.heap.size _ _ _ rfl HO4.out noF _ (by (first | omega | (simp only [World.size_alloc]; omega) | (simp; done) | (simp; omega))) rfl (by omega) (by (first | omega | (simp only [World.size_alloc]; omega) | (simp; done) | (simp; omega))) ?_; intro v5 w5 hown5 hg5 hb5; have HO5 := hide hown5; have HB5 := hide (hb5 _ _ HB4.out (by (first | omega | (simp only [World.size_alloc]; omega) | (simp; done) | (simp; omega))) (Nat.le_refl _)); clear hown5 hg5 hb5))
            go_roundw
            case rel => exact ⟨j + 1, E ++ [⟨4, [], 0⟩], by omega, by go_num, fun y hy => (by
                rcases List.mem_append.1 hy with hy | hy
                · exact HE.out y hy
                · obtain rfl := List.mem_singleton.1 hy
                  exact .inl ⟨by simp, rfl, rfl⟩), by rw [wordsF_app, wordsF_one]; simp; omega, by rw [wordsF_app, wordsF_one, wideF_app, wideF_one]; have := HO5.out; rw [List.append_assoc] at this; exact this, HB5.out⟩
            case measure => simp [intOf]; omega
        · rcases (by omega : ¬ j < len0 ∨ (j < len0 ∧ ¬ wordsF E < lo)) with h1 | ⟨h1, h2⟩
          · clear hlt
            go_wp2_with fail
            go_meet
            case rel => exact ⟨E, VA, VC, rfl, HE.out, hw, HO.out, HB.out⟩
          · have h2' : ¬ (wordsF E : Int) < lo := by omega
            clear hlt
            go_wp2_with fail
            go_meet
            case rel => exact ⟨E, VA, VC, rfl, HE.out, hw, HO.out, HB.out⟩
    case rest =>
      obtain ⟨E, VA, VC, rfl, hE, hwE, hown, hbel⟩ := hcut
      have HE := hide hE
      have HO := hide hown
      have HB := hide (HB3.out.trans (hbel.mono HB3.out.size))
      have HM4 : Hid (MapsAt wc w3.heap.size A1 n M) := hide (by have := HM3.out.below hbel; rwa [hlen] at this)
      have hz4 := hbel.size
      clear hE hown hbel HM3
      by_cases hbig2 : lo < wordsF E
      · have hbig2' : (lo : Int) < wordsF E := by omega
        go_wp2_with fail
        go_ret
        exact ⟨rfl, HB.out⟩
      have hbig2' : ¬ (lo : Int) < wordsF E := by omega
      go_wp2_with fail
      go_loopw [12] (fun v wr => ∃ k : Nat, wordsF E + k ≤ lo ∧ wr.ownsRow w3.heap.size 37 3 v (wordsF E + k) (fcells (wideF 0 E ++ List.replicate k noF)) ∧ Below w3.heap.size wc wr) (fun v _ => lo - vlen v)
      case atStart => exact ⟨0, by omega, by simpa using HO.out, Below.refl _ _⟩
      case round =>
        obtain ⟨k, hk, hown, hbel⟩ := hrel
        have HO2 := hide hown
        have HB2 := hide hbel
        have hz2 := hbel.size
        obtain ⟨VA2, VC2, rfl⟩ := len_own hown
        clear hown hbel HO
        by_cases hlt : wordsF E + k < lo
        · have hlt' : ((wordsF E + k : Nat) : Int) < (lo : Int) := by omega
          go_wp2_with (at_builtin; refine app_vt _ rfl (.tmp 97) (.tmp 99) rfl w3.heap.size _ _ _ rfl HO2.out noF _ (by (first | omega | (simp only [World.size_alloc]; omega) | (simp; done) | (simp; omega))) rfl (by omega) (by (first | omega | (simp only [World.size_alloc]; omega) | (simp; done) | (simp; omega))) ?_; intro v4 w4 hown4 hg4 hb4; have HO4 := hide hown4; have HB4 := hide (hb4 _ _ HB2.out (by (first | omega | (simp only [World.size_alloc]; omega) | (simp; done) | (simp; omega))) (Nat.le_refl _)); clear hg4 hb4)
          go_roundw
          case rel => exact ⟨k + 1, by omega, by have := HO4.out; rw [List.append_assoc, ← List.replicate_succ'] at this; exact this, HB4.out⟩
          case measure =>
            obtain ⟨VA', VC', rfl⟩ := len_own hown4
            simp [vlen]; omega
        · have hlt' : ¬ ((wordsF E + k : Nat) : Int) < (lo : Int) := by omega
          have hkl : wordsF E + k = lo := by omega
          have hEg : ∀ v ∈ E ++ List.replicate k noF, bareF v = v := fun v hv => by
            rcases List.mem_append.1 hv with hv | hv
            · exact (HE.out v hv).bare
            · rw [List.eq_of_mem_replicate hv]; rfl
          have hEd := hide hEg
          have hown := HO2.out
          rw [← wide_rep, hkl] at hown
          have hEl : (wideF 0 (E ++ List.replicate k noF)).length = lo := by rw [wide_rep, List.length_append, wideF_len, List.length_replicate]; omega
          obtain ⟨A9, C9, he9, hrd9, -, -⟩ := orow_rdF hown hEl
          cases he9
          rw [hkl]
          generalize E ++ List.replicate k noF = E' at *
          have HRD := hide hrd9
          have HM5 := hide (HM4.out.below HB2.out)
          have HB5 := hide (HB.out.trans (HB2.out.mono HB3.out.size))
          have hgM : ∀ x ∈ M, GoodM mPool x.1 := fun x hx => HG.out _ (by rw [← HMl.out]; exact List.mem_map_of_mem hx)
          have HGM := hide hgM
          have hz5 : M.length = n := HM5.out.len
          have hz35 : w3.heap.size ≤ wr.heap.size := by omega
          clear hown hrd9 HO2 HB HM4 hEg hEl hkl hk hlt hgM HE hbig2 hbig2'
          go_wp2_with fail
          refine (HP.out _).mono ?_
          rintro e w6 ⟨A6, rfl, hp6, hb6⟩
          have hz6 := hb6.size
          have HRf := hide (rfMaps_any VA2 lo VC2 (.slice none 0 0) A1 n c1 A6 5 5 lo so E' M mPool w6 ((HRD.out.below hb6).mono hz6) (by omega) ((HM5.out.below (hb6.mono (by omega))).mono' (by omega)) (by omega) HGM.out hp6 (by omega) none 0 0 rfl)
          have HRD6 := hide (HRD.out.below hb6)
          have HM6 := hide (HM5.out.below (hb6.mono (by omega)))
          have HB6 := hide (HB5.out.trans (hb6.mono HB5.out.size))
          clear hp6 hb6 HRD HM5
          go_wp2_with fail
          refine HRf.out.mono ?_
          rintro e w7 ⟨hr7, hb7⟩
          have hz7 := hb7.size
          have HRD7 := hide (HRD6.out.below (hb7.mono hz6))
          have HM7 := hide (HM6.out.below (hb7.mono (by omega)))
          have HB7 := hide (HB6.out.trans (hb7.mono HB6.out.size))
          clear hb7 HRf HRD6 HM6
          cases hfr : framesF mPool lo so (M.map Prod.fst) (-1) (cutF E') with
          | none =>
            rw [hfr] at hr7
            subst hr7
            go_wp2_with fail
            go_loopw [17, 18] (fun ov iv wr => ov = .bool false ∧ iv = .int .i64 1 ∧ wr = w7) (fun _ _ _ => 0)
            case atStart => exact ⟨rfl, rfl, rfl⟩
            case round =>
              obtain ⟨rfl, rfl, rfl⟩ := hrel
              go_wp2_with fail
              refine (HP.out _).mono ?_
              rintro e w8 ⟨A8, rfl, hp8, hb8⟩
              have hz8 := hb8.size
              have HFr := hide (smFrames_any 0 VA2 lo VC2 (.slice none 0 0) A1 n c1 A8 5 5 lo so E' M mPool w8 hEd.out ((HRD7.out.below (hb8.mono (by omega))).mono (by omega)) (by omega) ((HM7.out.below (hb8.mono (by omega))).mono' (by omega)) (by omega) HGM.out hp8 (by omega) none 0 0 rfl)
              rw [hfr] at HFr
              have HB8 := hide (HB7.out.trans (hb8.mono HB7.out.size))
              clear hp8 hb8
              go_wp2_with fail
              refine HFr.out.mono ?_
              rintro e w9 ⟨rfl, hb9⟩
              have HB9 := hide (HB8.out.trans (hb9.mono HB8.out.size))
              clear hb9 HFr
              go_wp2_with fail
              go_ret
              exact ⟨rfl, HB9.out⟩
          | some F =>
            rw [hfr] at hr7
            obtain ⟨V7, U7, Y, rfl, hY, hof, hou, hoy⟩ := hr7
            obtain ⟨hri, hpw, hlF⟩ := framesF_rise _ _ _ _ (fun m hm => by
              rw [HMl.out] at hm
              exact HG.out m hm) hfr
            obtain ⟨AF, CF, rfl⟩ := len_own hof
            obtain ⟨AU, CU, rfl⟩ := len_own hou
            have hlY : Y.length = n := by
              have h1 : Y.length = F.length := by rw [← hY, List.length_map]
              rw [h1, hlF, List.length_map]
              exact hz5
            rw [hlY] at hof hou ⊢
            have HOF := hide hof
            have HOU := hide hou
            have HOY := hide hoy
            have HYF := hide hY
            have HRI := hide hri
            have HPW := hide hpw
            have hFl : F.length = n := by rw [hlF, List.length_map]; exact hz5
            clear hof hou hoy hY hri hpw hlF
            go_wp2_with fail
            go_loopw [17, 18] (fun ov iv wr => ∃ j q : Nat, 1 ≤ j ∧ (j ≤ n ∨ j = 1) ∧ ov = .bool true ∧ iv = .int .i64 j ∧ wr = w7.drewN q) (fun _ iv _ => n - (intOf iv).toNat)
            case atStart => exact ⟨1, 0, Nat.le_refl _, .inr rfl, rfl, rfl, rfl⟩
            case round =>
              obtain ⟨j, q, hj1, hjn, rfl, rfl, rfl⟩ := hrel
              by_cases hlt : j < n
              · obtain ⟨p, rfl⟩ : ∃ p, j = p + 1 := ⟨j - 1, by omega⟩
                have hjY : p + 1 < Y.length := by omega
                have hpY : p < Y.length := by omega
                obtain ⟨gu, cu, heu, hgu, hcu⟩ := orow_cell HOU.out (by omega)
                simp only [Value.slice.injEq, true_and] at heu
                obtain ⟨rfl, rfl⟩ := heu
                have u1 : (w7.drewN q).cell? ⟨gu, p + 1, none⟩ = some (.int .i64 Y[p + 1].1.at_) := hcu _ _ (by simp [ats, hjY])
                have u0 : (w7.drewN q).cell? ⟨gu, p, none⟩ = some (.int .i64 Y[p].1.at_) := hcu _ _ (by simp [ats, hpY])
                have hY0 : Y[p].1.at_ < Y[p + 1].1.at_ := by
                  have h1 := List.pairwise_iff_getElem.1 HPW.out p (p + 1) (by omega) (by omega) (by omega)
                  have e1 : Y[p].1 = F[p] := by
                    have : (Y.map Prod.fst)[p]? = F[p]? := by rw [HYF.out]
                    simpa [hpY, show p < F.length by omega] using this
                  have e2 : Y[p + 1].1 = F[p + 1] := by
                    have : (Y.map Prod.fst)[p + 1]? = F[p + 1]? := by rw [HYF.out]
                    simpa [hjY, show p + 1 < F.length by omega] using this
                  rw [e1, e2]; exact h1
                generalize Y[p].1.at_ = y0 at *
                generalize Y[p + 1].1.at_ = y1 at *
                have hd : decide (y0 < y1) = true := by simpa using hY0
                have HDD := hide (drewN_two w7 q)
                have hs1 : ((p + 1 : Nat) : Int) - 1 = (p : Int) := by omega
                generalize hwr : w7.drewN q = wr at *
                clear hcu hY0 hwr
                go_wp2_with fail
                go_quiet (fail)
                go_wp2_with fail
                go_roundw
                case rel => exact ⟨p + 2, _, by omega, .inl (by omega), rfl, by go_num, HDD.out _⟩
                case measure => simp [intOf]; omega
              · have HB8 := hide (below_drewN (Below.refl w7.heap.size w7) q)
                have hq8 : (w7.drewN q).heap.size = w7.heap.size := rfl
                have hlt' : ¬ (j : Int) < (n : Int) := by omega
                generalize w7.drewN q = w8 at *
                go_wp2_with fail
                refine (HP.out _).mono ?_
                rintro e w9 ⟨A9, rfl, hp9, hb9⟩
                have hz9 := hb9.size
                have HB9 := hide (HB8.out.trans (hb9.mono (by omega)))
                have HFr := hide (smFrames_any 0 VA2 lo VC2 (.slice none 0 0) A1 n c1 A9 5 5 lo so E' M mPool w9 hEd.out ((HRD7.out.below (HB9.out.mono (by omega))).mono (by omega)) (by omega) ((HM7.out.below (HB9.out.mono (by omega))).mono' (by omega)) (by omega) HGM.out hp9 (by omega) none 0 0 rfl)
                rw [hfr] at HFr
                clear hp9 hb9
                go_wp2_with fail
                refine HFr.out.mono ?_
                rintro e wb ⟨⟨Vb, X, rfl, hX, hob, hox⟩, hbb⟩
                have hzb := hbb.size
                have HBb := hide (HB9.out.trans (hbb.mono (by omega)))
                obtain ⟨AX, CX, rfl⟩ := len_own hob
                have hlX : X.length = n := by rw [← hFl, ← hX, List.length_map]
                rw [hlX] at hob ⊢
                have HOX := hide hob
                have HXX := hide hox
                have HXF := hide hX
                have HOF2 := hide (orow_below HOF.out HBb.out)
                have HOU2 := hide (orow_below HOU.out HBb.out)
                have HOY2 : Hid (RRows wb w6.heap.size lo Y) := hide fun x hx => ⟨orow_below (HOY.out x hx).1 HBb.out, orow_below (HOY.out x hx).2 HBb.out⟩
                have HBt := hide (HB7.out.trans (HBb.out.mono HB7.out.size))
                clear hob hox hX hbb HFr HB8 HB9 HOF HOU HOY
                go_wp2_with fail
                go_loopw [21] (fun iv wr => ∃ i : Nat, i ≤ n ∧ iv = .int .i64 i ∧ Below wb.heap.size wb wr) (fun iv _ => n - (intOf iv).toNat)
                case atStart => exact ⟨0, Nat.zero_le _, rfl, Below.refl _ _⟩
                case round =>
                  obtain ⟨i, hi, rfl, hbel⟩ := hrel
                  by_cases hin : i < n
                  · have hz := hbel.size
                    have hiY : i < Y.length := by omega
                    have hiX : i < X.length := by omega
                    have hiF : i < F.length := by omega
                    have e1 : Y[i].1 = F[i] := by
                      have : (Y.map Prod.fst)[i]? = F[i]? := by rw [HYF.out]
                      simpa [hiY, hiF] using this
                    have e2 : X[i].1 = F[i] := by
                      have : (X.map Prod.fst)[i]? = F[i]? := by rw [HXF.out]
                      simpa [hiX, hiF] using this
                    obtain ⟨-, hws, hk99⟩ := HRI.out _ (List.getElem_mem hiF)
                    obtain ⟨gx, cx, hex, hgx, hcx⟩ := orow_cell (orow_below HOX.out hbel) (show 0 < n by omega)
                    obtain ⟨gu, cu, heu, hgu, hcu⟩ := orow_cell (orow_below HOU2.out hbel) (show 0 < n by omega)
                    obtain ⟨gf, cf, hef, hgf, hcf⟩ := orow_cell (orow_below HOF2.out hbel) (show 0 < n by omega)
                    have hgx2 : gx < wb.heap.size := by have := HOX.out.lt gx (by rw [hex]; rfl); omega
                    have hgu2 : gu < wb.heap.size := by have := HOU2.out.lt gu (by rw [heu]; rfl); omega
                    have hgf2 : gf < wb.heap.size := by have := HOF2.out.lt gf (by rw [hef]; rfl); omega
                    obtain ⟨x1, x2⟩ := HXX.out _ (List.getElem_mem hiX)
                    obtain ⟨y1, y2⟩ := HOY2.out _ (List.getElem_mem hiY)
                    rw [e2] at x1 x2
                    rw [e1] at y1 y2
                    have qx0 : wr.cell? ⟨gx, i * 3, none⟩ = some (.int .i64 F[i].at_) := hcx _ _ (by
                      have := flat_at frCV 3 (fun _ => rfl) X i 0 hiX (by omega)
                      rw [Nat.add_zero] at this
                      rw [frcells, this]; simp [frCV, e2])
                    have qx1 : wr.cell? ⟨gx, i * 3 + 1, none⟩ = some X[i].2.1 := hcx _ _ (by rw [frcells, flat_at frCV 3 (fun _ => rfl) X i 1 hiX (by omega)]; rfl)
                    have qx2 : wr.cell? ⟨gx, i * 3 + 2, none⟩ = some X[i].2.2 := hcx _ _ (by rw [frcells, flat_at frCV 3 (fun _ => rfl) X i 2 hiX (by omega)]; rfl)
                    have qf0 : wr.cell? ⟨gf, i * 2, none⟩ = some Y[i].2.1 := hcf _ _ (by
                      have := flat_at rfCV 2 (fun _ => rfl) Y i 0 hiY (by omega)
                      rw [Nat.add_zero] at this
                      rw [rfcells, this]; rfl)
                    have qf1 : wr.cell? ⟨gf, i * 2 + 1, none⟩ = some Y[i].2.2 := hcf _ _ (by rw [rfcells, flat_at rfCV 2 (fun _ => rfl) Y i 1 hiY (by omega)]; rfl)
                    have qu : wr.cell? ⟨gu, i, none⟩ = some (.int .i64 F[i].at_) := hcu _ _ (by simp [ats, hiY, e1])
                    generalize F[i] = fr at *
                    obtain ⟨fat, fl, fs⟩ := fr
                    simp only at x1 x2 y1 y2 qx0 qu hws hk99
                    have hfl : (fillF fl lo).length = lo := by have := x1.1; rw [fcells_len] at this; omega
                    obtain ⟨Aa, ca, ha, hra, -, -⟩ := orow_rdF x1 hfl
                    obtain ⟨Ab, cb, hb, hrb, -, -⟩ := orow_rdF x2 rfl
                    obtain ⟨Ac, cc, hc, hrc, -, -⟩ := orow_rdF y1 hfl
                    obtain ⟨Ad, cd, hd, hrd, -, -⟩ := orow_rdF y2 (wideF_len 99 fs)
                    rw [ha] at qx1
                    rw [hb] at qx2
                    rw [hc] at qf0
                    rw [hd] at qf1
                    rw [hex, hef, heu]
                    have HNw := hide (narrow_wide fs hk99)
                    have HVa := hide (fun W (hW : Below wb.heap.size wb W) => mvtypes_any Aa lo ca Ac cc (fillF fl lo) W wb.heap.size wb.heap.size (hra.below hW) (hrc.below hW) (by omega))
                    have HNr := hide (fun W (hW : Below wb.heap.size wb W) => rfNarrow_any Ad (wordsF fs) cd (wideF 99 fs) W wb.heap.size (hrd.below hW) hW.size (by omega))
                    have hfs : fs.length ≤ 100000 := by have := wordsF_ge fs; omega
                    have HRb := hide hrb
                    have HBw := hide hbel
                    have hin' : (i : Int) < (n : Int) := by omega
                    clear hcx hcu hcf x1 x2 y1 y2 hra hrb hrc hrd ha hb hc hd hex heu hef e1 e2 hk99 hfl hbel
                    have HQ : Hid (∀ W, Below wb.heap.size wb W → W.cell? ⟨gx, i * 3, none⟩ = some (.int .i64 fat) ∧ W.cell? ⟨gx, i * 3 + 1, none⟩ = some (.slice Aa lo ca) ∧ W.cell? ⟨gx, i * 3 + 2, none⟩ = some (.slice Ab fs.length cb) ∧ W.cell? ⟨gf, i * 2, none⟩ = some (.slice Ac lo cc) ∧ W.cell? ⟨gf, i * 2 + 1, none⟩ = some (.slice Ad (wordsF fs) cd) ∧ W.cell? ⟨gu, i, none⟩ = some (.int .i64 fat)) := hide fun W hW => by
                      have k := fun (g' : Nat) (hg' : g' < wb.heap.size) (o : Nat) => (hW.cell (p := ⟨g', o, none⟩) hg').trans (HBw.out.cell (p := ⟨g', o, none⟩) hg').symm
                      exact ⟨(k gx hgx2 _).trans qx0, (k gx hgx2 _).trans qx1, (k gx hgx2 _).trans qx2, (k gf hgf2 _).trans qf0, (k gf hgf2 _).trans qf1, (k gu hgu2 _).trans qu⟩
                    have hff : (fat != fat) = false := bne_self_eq_false fat
                    clear HP HMl HG HRD7 HM7 hEd HGM HRI HPW HOF2 HOU2 HOX HXX HOY2 HXF HYF hfr HS Hrd HX
                    go_wp2_with fail
                    go_region_held3 (fun W => W.cell? ⟨gx, i * 3, none⟩ = some (.int .i64 fat) ∧ W.cell? ⟨gx, i * 3 + 1, none⟩ = some (.slice Aa lo ca) ∧ W.cell? ⟨gx, i * 3 + 2, none⟩ = some (.slice Ab fs.length cb) ∧ W.cell? ⟨gf, i * 2, none⟩ = some (.slice Ac lo cc) ∧ W.cell? ⟨gf, i * 2 + 1, none⟩ = some (.slice Ad (wordsF fs) cd) ∧ W.cell? ⟨gu, i, none⟩ = some (.int .i64 fat)) (go_keep) (first
                      | (go_at_call 10; with_reducible refine (HVa.out _ (by repeat (first | with_reducible exact HBw.out | with_reducible refine Below.drew ?_ | with_reducible refine below_drewN ?_ _ | ((with_reducible refine Below.setCell ?_ ?hp _); case hp => simp) | ((with_reducible refine Below.alloc ?_ ?hp _); case hp => first | omega | (simp; done) | (simp; omega))))).mono ?_; rintro e w' ⟨rfl, mm, rfl⟩)
                      | (go_at_call 13; with_reducible refine (HNr.out _ (by repeat (first | with_reducible exact HBw.out | with_reducible refine Below.drew ?_ | with_reducible refine below_drewN ?_ _ | ((with_reducible refine Below.setCell ?_ ?hp _); case hp => simp) | ((with_reducible refine Below.alloc ?_ ?hp _); case hp => first | omega | (simp; done) | (simp; omega))))).mono ?_; rintro e w6' ⟨V6, rfl, ho6, hb6⟩; rw [HNw.out] at ho6; have hbt : Below wb.heap.size wb w6' := Below.trans (by repeat (first | with_reducible exact HBw.out | with_reducible refine Below.drew ?_ | with_reducible refine below_drewN ?_ _ | ((with_reducible refine Below.setCell ?_ ?hp _); case hp => simp) | ((with_reducible refine Below.alloc ?_ ?hp _); case hp => first | omega | (simp; done) | (simp; omega)))) (hb6.mono (by first | exact hz | (simp only [World.heap_drewN]; exact hz) | (simp; omega))); obtain ⟨A6', C6', rfl, hr6, -, -⟩ := orow_rdF ho6 rfl; obtain ⟨r0, r1, r2, r3, r4, r5⟩ := HQ.out w6' hbt; have hr7 := HRb.out)
                      | (go_at_call 10; with_reducible refine (mvtypes_any Ab fs.length cb A6' C6' fs _ wb.heap.size w6'.heap.size (hr7.below (by repeat (first | with_reducible exact hbt | with_reducible refine Below.drew ?_ | with_reducible refine below_drewN ?_ _ | ((with_reducible refine Below.setCell ?_ ?hp _); case hp => simp) | ((with_reducible refine Below.alloc ?_ ?hp _); case hp => first | omega | (simp; done) | (simp; omega))))) (hr6.below (by repeat (first | with_reducible exact Below.refl _ _ | with_reducible refine Below.drew ?_ | with_reducible refine below_drewN ?_ _ | ((with_reducible refine Below.setCell ?_ ?hp _); case hp => simp) | ((with_reducible refine Below.alloc ?_ ?hp _); case hp => first | omega | (simp; done) | (simp; omega))))) hfs).mono ?_; rintro e w' ⟨rfl, mm2, rfl⟩))
                    clear r0 r1 r2 r3 r4 r5 hr7 hr6 ho6 hb6
                    go_wp2_with fail
                    go_roundw
                    case rel => exact ⟨i + 1, by omega, by go_num, by repeat (first | with_reducible exact hbt | with_reducible refine Below.drew ?_ | with_reducible refine below_drewN ?_ _ | ((with_reducible refine Below.setCell ?_ ?hp _); case hp => simp) | ((with_reducible refine Below.alloc ?_ ?hp _); case hp => first | omega | (simp; done) | (simp; omega)))⟩
                    case measure => simp [intOf]; omega
                  · obtain rfl : i = n := by omega
                    have HBe := hide (HBt.out.trans (hbel.mono HBt.out.size))
                    go_wp2_with fail
                    go_ret
                    exact ⟨rfl, HBe.out⟩
end Go.Proofs.Ytlgknednfgpgfaa
