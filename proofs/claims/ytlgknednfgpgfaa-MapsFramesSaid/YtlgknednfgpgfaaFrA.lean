/- Words of types, and locals filled up: package stackmap. Nothing is claimed here. -/
import Derived.Test.YtlgknednfgpgfaaFrSpec
import Derived.Laws.MakeOwn
namespace Go.Proofs.Ytlgknednfgpgfaa
open Go.RowKit

set_option maxRecDepth 100000 in
theorem smwords_any (A : Option Addr) (n c : Nat) (l : List FT) (w : World) (B : Nat) (h : RdF w B A n l) (hB : B ≤ w.heap.size) (hn : n ≤ 1000000) :
    Calls Try.prog 29 #[.slice A n c] w fun e w' => e = .returned (.int .i64 (wordsF l : Nat)) ∧ Below w.heap.size w w' := by
  have HH := hide h
  have hl := h.1
  clear h
  go_enter Try.func29, Try.ntmps29
  go_wp2_with fail
  go_loopw [3, 10] (fun v iv wr => ∃ j : Nat, j ≤ n ∧ iv = .int .i64 j ∧ v = .int .i64 ((n : Int) + (wordsF (l.take j) - j : Int)) ∧ Below w.heap.size w wr) (fun _ iv _ => n - (intOf iv).toNat)
  case atStart => exact ⟨0, Nat.zero_le _, rfl, by simp [wordsF, wideF], Below.refl _ _⟩
  case round =>
    obtain ⟨j, hj, rfl, rfl, hbel⟩ := hrel
    have hz := hbel.size
    have HB := hide hbel
    have h1 := wordsF_ge (l.take j)
    have h2 := wordsF_le (l.take j)
    rw [List.length_take] at h1 h2
    clear hbel
    by_cases hlt : j < n
    · have h3 := wordsF_take l j (by omega)
      obtain ⟨g, o, rfl, hg, c0, c1, c2⟩ := (HH.out.below (HB.out.mono hB)).cells3 hlt
      have H3 := hide h3
      generalize l.getD j noF = v at *
      obtain ⟨vk, vn, va⟩ := v
      simp only at c0 c1 c2
      generalize hx : wordsF (l.take j) = x at *
      clear h3
      by_cases hk : vk = 4
      · have hk' : (vk == 4) = true := by simpa using hk
        have H4 : Hid (wordsF (l.take (j + 1)) = x + 2) := hide (by rw [H3.out, if_pos hk])
        clear hx H3 hk
        go_wp2_with fail
        go_roundw
        case rel => exact ⟨j + 1, by omega, by go_num, int_eq (by rw [H4.out]; omega), by repeat (first | with_reducible exact HB.out | with_reducible refine Below.drew ?_ | with_reducible refine below_drewN ?_ _ | ((with_reducible refine Below.setCell ?_ ?hp _); case hp => simp) | ((with_reducible refine Below.alloc ?_ ?hp _); case hp => first | omega | (simp; done) | (simp; omega)))⟩
        case measure => simp [intOf]; omega
      · have hk' : (vk == 4) = false := by simpa using hk
        have H4 : Hid (wordsF (l.take (j + 1)) = x + 1) := hide (by rw [H3.out, if_neg hk])
        clear hx H3 hk
        go_wp2_with fail
        go_roundw
        case rel => exact ⟨j + 1, by omega, by go_num, int_eq (by rw [H4.out]; omega), by repeat (first | with_reducible exact HB.out | with_reducible refine Below.drew ?_ | with_reducible refine below_drewN ?_ _ | ((with_reducible refine Below.setCell ?_ ?hp _); case hp => simp) | ((with_reducible refine Below.alloc ?_ ?hp _); case hp => first | omega | (simp; done) | (simp; omega)))⟩
        case measure => simp [intOf]; omega
    · obtain rfl : j = n := by omega
      go_wp2_with fail
      go_ret
      refine ⟨?_, HB.out⟩
      rw [List.take_of_length_le (by omega)]
      exact ret_int (by omega)


/-- A new row for some types. -/
theorem make_vts (m : Nat) (hm : m ≤ 100000) (W : World) : ∃ X, (Instr.makeSlice 30 (.int .i64 0) (.int .i64 (m : Int))).run Try.prog W = .ok (.slice (some ⟨W.heap.size, 0, none⟩) 0 m) (W.alloc (.cells X 37)) ∧
    (W.alloc (.cells X 37)).ownsRow W.heap.size 37 3 (.slice (some ⟨W.heap.size, 0, none⟩) 0 m) 0 [] := by
  obtain ⟨i0, hi0, iz0, iz1, iz2⟩ := info_parts vtinfo
  have := run_make (P := Try.prog) W 30 37 i0 _ Try.underlying30 hi0 iz0 .i64 .i64 (0 : Int) (m : Int) (by omega) (by omega) (by rw [iz2]; omega) (by omega)
  rw [iz1, Int.toNat_natCast] at this
  refine ⟨_, this, rfl, .inr ⟨W.heap.size, m, _, rfl, Nat.le_refl _, heap_alloc_new W _, Nat.zero_le _, by unfold maxLen; omega, by simp [madeCells], by simp⟩⟩
theorem own_vt {w : World} {base : Nat} {v : Value} {n : Nat} {l : List FT} {t : FT} (h : w.ownsRow base 37 3 v (n + 1) (fcells l ++ t.cells)) : w.ownsRow base 37 3 v (n + 1) (fcells (l ++ [t])) := by
  rw [fcells_app, fcells_one]; exact h
theorem wide_four (v : FT) (h : v.kind = 4) (s : Int) : wide1 s v = [v, ⟨s, [], 0⟩] := if_pos h
theorem wide_other (v : FT) (h : v.kind ≠ 4) (s : Int) : wide1 s v = [v] := if_neg h
def vlen : Value → Nat
  | .slice _ n _ => n
  | _ => 0
theorem len_own {w : World} {base : Nat} {e : TypeId} {v : Value} {n size : Nat} {xs : List Value} (h : w.ownsRow base e size v n xs) : ∃ A c, v = .slice A n c := by
  obtain ⟨_, ⟨rfl, rfl⟩ | ⟨g, cap, cur, rfl, _⟩⟩ := h
  · exact ⟨_, _, rfl⟩
  · exact ⟨_, _, rfl⟩

/-- 'append(v, t)' of one type onto an own row of types. -/
theorem app_vt {ops : Array Oper} {rest : List Oper} {o : Oper} {a : Act} {Q : Exit → Act → World → Prop} (w : World) (hgd : Region.wanted o (yielded ops a.tmps) = true) (s x : Operand)
    (ho : o.op = .call { callee := .builtin .append, args := #[s, x], argTypes := #[30, 30] })
    (base : Nat) (v : Value) (n : Nat) (l : List FT) (hs : a.eval s = v) (hown : w.ownsRow base 37 3 v n (fcells l)) (t : FT) (g : Nat) (hg : g = w.heap.size) (hx : a.eval x = .slice (some ⟨g, 0, none⟩) 1 1)
    (hn : n ≤ 1000000) (hbase : base ≤ w.heap.size)
    (h : ∀ v' w', w'.ownsRow base 37 3 v' (n + 1) (fcells (l ++ [t])) → w.grownBy w' v.ownBlock → (∀ B W, Below B W w → B ≤ w.heap.size → B ≤ base → Below B W w') → wpList Try.prog ops Q rest (a.put o.dst v') w') : wpList Try.prog ops Q (o :: rest) a (w.alloc (.cells #[.int .i64 t.kind, .string (strOfNums t.name), .int .i64 t.num] 37)) := by
  obtain ⟨i0, hi0, iz0, iz1, iz2⟩ := info_parts vtinfo
  refine wpList_append_many w hgd s x 30 ho base 37 i0 _ 32 3 (by omega) Try.underlying30 hi0 iz0 iz1 iz2 rfl v n (fcells l) hs hown [.int .i64 t.kind, .string (strOfNums t.name), .int .i64 t.num] rfl g hg hx rfl (by unfold maxLen; omega) (by omega) hbase ?_
  intro v' w' h1 h2
  exact h v' w' (own_vt h1) h2 fun B W hb hB hB2 => below_orow hb hown h2 hB hB2

set_option maxHeartbeats 4000000 in
set_option maxRecDepth 100000 in
theorem smfilled_any (A : Option Addr) (n c m : Nat) (l : List FT) (w : World) (B : Nat) (h : RdF w B A n l) (hB : B ≤ w.heap.size) (hm : wordsF l ≤ m) (hmm : m ≤ 100000) :
    Calls Try.prog 30 #[.slice A n c, .int .i64 m] w fun e w' => ∃ V, e = .returned V ∧ w'.ownsRow w.heap.size 37 3 V m (fcells (fillF l m)) ∧ Below w.heap.size w w' := by
  have HH := hide h
  have hl := h.1
  have hge := wordsF_ge l
  obtain ⟨i0, hi0, iz0, iz1, iz2⟩ := info_parts vtinfo
  obtain ⟨X, hX, hO⟩ := make_vts m hmm w
  have HO := hide hO
  have HB0 := hide ((Below.refl w.heap.size w).alloc (Nat.le_refl _) (.cells X 37))
  clear h hO
  go_enter Try.func30, Try.ntmps30
  go_wp2_with fail
  generalize w.alloc (.cells X 37) = w1 at *
  have hz1 := HB0.out.size
  go_loopw [5, 12] (fun v iv wr => ∃ j : Nat, j ≤ n ∧ iv = .int .i64 j ∧ wr.ownsRow w.heap.size 37 3 v (wordsF (l.take j)) (fcells (wideF 0 (l.take j))) ∧ Below w.heap.size w wr) (fun _ iv _ => n - (intOf iv).toNat)
  case atStart => exact ⟨0, Nat.zero_le _, rfl, HO.out, HB0.out⟩
  case round =>
    obtain ⟨j, hj, rfl, hown, hbel⟩ := hrel
    have hz := hbel.size
    have HB := hide hbel
    have HO2 := hide hown
    have h4 := wordsF_take_le l j
    clear hbel hown HO HB0
    by_cases hlt : j < n
    · have h3 := wordsF_take l j (by omega)
      have h5 := wordsF_take_le l (j + 1)
      have hT := take_snoc l noF (j := j) (by omega)
      obtain ⟨g, o, rfl, hg, c0, c1, c2⟩ := (HH.out.below (HB.out.mono hB)).cells3 hlt
      have hgB : g < wr.heap.size := by omega
      have H3 := hide h3
      generalize l.getD j noF = v at *
      obtain ⟨vk, vn, va⟩ := v
      simp only at c0 c1 c2
      have HT := hide hT
      have HF : Hid (FT.cells ⟨vk, vn, va⟩ = [.int .i64 vk, .string (strOfNums vn), .int .i64 va]) := hide rfl
      generalize hx : wordsF (l.take j) = x at *
      clear h3 hT
      by_cases hk : vk = 4
      · have hk' : (vk == 4) = true := by simpa using hk
        have H4 : Hid (wordsF (l.take (j + 1)) = x + 2) := hide (by rw [H3.out, if_pos hk])
        have HW : Hid (wideF 0 (l.take (j + 1)) = wideF 0 (l.take j) ++ [⟨vk, vn, va⟩] ++ [noF]) := hide (by rw [HT.out, wideF_app, wideF_one, wide_four _ hk, List.append_assoc]; rfl)
        have h6 : x + 2 ≤ 100000 := by have := H4.out; omega
        clear hx H3 hk HT h5
        have HA : Hid (∀ W, (wr.alloc (.cells #[.int .i64 vk, .string (strOfNums vn), .int .i64 va] 37)).grownBy W u5.ownBlock → W.cell? ⟨wr.heap.size, 0, none⟩ = some (.int .i64 vk)) := hide fun W hW => by
          have := ((At.new wr 37 [.int .i64 vk, .string (strOfNums vn), .int .i64 va]).grown hW (orow_new HO2.out (Nat.le_refl _))).cell 0
          exact this
        go_wp2_with (first
          | (at_builtin; refine app_vt _ rfl (.tmp 16) (.tmp 18) rfl w.heap.size _ _ _ rfl (orow_below HO2.out ((Below.refl _ wr).alloc (Nat.le_refl _) (.cells #[.int .i64 vk, .string (strOfNums vn), .int .i64 va] 37))) ⟨vk, vn, va⟩ _ (by (first | omega | (simp only [World.size_alloc]; omega) | (simp; done) | (simp; omega))) rfl (by omega) (by (first | omega | (simp only [World.size_alloc]; omega) | (simp; done) | (simp; omega))) ?_; intro v2 w3 hown3 hg3 hb3; have a0 := HA.out _ hg3; have HO3 := hide hown3; have HB3 := hide (hb3 _ _ (HB.out.alloc hz (.cells #[.int .i64 vk, .string (strOfNums vn), .int .i64 va] 37)) (by (first | omega | (simp only [World.size_alloc]; omega) | (simp; done) | (simp; omega))) (Nat.le_refl _)); have hz3 := HB3.out.size; clear hown3 hg3 hb3)
          | (at_builtin; refine app_vt _ rfl (.tmp 23) (.tmp 25) rfl w.heap.size _ _ _ rfl HO3.out noF _ (by (first | omega | (simp only [World.size_alloc]; omega) | (simp; done) | (simp; omega))) rfl (by omega) (by (first | omega | (simp only [World.size_alloc]; omega) | (simp; done) | (simp; omega))) ?_; intro v4 w4 hown4 hg4 hb4; have HO4 := hide hown4; have HB4 := hide (hb4 _ _ HB3.out (by (first | omega | (simp only [World.size_alloc]; omega) | (simp; done) | (simp; omega))) (Nat.le_refl _)); have hz4 := HB4.out.size; clear hown4 hg4 hb4))
        go_roundw
        case rel => exact ⟨j + 1, by omega, by go_num, by rw [HW.out, H4.out]; exact HO4.out, HB4.out⟩
        case measure => simp [intOf]; omega
      · have hk' : (vk == 4) = false := by simpa using hk
        have H4 : Hid (wordsF (l.take (j + 1)) = x + 1) := hide (by rw [H3.out, if_neg hk])
        have HW : Hid (wideF 0 (l.take (j + 1)) = wideF 0 (l.take j) ++ [⟨vk, vn, va⟩]) := hide (by rw [HT.out, wideF_app, wideF_one, wide_other _ hk])
        have h6 : x + 1 ≤ 100000 := by have := H4.out; omega
        clear hx H3 hk HT h5
        have HA : Hid (∀ W, (wr.alloc (.cells #[.int .i64 vk, .string (strOfNums vn), .int .i64 va] 37)).grownBy W u5.ownBlock → W.cell? ⟨wr.heap.size, 0, none⟩ = some (.int .i64 vk)) := hide fun W hW => by
          have := ((At.new wr 37 [.int .i64 vk, .string (strOfNums vn), .int .i64 va]).grown hW (orow_new HO2.out (Nat.le_refl _))).cell 0
          exact this
        go_wp2_with (first
          | (at_builtin; refine app_vt _ rfl (.tmp 16) (.tmp 18) rfl w.heap.size _ _ _ rfl (orow_below HO2.out ((Below.refl _ wr).alloc (Nat.le_refl _) (.cells #[.int .i64 vk, .string (strOfNums vn), .int .i64 va] 37))) ⟨vk, vn, va⟩ _ (by (first | omega | (simp only [World.size_alloc]; omega) | (simp; done) | (simp; omega))) rfl (by omega) (by (first | omega | (simp only [World.size_alloc]; omega) | (simp; done) | (simp; omega))) ?_; intro v2 w3 hown3 hg3 hb3; have a0 := HA.out _ hg3; have HO3 := hide hown3; have HB3 := hide (hb3 _ _ (HB.out.alloc hz (.cells #[.int .i64 vk, .string (strOfNums vn), .int .i64 va] 37)) (by (first | omega | (simp only [World.size_alloc]; omega) | (simp; done) | (simp; omega))) (Nat.le_refl _)); have hz3 := HB3.out.size; clear hown3 hg3 hb3))
        go_roundw
        case rel => exact ⟨j + 1, by omega, by go_num, by rw [HW.out, H4.out]; exact HO3.out, HB3.out⟩
        case measure => simp [intOf]; omega
    · obtain rfl : j = n := by omega
      rw [List.take_of_length_le (by omega)] at HO2
      go_wp2_with fail
      have HO3 := hide (show wr.ownsRow w.heap.size 37 3 u5 (wordsF l + 0) (fcells (wideF 0 l ++ List.replicate 0 noF)) by simpa using HO2.out)
      clear HO2
      go_loopw [5] (fun v w2 => ∃ k : Nat, wordsF l + k ≤ m ∧ w2.ownsRow w.heap.size 37 3 v (wordsF l + k) (fcells (wideF 0 l ++ List.replicate k noF)) ∧ Below w.heap.size w w2) (fun v _ => m - vlen v)
      case atStart => exact ⟨0, hm, HO3.out, HB.out⟩
      case round =>
        obtain ⟨k, hk, hown, hbel⟩ := hrel
        have HO2 := hide hown
        have HB2 := hide hbel
        have hz2 := hbel.size
        obtain ⟨VA, VC, rfl⟩ := len_own hown
        clear hown hbel HO3 HB
        by_cases hlt : wordsF l + k < m
        · have hlt' : ((wordsF l + k : Nat) : Int) < (m : Int) := by omega
          go_wp2_with (at_builtin; refine app_vt _ rfl (.tmp 32) (.tmp 34) rfl w.heap.size _ _ _ rfl HO2.out noF _ (by (first | omega | (simp only [World.size_alloc]; omega) | (simp; done) | (simp; omega))) rfl (by omega) (by (first | omega | (simp only [World.size_alloc]; omega) | (simp; done) | (simp; omega))) ?_; intro v4 w4 hown4 hg4 hb4; have HO4 := hide hown4; have HB4 := hide (hb4 _ _ HB2.out (by (first | omega | (simp only [World.size_alloc]; omega) | (simp; done) | (simp; omega))) (Nat.le_refl _)); have hz4 := HB4.out.size; clear hg4 hb4)
          go_roundw
          case rel => exact ⟨k + 1, by omega, by have := HO4.out; rw [List.append_assoc, ← List.replicate_succ'] at this; exact this, HB4.out⟩
          case measure =>
            obtain ⟨VA', VC', rfl⟩ := len_own hown4
            simp [vlen]; omega
        · have hlt' : ¬ ((wordsF l + k : Nat) : Int) < (m : Int) := by omega
          go_wp2_with fail
          go_ret
          refine ⟨.slice VA (wordsF l + k) VC, rfl, ?_, HB2.out⟩
          obtain rfl : m = wordsF l + k := by omega
          unfold fillF
          rw [show wordsF l + k - wordsF l = k by omega]
          exact HO2.out

/-- What is left of a type. -/
def bareF (v : FT) : FT := if v.kind = 7 then ⟨7, v.name, 0⟩ else if v.kind = 8 then ⟨8, [], v.num⟩ else ⟨v.kind, [], 0⟩
set_option maxRecDepth 100000 in
theorem smbare_any (v : FT) (w : World) : Calls Try.prog 40 #[.agg #[.int .i64 v.kind, .string (strOfNums v.name), .int .i64 v.num]] w fun e w' => e = .returned (.agg #[.int .i64 (bareF v).kind, .string (strOfNums (bareF v).name), .int .i64 (bareF v).num]) ∧ Below w.heap.size w w' := by
  obtain ⟨vk, vn, va⟩ := v
  simp only [bareF]
  by_cases h7 : vk = 7
  · subst h7
    simp only [if_pos]
    go_enter Try.func40, Try.ntmps40
    go_wp2_with fail
    refine bodyPost_ret (v := .agg #[.int .i64 7, .string (strOfNums vn), .int .i64 0]) ?_ rfl ⟨rfl, by repeat (first | with_reducible exact Below.refl _ _ | with_reducible refine Below.drew ?_ | with_reducible refine below_drewN ?_ _ | ((with_reducible refine Below.setCell ?_ ?hp _); case hp => simp) | ((with_reducible refine Below.alloc ?_ ?hp _); case hp => first | omega | (simp; done) | (simp; omega)))⟩
    · simp [results, Try.results40, go_sem]
  have h7' : (vk == 7) = false := by simpa using h7
  rw [if_neg h7]
  by_cases h8 : vk = 8
  · subst h8
    simp only [if_pos]
    go_enter Try.func40, Try.ntmps40
    go_wp2_with fail
    refine bodyPost_ret (v := .agg #[.int .i64 8, .string ⟨#[]⟩, .int .i64 va]) ?_ rfl ⟨rfl, by repeat (first | with_reducible exact Below.refl _ _ | with_reducible refine Below.drew ?_ | with_reducible refine below_drewN ?_ _ | ((with_reducible refine Below.setCell ?_ ?hp _); case hp => simp) | ((with_reducible refine Below.alloc ?_ ?hp _); case hp => first | omega | (simp; done) | (simp; omega)))⟩
    · simp [results, Try.results40, go_sem]
  · have h8' : (vk == 8) = false := by simpa using h8
    rw [if_neg h8]
    go_enter Try.func40, Try.ntmps40
    go_wp2_with fail
    refine bodyPost_ret (v := .agg #[.int .i64 vk, .string ⟨#[]⟩, .int .i64 0]) ?_ rfl ⟨rfl, by repeat (first | with_reducible exact Below.refl _ _ | with_reducible refine Below.drew ?_ | with_reducible refine below_drewN ?_ _ | ((with_reducible refine Below.setCell ?_ ?hp _); case hp => simp) | ((with_reducible refine Below.alloc ?_ ?hp _); case hp => first | omega | (simp; done) | (simp; omega)))⟩
    · simp [results, Try.results40, go_sem]
end Go.Proofs.Ytlgknednfgpgfaa
