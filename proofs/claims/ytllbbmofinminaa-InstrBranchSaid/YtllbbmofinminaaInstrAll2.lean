/- All instructions of a code, as package instr reads them: the walk. Nothing is claimed here. -/
import Derived.Test.YtllbbmofinminaaInstrAll
namespace Go.Proofs.Ytllbbmofinminaa
open Go.RowKit

/-- An instruction's cells, with its two lists. -/
def insCV (x : Ins × Value × Value) : List Value := [.int .i64 x.1.place, .int .i64 x.1.len, .int .i64 x.1.op, .bool x.1.wide, .int .i64 x.1.a, .int .i64 x.1.b, x.2.1, x.2.2]
def cellsI (L : List (Ins × Value × Value)) : List Value := L.flatMap insCV
def NumsAll (w : World) (base : Nat) (L : List (Ins × Value × Value)) : Prop := ∀ x ∈ L, Nums w base .i64 3 x.2.1 x.1.to ∧ Nums w base .i64 2 x.2.2 x.1.keys
def AllR (w w' : World) (e : Ending) (r : Option (List Ins)) : Prop :=
  (match r with
    | some l => ∃ V L, e = .returned (.tuple #[V, .bool true]) ∧ L.map Prod.fst = l ∧ w'.ownsRow w.heap.size 28 8 V L.length (cellsI L) ∧ NumsAll w' w.heap.size L
    | none => e = .returned (.tuple #[.slice none 0 0, .bool false])) ∧ Below w.heap.size w w'

theorem NumsAll.below {w w' : World} {base : Nat} {L : List (Ins × Value × Value)} (h : NumsAll w base L) (hb : Below w.heap.size w w') : NumsAll w' base L := fun x hx =>
  ⟨(h x hx).1.keep (Nat.le_refl _) fun _ _ _ hA => hA.below hb hA.lt, (h x hx).2.keep (Nat.le_refl _) fun _ _ _ hA => hA.below hb hA.lt⟩
theorem Nums.grown {w w' : World} {base : Nat} {k : IntKind} {t : TypeId} {V : Value} {xs : List Int} {row : Option Nat} (h : Nums w base k t V xs) (hg : w.grownBy w' row) (hr : ∀ g cs, At w g t cs → some g ≠ row) : Nums w' base k t V xs :=
  h.keep (Nat.le_refl _) fun g cs _ hA => hA.grown hg (hr g cs hA)

theorem allI_len {xs : List Int} {n : Nat} (h : xs.length = n) : allI xs = if n == 0 || 4096 < n then none else allGo xs (n + 1) 0 := by rw [← h]; rfl

theorem all_none (A : Option Addr) (n c : Nat) (w : World) (h : n = 0 ∨ 4096 < n) :
    Calls Try.prog 13 #[.slice A n c] w fun e w' => AllR w w' e none := by
  by_cases h0 : n = 0
  · clear h
    have hd : ((n : Int) == 0) = true := by simp; omega
    go_enter Try.func13, Try.ntmps13
    go_wp2_with fail
    go_ret2
    exact ⟨rfl, Below.refl _ _⟩
  · have h1 : 4096 < n := by omega
    have h2 : (4096 : Int) < n := by omega
    have hd : ((n : Int) == 0) = false := by simp; omega
    clear h h0
    go_enter Try.func13, Try.ntmps13
    go_wp2_with fail
    go_ret2
    exact ⟨rfl, Below.refl _ _⟩

set_option maxHeartbeats 2000000 in
set_option maxRecDepth 100000 in
theorem all_some (A : Option Addr) (n c : Nat) (xs : List Int) (w : World) (B : Nat) (h : Rd w B A n (bys xs)) (hB : B ≤ w.heap.size) (hb : IsBytes xs) (hc : n ≤ c) (hn : n ≤ 4096) (h0 : n ≠ 0) :
    Calls Try.prog 13 #[.slice A n c] w fun e w' => AllR w w' e (allGo xs (n + 1) 0) := by
  have hxl : xs.length = n := by have := h.1; rwa [bys_len] at this
  have HA : Hid (∀ W (a : Int), Below w.heap.size w W → Calls Try.prog 8 #[.slice A n c, .int .i64 a] W fun e w' => InsR W w' e (insI xs a)) := hide fun W a hW => iat_any A n c a xs W B (h.below (hW.mono hB)) (by have := hW.size; omega) hb hc (by omega)
  obtain ⟨i0, hi0, iz0, iz1, iz2⟩ := info_parts insinfo
  obtain ⟨D, hD⟩ : ∃ D, allGo xs (n + 1) 0 = D := ⟨_, rfl⟩
  rw [hD]
  have HD := hide hD
  have hd : ((n : Int) == 0) = false := by simp; omega
  have hd2 : ¬ ((4096 : Int) < n) := by omega
  clear h hD
  go_enter Try.func13, Try.ntmps13
  go_wp2_with fail
  go_loopw [4, 5] (fun v iv wr => ∃ (a f : Nat) (L : List (Ins × Value × Value)), a ≤ n ∧ n - a < f ∧ L.length ≤ a ∧ iv = .int .i64 a ∧ wr.ownsRow w.heap.size 28 8 v L.length (cellsI L) ∧ NumsAll wr w.heap.size L ∧ Below w.heap.size w wr ∧ D = (allGo xs f a).map (L.map Prod.fst ++ ·)) (fun _ iv _ => n - (intOf iv).toNat)
  case atStart =>
    refine ⟨0, n + 1, [], by omega, by omega, Nat.le_refl _, rfl, ⟨rfl, .inl ⟨rfl, rfl⟩⟩, fun x hx => (by cases hx), Below.refl _ _, ?_⟩
    rw [← HD.out]
    show allGo xs (n + 1) 0 = (allGo xs (n + 1) 0).map _
    cases allGo xs (n + 1) 0 <;> rfl
  case round =>
    obtain ⟨a, f, L, ha, hf, hLa, rfl, hown, hnums, hbel, hDD⟩ := hrel
    have Hown := hide hown
    have Hnums := hide hnums
    have Hbel := hide hbel
    have HDD := hide hDD
    have hz := hbel.size
    clear hown hnums hbel hDD HD
    obtain ⟨f, rfl⟩ : ∃ f', f = f' + 1 := ⟨f - 1, by omega⟩
    by_cases hlt : a < n
    · have hlt' : (a : Int) < (n : Int) := by omega
      have HC := hide (HA.out wr a Hbel.out)
      have hstep : allGo xs (f + 1) a = match insI xs a with | none => none | some I => (allGo xs f (a + I.len)).map (I :: ·) := by
        show (if (xs.length : Int) ≤ a then _ else _) = _
        rw [if_neg (by omega)]
        rfl
      have hil := @ins_len xs a
      generalize insI xs a = r at *
      cases r with
      | none =>
        have HDn : Hid (D = none) := hide (by rw [HDD.out, hstep]; rfl)
        clear hstep hil
        go_wp2_with fail
        refine HC.out.mono ?_
        rintro e w2 ⟨rfl, hb2⟩
        have HB2 := hide (Hbel.out.trans (hb2.mono hz))
        unfold noV insV
        go_wp2_with fail
        go_ret2
        refine ⟨by rw [HDn.out]; rfl, ?_⟩
        have hbb : Below w.heap.size w w2 := HB2.out
        have hz2 := hbb.size
        repeat (first | with_reducible exact hbb | with_reducible refine Below.drew ?_ | with_reducible refine below_drewN ?_ _ | ((with_reducible refine Below.setCell ?_ ?hp _); case hp => simp) | ((with_reducible refine Below.alloc ?_ ?hp _); case hp => first | omega | (simp; done) | (simp; omega)))
      | some I =>
        obtain ⟨hl1, hl2, hl3, -⟩ := hil rfl
        have HDs : Hid (D = (allGo xs f (a + I.len)).map ((L.map Prod.fst ++ [I]) ++ ·)) := hide (by
          rw [HDD.out, hstep]
          show Option.map _ (Option.map _ _) = _
          rw [Option.map_map]
          congr 1
          funext y
          simp)
        clear hstep hil
        rw [hxl] at hl2
        go_wp2_with fail
        refine HC.out.mono ?_
        rintro e w2 ⟨⟨v, rfl, T, K, rfl, hT, hK⟩, hb2⟩
        obtain ⟨ta, tl, tc, rfl⟩ := hT.shape
        obtain ⟨ka, kl, kc, rfl⟩ := hK.shape
        have HN2 : Hid (NumsAll w2 w.heap.size (L ++ [(I, .slice ta tl tc, .slice ka kl kc)])) := hide (by
          intro x hx
          rcases List.mem_append.1 hx with hx | hx
          · exact Hnums.out.below hb2 x hx
          · obtain rfl := List.mem_singleton.1 hx
            exact ⟨hT.keep hz fun _ _ _ hA => hA, hK.keep hz fun _ _ _ hA => hA⟩)
        have HB2 := hide (Hbel.out.trans (hb2.mono hz))
        have HO2 := hide (own_below Hown.out hb2)
        have hz2 := HB2.out.size
        clear hT hK hb2 Hown Hnums Hbel HC HDD
        have HE : Hid (cellsI (L ++ [(I, .slice ta tl tc, .slice ka kl kc)]) = cellsI L ++ [.int .i64 (a : Int), .int .i64 I.len, .int .i64 I.op, .bool I.wide, .int .i64 I.a, .int .i64 I.b, .slice ta tl tc, .slice ka kl kc]) := hide (by simp [cellsI, insCV, hl3])
        have HO3 := hide (own_below HO2.out ((Below.refl _ w2).alloc (Nat.le_refl _) (.cells #[.int .i64 (a : Int), .int .i64 I.len, .int .i64 I.op, .bool I.wide, .int .i64 I.a, .int .i64 I.b, .slice ta tl tc, .slice ka kl kc] 28)))
        have HA3 := hide (At.new w2 28 [.int .i64 (a : Int), .int .i64 I.len, .int .i64 I.op, .bool I.wide, .int .i64 I.a, .int .i64 I.b, .slice ta tl tc, .slice ka kl kc])
        have HB3 := hide (HB2.out.alloc hz2 (.cells #[.int .i64 (a : Int), .int .i64 I.len, .int .i64 I.op, .bool I.wide, .int .i64 I.a, .int .i64 I.b, .slice ta tl tc, .slice ka kl kc] 28))
        have HN3 := hide (HN2.out.below ((Below.refl _ w2).alloc (Nat.le_refl _) (.cells #[.int .i64 (a : Int), .int .i64 I.len, .int .i64 I.op, .bool I.wide, .int .i64 I.a, .int .i64 I.b, .slice ta tl tc, .slice ka kl kc] 28)))
        have HQ := hide (own_new HO2.out (Nat.le_refl w2.heap.size))
        clear HB2 HO2 HN2
        go_wp2_with (at_builtin; go_loud (refine wpList_append_many _ rfl (.tmp 28) (.tmp 30) 37 rfl w.heap.size 28 i0 _ 96 8 (by omega) Try.underlying37 hi0 iz0 iz1 iz2 rfl _ _ _ rfl HO3.out [.int .i64 (a : Int), .int .i64 I.len, .int .i64 I.op, .bool I.wide, .int .i64 I.a, .int .i64 I.b, .slice ta tl tc, .slice ka kl kc] rfl _ (by simp) rfl rfl (by unfold maxLen; omega) (by omega) (by simp; omega) ?_); intro v2 w3 hown3 hg3; have hq := (HA3.out.grown hg3 HQ.out).cell 1; simp only [List.getElem?_cons_succ, List.getElem?_cons_zero] at hq; have Hg3 := hide hg3; have Ho3 := hide hown3; clear hg3 hown3)
        have HB4 := hide (below_own (B := w.heap.size) HB3.out HO3.out Hg3.out (by simp; omega) (Nat.le_refl _))
        have HN4 : Hid (NumsAll w3 w.heap.size (L ++ [(I, .slice ta tl tc, .slice ka kl kc)])) := hide fun x hx => by
          have h1 := HN3.out x hx
          have hO4 := HO3.out
          exact ⟨h1.1.grown Hg3.out fun g cs hA => own_type hO4 hA (by decide), h1.2.grown Hg3.out fun g cs hA => own_type hO4 hA (by decide)⟩
        clear HO3 HA3 HB3 HN3 HQ Hg3
        go_roundw
        case rel =>
          obtain ⟨m, hm⟩ := Int.eq_ofNat_of_zero_le (show 0 ≤ (a : Int) + I.len by omega)
          refine ⟨m, f, L ++ [(I, .slice ta tl tc, .slice ka kl kc)], by omega, by omega, by simp; omega, by rw [← hm], ?_, HN4.out, HB4.out, ?_⟩
          · rw [HE.out, List.length_append]
            exact Ho3.out
          · rw [HDs.out, hm, List.map_append]
            rfl
        case measure => simp [intOf]; omega
    · obtain rfl : a = n := by omega
      have HDe : Hid (D = some (L.map Prod.fst)) := hide (by
        rw [HDD.out]
        show Option.map _ (if (xs.length : Int) ≤ a then _ else _) = _
        rw [if_pos (by omega)]
        simp)
      go_wp2_with fail
      go_ret2
      refine ⟨?_, Hbel.out⟩
      rw [HDe.out]
      exact ⟨_, L, rfl, rfl, Hown.out, Hnums.out⟩

theorem iall_any (A : Option Addr) (n c : Nat) (xs : List Int) (w : World) (B : Nat) (h : Rd w B A n (bys xs)) (hB : B ≤ w.heap.size) (hb : IsBytes xs) (hc : n ≤ c) :
    Calls Try.prog 13 #[.slice A n c] w fun e w' => AllR w w' e (allI xs) := by
  have hxl : xs.length = n := by have := h.1; rwa [bys_len] at this
  rw [allI_len hxl]
  by_cases h0 : n = 0 ∨ 4096 < n
  · rw [if_pos (by simpa using h0)]
    exact all_none A n c w h0
  · rw [if_neg (by simpa using h0)]
    exact all_some A n c xs w B h hB hb hc (by omega) (by omega)
end Go.Proofs.Ytllbbmofinminaa
