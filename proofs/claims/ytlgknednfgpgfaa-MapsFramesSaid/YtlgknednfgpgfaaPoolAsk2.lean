/- What is told of a pool's entries: Text, Class, Member. Nothing is claimed here. -/
import Derived.Test.YtlgknednfgpgfaaPoolAsk
namespace Go.Proofs.Ytlgknednfgpgfaa
open Go.RowKit

theorem entry_lit (A : Option Addr) (n c : Nat) (ps : List Cst) (i : Int) (ts : List Int) (w : World) (h : RdC w w.heap.size A n ps) (hm : ts.length ≤ 1000000) :
    Calls Try.prog 50 #[.slice A n c, .int .i64 i, .slice (some ⟨w.heap.size, 0, none⟩) ts.length ts.length] (w.alloc (.cells (cells .i64 ts).toArray 3)) fun e w' => e = .returned (entryV (entryAt ps i ts)) ∧ Below w.heap.size w w' := by
  have hr : Rd (w.alloc (.cells (cells .i64 ts).toArray 3)) (w.heap.size + 1) (some ⟨w.heap.size, 0, none⟩) ts.length (cells .i64 ts) := by
    have := Rd.made w 3 (cells .i64 ts); rwa [cells_len] at this
  refine (entry_any A n c ps w.heap.size i _ _ _ ts (w.heap.size + 1) _ (h.below ((Below.refl _ w).alloc (Nat.le_refl _) _)) (by simp) hr (by simp) hm).mono fun e w' hh => ⟨hh.1, ?_⟩
  exact ((Below.refl _ w).alloc (Nat.le_refl _) _).trans (hh.2.mono (by simp))
theorem entryV_none : entryV none = .tuple #[.agg #[.int .i64 0, .string ⟨#[]⟩, .int .i64 0, .int .i64 0, .int .i64 0], .bool false] := rfl
theorem entryV_some (x : Cst) : entryV (some x) = .tuple #[.agg #[.int .i64 x.tag, .string (strOfNums x.text), .int .i64 x.num, .int .i64 x.a, .int .i64 x.b], .bool true] := rfl

set_option maxHeartbeats 4000000 in
set_option maxRecDepth 100000 in
theorem text_is (A : Option Addr) (n c : Nat) (ps : List Cst) (i : Int) (w : World) (h : RdC w w.heap.size A n ps) :
    Calls Try.prog 51 #[.slice A n c, .int .i64 i] w fun e w' => e = .returned (textV (textAt ps i)) ∧ Below w.heap.size w w' := by
  obtain ⟨D, hD⟩ : ∃ D, textV (textAt ps i) = D := ⟨_, rfl⟩
  rw [hD]
  have hE : Calls Try.prog 50 #[.slice A n c, .int .i64 i, .slice (some ⟨w.heap.size, 0, none⟩) 1 1] (w.alloc (.cells #[.int .i64 1] 3)) fun e w' => e = .returned (entryV (entryAt ps i [1])) ∧ Below w.heap.size w w' := entry_lit A n c ps i [1] w h (by decide)
  rw [entryAt_of (by decide)] at hE
  unfold textAt at hD
  by_cases ht : (atC ps i).tag = 1
  · rw [if_pos ht] at hD
    rw [if_pos (by rw [ht]; decide), entryV_some] at hE
    have HD : Hid (D = .tuple #[.string (strOfNums (atC ps i).text), .bool true]) := hide (by rw [← hD]; rfl)
    have HE := hide hE
    generalize strOfNums (atC ps i).text = q at *
    generalize (atC ps i).tag = y0 at *
    generalize (atC ps i).num = y1 at *
    generalize (atC ps i).a = y2 at *
    generalize (atC ps i).b = y3 at *
    clear hD hE h ht
    go_enter Try.func51, Try.ntmps51
    go_wp2_with fail
    refine HE.out.mono ?_
    rintro e w1 ⟨rfl, hb⟩
    have Hb := hide hb
    have hs := hb.size
    clear hb
    go_wp2_with fail
    go_ret2
    exact ⟨by rw [HD.out]; rfl, by repeat (first | with_reducible exact Hb.out | with_reducible refine Below.drew ?_ | with_reducible refine below_drewN ?_ _ | ((with_reducible refine Below.setCell ?_ ?hp _); case hp => simp) | ((with_reducible refine Below.alloc ?_ ?hp _); case hp => first | omega | (simp; done) | (simp; omega)))⟩
  · rw [if_neg ht] at hD
    rw [if_neg (by simpa using ht), entryV_none] at hE
    have HD : Hid (D = .tuple #[.string ⟨#[]⟩, .bool false]) := hide (by rw [← hD]; rfl)
    have HE := hide hE
    clear hD hE h ht
    go_enter Try.func51, Try.ntmps51
    go_wp2_with fail
    refine HE.out.mono ?_
    rintro e w1 ⟨rfl, hb⟩
    have Hb := hide hb
    have hs := hb.size
    clear hb
    go_wp2_with fail
    go_ret2
    exact ⟨by rw [HD.out]; rfl, by repeat (first | with_reducible exact Hb.out | with_reducible refine Below.drew ?_ | with_reducible refine below_drewN ?_ _ | ((with_reducible refine Below.setCell ?_ ?hp _); case hp => simp) | ((with_reducible refine Below.alloc ?_ ?hp _); case hp => first | omega | (simp; done) | (simp; omega)))⟩

theorem textV_pair (o : Option (List Int)) : textV o = .tuple #[.string (strOfNums (o.getD [])), .bool o.isSome] := by
  cases o with
  | none => rfl
  | some t => rfl

set_option maxHeartbeats 4000000 in
set_option maxRecDepth 100000 in
theorem class_is (A : Option Addr) (n c : Nat) (ps : List Cst) (i : Int) (w : World) (h : RdC w w.heap.size A n ps) :
    Calls Try.prog 49 #[.slice A n c, .int .i64 i] w fun e w' => e = .returned (textV (classAt ps i)) ∧ Below w.heap.size w w' := by
  obtain ⟨D, hD⟩ : ∃ D, textV (classAt ps i) = D := ⟨_, rfl⟩
  rw [hD]
  have hE : Calls Try.prog 50 #[.slice A n c, .int .i64 i, .slice (some ⟨w.heap.size, 0, none⟩) 1 1] (w.alloc (.cells #[.int .i64 7] 3)) fun e w' => e = .returned (entryV (entryAt ps i [7])) ∧ Below w.heap.size w w' := entry_lit A n c ps i [7] w h (by decide)
  rw [entryAt_of (by decide)] at hE
  unfold classAt at hD
  by_cases ht : (atC ps i).tag = 7
  · rw [if_pos ht] at hD
    rw [if_pos (by rw [ht]; decide), entryV_some] at hE
    have HT : Hid (∀ x W, Below w.heap.size w W → Calls Try.prog 51 #[.slice A n c, .int .i64 x] W fun e w' => e = .returned (textV (textAt ps x)) ∧ Below W.heap.size W w') := hide fun x W hb => text_is A n c ps x W ((h.below hb).mono hb.size)
    have HE := hide hE
    generalize strOfNums (atC ps i).text = q at *
    generalize (atC ps i).tag = y0 at *
    generalize (atC ps i).num = y1 at *
    generalize (atC ps i).a = y2 at *
    generalize (atC ps i).b = y3 at *
    rw [textV_pair] at hD
    have HT1 : Hid (∀ W, Below w.heap.size w W → Calls Try.prog 51 #[.slice A n c, .int .i64 y2] W fun e w' => e = .returned (.tuple #[.string (strOfNums ((textAt ps y2).getD [])), .bool (textAt ps y2).isSome]) ∧ Below W.heap.size W w') := hide fun W hb => by rw [← textV_pair]; exact HT.out y2 W hb
    generalize strOfNums ((textAt ps y2).getD []) = tq at *
    generalize (textAt ps y2).isSome = tb at *
    have HD := hide hD
    clear hD hE h ht HT
    go_enter Try.func49, Try.ntmps49
    go_wp2_with fail
    refine HE.out.mono ?_
    rintro e w1 ⟨rfl, hb⟩
    have Hb := hide hb
    have hs := hb.size
    clear hb
    go_wp2_with fail
    refine (HT1.out _ ?_).mono ?_
    · repeat (first | with_reducible exact Hb.out | with_reducible refine Below.drew ?_ | with_reducible refine below_drewN ?_ _ | ((with_reducible refine Below.setCell ?_ ?hp _); case hp => simp) | ((with_reducible refine Below.alloc ?_ ?hp _); case hp => first | omega | (simp; done) | (simp; omega)))
    rintro e w2 ⟨rfl, hb2⟩
    have Hb2 : Hid (Below w.heap.size w w2) := hide ((show Below w.heap.size w _ by repeat (first | with_reducible exact Hb.out | with_reducible refine Below.drew ?_ | with_reducible refine below_drewN ?_ _ | ((with_reducible refine Below.setCell ?_ ?hp _); case hp => simp) | ((with_reducible refine Below.alloc ?_ ?hp _); case hp => first | omega | (simp; done) | (simp; omega)))).trans (hb2.mono (by simp; omega)))
    clear hb2
    go_wp2_with fail
    go_ret2
    exact ⟨by rw [← HD.out]; rfl, Hb2.out⟩
  · rw [if_neg ht] at hD
    rw [if_neg (by simpa using ht), entryV_none] at hE
    have HD : Hid (D = .tuple #[.string ⟨#[]⟩, .bool false]) := hide (by rw [← hD]; rfl)
    have HE := hide hE
    clear hD hE h ht
    go_enter Try.func49, Try.ntmps49
    go_wp2_with fail
    refine HE.out.mono ?_
    rintro e w1 ⟨rfl, hb⟩
    have Hb := hide hb
    have hs := hb.size
    clear hb
    go_wp2_with fail
    go_ret2
    exact ⟨by rw [HD.out]; rfl, by repeat (first | with_reducible exact Hb.out | with_reducible refine Below.drew ?_ | with_reducible refine below_drewN ?_ _ | ((with_reducible refine Below.setCell ?_ ?hp _); case hp => simp) | ((with_reducible refine Below.alloc ?_ ?hp _); case hp => first | omega | (simp; done) | (simp; omega)))⟩

/-- What an entry of names holds: the name and the descriptor. -/
def natAt (p : List Cst) (i : Int) : Option (List Int × List Int) :=
  if (atC p i).tag = 12 then
    match textAt p (atC p i).a, textAt p (atC p i).b with
    | some n, some d => some (n, d)
    | _, _ => none
  else none
def natV : Option (List Int × List Int) → Value
  | some (n, d) => .tuple #[.string (strOfNums n), .string (strOfNums d), .bool true]
  | none => .tuple #[.string ⟨#[]⟩, .string ⟨#[]⟩, .bool false]
theorem natV_pair (o : Option (List Int × List Int)) : natV o = .tuple #[.string (strOfNums (o.getD ([], [])).1), .string (strOfNums (o.getD ([], [])).2), .bool o.isSome] := by
  cases o with
  | none => rfl
  | some t => rfl
theorem nat_yes {p : List Cst} {i : Int} (h : (atC p i).tag = 12) : natV (natAt p i) = if (textAt p (atC p i).a).isSome = true ∧ (textAt p (atC p i).b).isSome = true then .tuple #[.string (strOfNums ((textAt p (atC p i).a).getD [])), .string (strOfNums ((textAt p (atC p i).b).getD [])), .bool true] else .tuple #[.string ⟨#[]⟩, .string ⟨#[]⟩, .bool false] := by
  unfold natAt
  rw [if_pos h]
  cases textAt p (atC p i).a with
  | none => rfl
  | some x =>
    cases textAt p (atC p i).b with
    | none => rfl
    | some y => rfl

theorem member_of {p : List Cst} {i : Int} (h : (atC p i).tag = 9 ∨ (atC p i).tag = 10 ∨ (atC p i).tag = 11) : memberV (memberAt p i) = if (classAt p (atC p i).a).isSome = true ∧ (natAt p (atC p i).b).isSome = true then
    .tuple #[.string (strOfNums ((classAt p (atC p i).a).getD [])), .string (strOfNums ((natAt p (atC p i).b).getD ([], [])).1), .string (strOfNums ((natAt p (atC p i).b).getD ([], [])).2), .bool true] else .tuple #[.string ⟨#[]⟩, .string ⟨#[]⟩, .string ⟨#[]⟩, .bool false] := by
  rw [member_yes h]
  unfold natAt
  cases classAt p (atC p i).a with
  | none => rfl
  | some x =>
    simp only [Option.bind_some]
    split
    · cases textAt p (atC p (atC p i).b).a with
      | none => rfl
      | some x =>
        cases textAt p (atC p (atC p i).b).b with
        | none => rfl
        | some y => rfl
    · rfl

end Go.Proofs.Ytlgknednfgpgfaa
