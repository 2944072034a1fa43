/- Texts of one stage, merged. Nothing is claimed here. -/
import Derived.Test.YtbdbcalmjbmflaaGreatDoorPackA
import Derived.OrdersHeld
import Derived.Deep.RegionHeld
import Derived.Test.YtbdbcalmjbmflaaGreatDoorPackE
import Derived.Deep.Cut
import Derived.ChangeKeysEq
import Derived.Test.YtbdbcalmjbmflaaGreatDoorPackF
namespace Go.Proofs.YtbdbcalmjbmflaaGreatDoor
open Go.RowKit

section
variable {P : Program} {ops : Array Oper} {Q : Exit → Act → World → Prop} {md : Region.Mode} {S : World → Prop} {T : Act → Prop}

/-- What is run gives v, and leaves a world that meets S. -/
def Gives (P : Program) (S : World → Prop) (v : Value) : Result Next → Prop
  | .ok (.value u) w' => u = v ∧ S w'
  | .ok (.enter f args) w' => Calls P f args w' fun e w'' => e = .returned v ∧ S w''
  | _ => False
/-- In this state the operation gives v in every world that meets S; or its guard leaves it out. -/
def GivesIn (P : Program) (ops : Array Oper) (S : World → Prop) (o : Oper) (v : Value) (a : Act) : Prop :=
  (Region.wanted o (yielded ops a.tmps) = true ∧ ∀ w, S w → Gives P S v ((execOp a.eval o).run P w)) ∨ (Region.wanted o (yielded ops a.tmps) = false ∧ v = undef)
theorem GivesIn.of_same {o : Oper} {v : Value} {a a' : Act} (hy : GivesIn P ops S o v a) (he : execOp a'.eval o = execOp a.eval o)
    (hw : Region.wanted o (yielded ops a'.tmps) = Region.wanted o (yielded ops a.tmps)) : GivesIn P ops S o v a' := by
  unfold GivesIn at *
  rw [he, hw]
  exact hy
theorem GivesIn.wpOp {i : Nat} {o : Oper} {v : Value} {a : Act} (hi : ops[i]? = some o) (hy : GivesIn P ops S o v a) {K : Act → World → Prop} {w : World} (hS : S w)
    (h : ∀ w', S w' → K (a.put o.dst v) w') : wpOp P ops Q i K a w := by
  unfold Go.wpOp
  simp only [hi]
  rcases hy with ⟨hw, hv⟩ | ⟨hw, rfl⟩
  · simp only [hw, if_true]
    refine .inl ?_
    have h2 := hv w hS
    unfold Oper.wp
    generalize (execOp a.eval o).run P w = r at *
    cases r with
    | ok n w' =>
      cases n <;> simp only [Gives, Oper.upon] at h2 ⊢
      case value u => exact h2.1 ▸ h _ h2.2
      case enter f args =>
        refine h2.mono fun e w'' he => ?_
        obtain ⟨rfl, hs⟩ := he
        exact h _ hs
    | halt x w' => exact h2.elim
  · simp only [hw, Bool.false_eq_true, if_false]; exact h _ hS

/-- Whoever could come before number i is apart from it, or waits for it. -/
def Freed (md : Region.Mode) (ops : Array Oper) (listed : Array Bool) (i : Nat) (o : Oper) : Prop :=
  ∀ k ok, ops[k]? = some ok → k ≠ i → listed.getD k true = false → (∀ e ∈ ok.after, Region.binds md e = true → e.on ≠ i) → o.apart ops ok = true
theorem Freed.more {listed : Array Bool} {i j : Nat} {o : Oper} (h : Freed md ops listed i o) (hj : listed.getD j true = false) : Freed md ops (listed.setIfInBounds j true) i o := fun k ok hk hki hun hno => by
  refine h k ok hk hki ?_ hno
  by_cases hjk : j = k
  · subst hjk; exact hj
  · rw [getD_set_ne true hjk] at hun; exact hun

/-- One order that goes through: each operation is free where it comes. -/
def Chain (P : Program) (md : Region.Mode) (ops : Array Oper) (S : World → Prop) (T : Act → Prop) : Nat → Array Bool → Act → Prop
  | 0, listed, a => Region.ready md ops listed = [] ∧ T a
  | n + 1, listed, a => ∃ i o v, ops[i]? = some o ∧ i ∈ Region.ready md ops listed ∧ Freed md ops listed i o ∧ GivesIn P ops S o v a ∧ Chain P md ops S T n (listed.setIfInBounds i true) (a.put o.dst v)

/-- Whichever may come up can be drawn to the head. -/
theorem Chain.pull (hsel : ∀ (j : Nat) (o : Oper) cs b, ops[j]? = some o → o.op ≠ .select cs b) : ∀ (n : Nat) (listed : Array Bool) (a : Act) (j : Nat), Chain P md ops S T n listed a → j ∈ Region.ready md ops listed →
    ∃ o u m, n = m + 1 ∧ ops[j]? = some o ∧ GivesIn P ops S o u a ∧ Chain P md ops S T m (listed.setIfInBounds j true) (a.put o.dst u) := by
  intro n
  induction n with
  | zero => intro listed a j h hj; rw [h.1] at hj; cases hj
  | succ n ih =>
    intro listed a j h hj
    obtain ⟨i, oi, v, hi, hr, hf, hy, hc⟩ := h
    by_cases hji : j = i
    · subst hji; exact ⟨oi, v, n, rfl, hi, hy, hc⟩
    · obtain ⟨oj, u, m, rfl, hoj, hyj, hcj⟩ := ih _ _ j hc (ready_mono hj hji)
      obtain ⟨hjun, oj', hoj', hall⟩ := mem_ready.1 hj
      obtain rfl : oj' = oj := Option.some.inj (hoj'.symm.trans hoj)
      have hnot : ∀ e ∈ oj'.after, Region.binds md e = true → e.on ≠ i := fun e he hb heq => by
        have h1 := hall e he hb
        have h0 := (mem_ready.1 hr).1
        rw [heq] at h1
        rcases Nat.lt_or_ge i listed.size with h' | h'
        · simp [h'] at h0 h1; rw [h0] at h1; cases h1
        · simp [Array.getElem?_eq_none h'] at h1
      obtain ⟨h1, h2, h3⟩ := Oper.apart_spec (hf j oj' hoj hji hjun hnot)
      have hyj' : GivesIn P ops S oj' u a := hyj.of_same (execOp_put oj' (fun cs b => hsel j oj' cs b hoj) a oi.dst v h1).symm (wanted_put oj' a oi.dst v h1).symm
      have hyi' : GivesIn P ops S oi v (a.put oj'.dst u) := hy.of_same (execOp_put oi (fun cs b => hsel i oi cs b hi) a oj'.dst u h3) (wanted_put oi a oj'.dst u h3)
      refine ⟨oj', u, m + 1, rfl, hoj, hyj', i, oi, v, hi, ready_mono hr (Ne.symm hji), hf.more hjun, hyi', ?_⟩
      rw [Array.setIfInBounds_comm _ _ hji, ← Act.put_comm a v u h2]
      exact hcj

theorem Chain.all (hsel : ∀ (j : Nat) (o : Oper) cs b, ops[j]? = some o → o.op ≠ .select cs b) : ∀ (n : Nat) (listed : Array Bool) (a : Act),
    Chain P md ops S (fun a => ∀ w, S w → Q .normal a w) n listed a → ∀ w, S w → wpAny P md ops Q n listed a w := by
  intro n
  induction n with
  | zero => intro listed a h w hS; exact ⟨h.1, h.2 w hS⟩
  | succ n ih =>
    intro listed a h w hS
    refine ⟨fun h0 => ?_, fun j hj => ?_⟩
    · obtain ⟨i, _, _, _, hr, _⟩ := h
      rw [h0] at hr; cases hr
    · obtain ⟨o, u, m, hm, ho, hy, hc⟩ := Chain.pull hsel _ _ _ j h hj
      cases hm
      exact hy.wpOp ho hS fun w' hS' => ih _ _ hc w' hS'

/-- The first k have come. -/
def mask (n k : Nat) : Array Bool := (List.replicate k true ++ List.replicate (n - k) false).toArray
/-- In the order of the text each operation may come up and is free. -/
def textOk (ops : Array Oper) : Bool := (List.range ops.size).all fun k => (Region.ready .any ops (mask ops.size k)).contains k && Region.free .any ops (mask ops.size k) k
/-- The operations in the order of the text, each giving its value. -/
def Text (P : Program) (ops : Array Oper) (S : World → Prop) (T : Act → Prop) : List Oper → Act → Prop
  | [], a => T a
  | o :: rest, a => ∃ v, GivesIn P ops S o v a ∧ Text P ops S T rest (a.put o.dst v)
theorem mask_set (n k : Nat) (h : k < n) : (mask n k).setIfInBounds k true = mask n (k + 1) := by
  unfold mask
  apply Array.toList_inj.1
  simp only [Array.toList_setIfInBounds]
  obtain ⟨m, rfl⟩ : ∃ m, n = k + 1 + m := ⟨n - (k + 1), by omega⟩
  rw [show k + 1 + m - k = m + 1 by omega, show k + 1 + m - (k + 1) = m by omega, List.replicate_succ, List.replicate_succ']
  rw [List.set_append_right _ _ (by simp)]
  simp
theorem mask_end (n k : Nat) (h : n ≤ k) (ops : Array Oper) (hn : ops.size = n) : Region.ready .any ops (mask n k) = [] := by
  cases hr : Region.ready .any ops (mask n k) with
  | nil => rfl
  | cons j l =>
    have hj : j ∈ Region.ready .any ops (mask n k) := by rw [hr]; simp
    obtain ⟨h0, o, ho, _⟩ := mem_ready.1 hj
    have hlt : j < ops.size := (Array.getElem?_eq_some_iff.1 ho).1
    have : (mask n k).getD j true = true := by
      unfold mask
      rw [show n - k = 0 by omega]
      simp [show j < k by omega]
    rw [this] at h0; cases h0
theorem chain_of_text (hok : textOk ops = true) : ∀ (rest : List Oper) (k : Nat) (a : Act), ops.toList.drop k = rest → Text P ops S T rest a → Chain P .any ops S T rest.length (mask ops.size k) a := by
  intro rest
  induction rest with
  | nil =>
    intro k a hd h
    have : ops.size ≤ k := by simpa using hd
    exact ⟨mask_end _ _ this ops rfl, h⟩
  | cons o rest ih =>
    intro k a hd h
    obtain ⟨v, hy, hc⟩ := h
    have hk : k < ops.size := by
      rcases Nat.lt_or_ge k ops.size with h' | h'
      · exact h'
      · rw [List.drop_eq_nil_of_le (by simpa using h')] at hd; cases hd
    have hd2 := List.drop_eq_getElem_cons (l := ops.toList) (i := k) (by simpa using hk)
    rw [hd] at hd2
    injection hd2 with e1 e2
    have ho : ops[k]? = some o := by rw [Array.getElem?_eq_getElem hk, e1]; simp
    have h2 := List.all_eq_true.1 hok k (by simpa using hk)
    simp only [Bool.and_eq_true] at h2
    refine ⟨k, o, v, ho, by simpa using h2.1, fun j oj hj hne hun hno => Region.free_spec ho h2.2 j oj hj hne hun hno, hy, ?_⟩
    rw [mask_set _ _ hk]
    exact ih (k + 1) _ e2.symm hc
/-- THE LAW. -/
theorem wp_region_text {id : Nat} {a : Act} {w : World} (S : World → Prop) (hm : P.follows .mixedOrders = true) (hs : Region.noSelect ops = true) (hok : textOk ops = true) (hS : S w.drew)
    (h : Text P ops S (fun a => ∀ w, S w → Q .normal a w) ops.toList a) : (Code.region id ops true).wp P Q a w := by
  refine wp_region_any hm ?_
  have hc := chain_of_text hok ops.toList 0 a rfl h
  have h0 : mask ops.size 0 = Array.replicate ops.size false := by
    apply Array.toList_inj.1
    simp [mask]
  rw [h0, Array.length_toList] at hc
  exact Chain.all (fun j o cs b => Region.noSelect_spec hs j o cs b) _ _ _ hc _ hS

/-! ### The steps -/
theorem text_end {a : Act} (h : T a) : Text P ops S T [] a := h
theorem text_value {o : Oper} {rest : List Oper} {a : Act} {v : Value} (hw : Region.wanted o (yielded ops a.tmps) = true) (hy : ∀ w, S w → (execOp a.eval o).run P w = .ok (.value v) w)
    (h : Text P ops S T rest (a.put o.dst v)) : Text P ops S T (o :: rest) a := ⟨v, .inl ⟨hw, fun w hS => by rw [hy w hS]; exact ⟨rfl, hS⟩⟩, h⟩
theorem text_call {o : Oper} {rest : List Oper} {a : Act} {v : Value} {f : FuncId} {args : Array Value} (hw : Region.wanted o (yielded ops a.tmps) = true) (hy : ∀ w, S w → (execOp a.eval o).run P w = .ok (.enter f args) w)
    (hc : ∀ w, S w → Calls P f args w fun e w' => e = .returned v ∧ S w') (h : Text P ops S T rest (a.put o.dst v)) : Text P ops S T (o :: rest) a := ⟨v, .inl ⟨hw, fun w hS => by rw [hy w hS]; exact hc w hS⟩, h⟩
theorem text_skip {o : Oper} {rest : List Oper} {a : Act} (hw : Region.wanted o (yielded ops a.tmps) = false) (h : Text P ops S T rest (a.put o.dst undef)) : Text P ops S T (o :: rest) a := ⟨undef, .inr ⟨hw, rfl⟩, h⟩
end
end Go.Proofs.YtbdbcalmjbmflaaGreatDoor
namespace Go.Proofs.YtbdbcalmjbmflaaGreatDoor
open Go.RowKit

section
variable {P : Program} {ops : Array Oper} {Q : Exit → Act → World → Prop} {md : Region.Mode} {S : Array Bool → World → Prop} {T : Array Bool → Act → Prop}

/-- What is run gives v, or nothing where nothing is kept, and leaves a world that meets S. -/
def GivesS (P : Program) (S : World → Prop) (d : Option Nat) (v : Value) : Result Next → Prop
  | .ok (.value u) w' => u = v ∧ S w'
  | .ok (.enter f args) w' => Calls P f args w' fun e w'' => e = .returned v ∧ S w''
  | .ok .skip w' => d = none ∧ S w'
  | _ => False
/-- In this state operation i gives v in every world that meets S, and leaves one that meets S with i come; or its guard leaves it out. -/
def GivesL (P : Program) (ops : Array Oper) (S : Array Bool → World → Prop) (i : Nat) (o : Oper) (v : Value) (a : Act) : Prop :=
  (Region.wanted o (yielded ops a.tmps) = true ∧ ∀ l w, S l w → GivesS P (S (l.setIfInBounds i true)) o.dst v ((execOp a.eval o).run P w)) ∨
    (Region.wanted o (yielded ops a.tmps) = false ∧ v = undef ∧ ∀ l w, S l w → S (l.setIfInBounds i true) w)
theorem GivesL.of_same {i : Nat} {o : Oper} {v : Value} {a a' : Act} (hy : GivesL P ops S i o v a) (he : execOp a'.eval o = execOp a.eval o)
    (hw : Region.wanted o (yielded ops a'.tmps) = Region.wanted o (yielded ops a.tmps)) : GivesL P ops S i o v a' := by
  unfold GivesL at *
  rw [he, hw]
  exact hy
theorem GivesL.wpOp {i : Nat} {o : Oper} {v : Value} {a : Act} (hi : ops[i]? = some o) (hy : GivesL P ops S i o v a) {K : Act → World → Prop} {l : Array Bool} {w : World} (hS : S l w)
    (h : ∀ w', S (l.setIfInBounds i true) w' → K (a.put o.dst v) w') : wpOp P ops Q i K a w := by
  unfold Go.wpOp
  simp only [hi]
  rcases hy with ⟨hw, hv⟩ | ⟨hw, rfl, hs⟩
  · simp only [hw, if_true]
    refine .inl ?_
    have h2 := hv l w hS
    unfold Oper.wp
    generalize (execOp a.eval o).run P w = r at *
    cases r with
    | ok n w' =>
      cases n <;> simp only [GivesS, Oper.upon] at h2 ⊢
      case value u => exact h2.1 ▸ h _ h2.2
      case enter f args =>
        refine h2.mono fun e w'' he => ?_
        obtain ⟨rfl, hs⟩ := he
        exact h _ hs
      case skip =>
        have h3 := h _ h2.2
        rw [h2.1] at h3 ⊢
        exact h3
    | halt x w' => exact h2.elim
  · simp only [hw, Bool.false_eq_true, if_false]; exact h _ (hs l w hS)

def ChainL (P : Program) (md : Region.Mode) (ops : Array Oper) (S : Array Bool → World → Prop) (T : Array Bool → Act → Prop) : Nat → Array Bool → Act → Prop
  | 0, listed, a => Region.ready md ops listed = [] ∧ T listed a
  | n + 1, listed, a => ∃ i o v, ops[i]? = some o ∧ i ∈ Region.ready md ops listed ∧ Freed md ops listed i o ∧ GivesL P ops S i o v a ∧ ChainL P md ops S T n (listed.setIfInBounds i true) (a.put o.dst v)

theorem ChainL.pull (hsel : ∀ (j : Nat) (o : Oper) cs b, ops[j]? = some o → o.op ≠ .select cs b) : ∀ (n : Nat) (listed : Array Bool) (a : Act) (j : Nat), ChainL P md ops S T n listed a → j ∈ Region.ready md ops listed →
    ∃ o u m, n = m + 1 ∧ ops[j]? = some o ∧ GivesL P ops S j o u a ∧ ChainL P md ops S T m (listed.setIfInBounds j true) (a.put o.dst u) := by
  intro n
  induction n with
  | zero => intro listed a j h hj; rw [h.1] at hj; cases hj
  | succ n ih =>
    intro listed a j h hj
    obtain ⟨i, oi, v, hi, hr, hf, hy, hc⟩ := h
    by_cases hji : j = i
    · subst hji; exact ⟨oi, v, n, rfl, hi, hy, hc⟩
    · obtain ⟨oj, u, m, rfl, hoj, hyj, hcj⟩ := ih _ _ j hc (ready_mono hj hji)
      obtain ⟨hjun, oj', hoj', hall⟩ := mem_ready.1 hj
      obtain rfl : oj' = oj := Option.some.inj (hoj'.symm.trans hoj)
      have hnot : ∀ e ∈ oj'.after, Region.binds md e = true → e.on ≠ i := fun e he hb heq => by
        have h1 := hall e he hb
        have h0 := (mem_ready.1 hr).1
        rw [heq] at h1
        rcases Nat.lt_or_ge i listed.size with h' | h'
        · simp [h'] at h0 h1; rw [h0] at h1; cases h1
        · simp [Array.getElem?_eq_none h'] at h1
      obtain ⟨h1, h2, h3⟩ := Oper.apart_spec (hf j oj' hoj hji hjun hnot)
      have hyj' : GivesL P ops S j oj' u a := hyj.of_same (execOp_put oj' (fun cs b => hsel j oj' cs b hoj) a oi.dst v h1).symm (wanted_put oj' a oi.dst v h1).symm
      have hyi' : GivesL P ops S i oi v (a.put oj'.dst u) := hy.of_same (execOp_put oi (fun cs b => hsel i oi cs b hi) a oj'.dst u h3) (wanted_put oi a oj'.dst u h3)
      refine ⟨oj', u, m + 1, rfl, hoj, hyj', i, oi, v, hi, ready_mono hr (Ne.symm hji), hf.more hjun, hyi', ?_⟩
      rw [Array.setIfInBounds_comm _ _ hji, ← Act.put_comm a v u h2]
      exact hcj

theorem ChainL.all (hsel : ∀ (j : Nat) (o : Oper) cs b, ops[j]? = some o → o.op ≠ .select cs b) : ∀ (n : Nat) (listed : Array Bool) (a : Act),
    ChainL P md ops S (fun l a => ∀ w, S l w → Q .normal a w) n listed a → ∀ w, S listed w → wpAny P md ops Q n listed a w := by
  intro n
  induction n with
  | zero => intro listed a h w hS; exact ⟨h.1, h.2 w hS⟩
  | succ n ih =>
    intro listed a h w hS
    refine ⟨fun h0 => ?_, fun j hj => ?_⟩
    · obtain ⟨i, _, _, _, hr, _⟩ := h
      rw [h0] at hr; cases hr
    · obtain ⟨o, u, m, hm, ho, hy, hc⟩ := ChainL.pull hsel _ _ _ j h hj
      cases hm
      exact hy.wpOp ho hS fun w' hS' => ih _ _ hc w' hS'

/-- The operations in the order of the text, each giving its value. -/
def TextL (P : Program) (ops : Array Oper) (S : Array Bool → World → Prop) (T : Act → Prop) : Nat → List Oper → Act → Prop
  | _, [], a => T a
  | k, o :: rest, a => ∃ v, GivesL P ops S k o v a ∧ TextL P ops S T (k + 1) rest (a.put o.dst v)
theorem chainL_of_text {T : Act → Prop} (hok : textOk ops = true) : ∀ (rest : List Oper) (k : Nat) (a : Act), k + rest.length = ops.size → ops.toList.drop k = rest → TextL P ops S T k rest a →
    ChainL P .any ops S (fun l a => l = mask ops.size ops.size ∧ T a) rest.length (mask ops.size k) a := by
  intro rest
  induction rest with
  | nil =>
    intro k a hk hd h
    have : ops.size ≤ k := by simpa using hd
    obtain rfl : k = ops.size := by simpa using hk
    exact ⟨mask_end _ _ this ops rfl, rfl, h⟩
  | cons o rest ih =>
    intro k a hkn hd h
    obtain ⟨v, hy, hc⟩ := h
    have hk : k < ops.size := by simp at hkn; omega
    have hd2 := List.drop_eq_getElem_cons (l := ops.toList) (i := k) (by simpa using hk)
    rw [hd] at hd2
    injection hd2 with e1 e2
    have ho : ops[k]? = some o := by rw [Array.getElem?_eq_getElem hk, e1]; simp
    have h2 := List.all_eq_true.1 hok k (by simpa using hk)
    simp only [Bool.and_eq_true] at h2
    refine ⟨k, o, v, ho, by simpa using h2.1, fun j oj hj hne hun hno => Region.free_spec ho h2.2 j oj hj hne hun hno, hy, ?_⟩
    rw [mask_set _ _ hk]
    exact ih (k + 1) _ (by simp at hkn; omega) e2.symm hc
/-- The chain with what is known of its end. -/
theorem ChainL.last {T T' : Array Bool → Act → Prop} (h : ∀ l a, T l a → T' l a) : ∀ (n : Nat) (l : Array Bool) (a : Act), ChainL P md ops S T n l a → ChainL P md ops S T' n l a := by
  intro n
  induction n with
  | zero => intro l a hc; exact ⟨hc.1, h _ _ hc.2⟩
  | succ n ih => intro l a hc; obtain ⟨i, o, v, a1, a2, a3, a4, a5⟩ := hc; exact ⟨i, o, v, a1, a2, a3, a4, ih _ _ a5⟩
/-- THE LAW: S may ask at its end that all have come. -/
theorem wp_region_texts {id : Nat} {a : Act} {w : World} (S : Array Bool → World → Prop) (hm : P.follows .mixedOrders = true) (hs : Region.noSelect ops = true) (hok : textOk ops = true) (hS : S (mask ops.size 0) w.drew)
    (h : TextL P ops (fun l w => S l w) (fun a => ∀ w, S (mask ops.size ops.size) w → Q .normal a w) 0 ops.toList a) : (Code.region id ops true).wp P Q a w := by
  refine wp_region_any hm ?_
  have hc := chainL_of_text hok ops.toList 0 a (by simp) rfl h
  have h0 : mask ops.size 0 = Array.replicate ops.size false := by
    apply Array.toList_inj.1
    simp [mask]
  rw [h0] at hc hS
  rw [Array.length_toList] at hc
  exact ChainL.all (fun j o cs b => Region.noSelect_spec hs j o cs b) _ _ _ (ChainL.last (fun l a ⟨e, ht⟩ => by subst e; exact ht) _ _ _ hc) _ hS

/-! ### The steps: st tells which operations are told of -/
/-- What is held stands when another operation comes. -/
def Stays (S : Array Bool → World → Prop) (st : Nat → Bool) : Prop := ∀ (k : Nat) (l : Array Bool) (w : World), st k = false → S l w → S (l.setIfInBounds k true) w
theorem textL_end {T : Act → Prop} {k : Nat} {a : Act} (h : T a) : TextL P ops S T k [] a := h
theorem textL_value {T : Act → Prop} {st : Nat → Bool} (hm : Stays S st) {k : Nat} {o : Oper} {rest : List Oper} {a : Act} {v : Value} (hk : st k = false) (hw : Region.wanted o (yielded ops a.tmps) = true) (hy : ∀ l w, S l w → (execOp a.eval o).run P w = .ok (.value v) w)
    (h : TextL P ops S T (k + 1) rest (a.put o.dst v)) : TextL P ops S T k (o :: rest) a := ⟨v, .inl ⟨hw, fun l w hS => by rw [hy l w hS]; exact ⟨rfl, hm k l w hk hS⟩⟩, h⟩
theorem textL_call {T : Act → Prop} {st : Nat → Bool} (hm : Stays S st) {k : Nat} {o : Oper} {rest : List Oper} {a : Act} {v : Value} {f : FuncId} {args : Array Value} (hk : st k = false) (hw : Region.wanted o (yielded ops a.tmps) = true) (hy : ∀ l w, S l w → (execOp a.eval o).run P w = .ok (.enter f args) w)
    (hc : ∀ l w, S l w → Calls P f args w fun e w' => e = .returned v ∧ S l w') (h : TextL P ops S T (k + 1) rest (a.put o.dst v)) : TextL P ops S T k (o :: rest) a :=
  ⟨v, .inl ⟨hw, fun l w hS => by rw [hy l w hS]; exact (hc l w hS).mono fun e w' hh => ⟨hh.1, hm k l w' hk hh.2⟩⟩, h⟩
theorem textL_skip {T : Act → Prop} {st : Nat → Bool} (hm : Stays S st) {k : Nat} {o : Oper} {rest : List Oper} {a : Act} (hk : st k = false) (hw : Region.wanted o (yielded ops a.tmps) = false) (h : TextL P ops S T (k + 1) rest (a.put o.dst undef)) : TextL P ops S T k (o :: rest) a := ⟨undef, .inr ⟨hw, rfl, fun l w hS => hm k l w hk hS⟩, h⟩
theorem textL_store {T : Act → Prop} {k : Nat} {o : Oper} {rest : List Oper} {a : Act} (hw : Region.wanted o (yielded ops a.tmps) = true) (hd : o.dst = none) (f : World → World) (hy : ∀ l w, S l w → (execOp a.eval o).run P w = .ok .skip (f w))
    (hs : ∀ l w, S l w → S (l.setIfInBounds k true) (f w)) (h : TextL P ops S T (k + 1) rest a) : TextL P ops S T k (o :: rest) a := ⟨undef, .inl ⟨hw, fun l w hS => by rw [hy l w hS]; exact ⟨hd, hs l w hS⟩⟩, by rw [hd]; exact h⟩
/-- What is held from the start, and what once operation z has come. -/
def Then (B R : World → Prop) (z : Nat) (l : Array Bool) (w : World) : Prop := B w ∧ (l.getD z false = true → R w)
theorem Then.stays (B R : World → Prop) (z : Nat) : Stays (Then B R z) (fun k => k == z) := fun k l w hk h => ⟨h.1, fun hz => h.2 (by
  have : k ≠ z := by simpa using hk
  rwa [getD_set_ne false this] at hz)⟩
theorem Then.start {B R : World → Prop} {z n : Nat} {w : World} (h : B w) : Then B R z (mask n 0) w := ⟨h, fun hz => by
  exfalso
  unfold mask at hz
  rcases Nat.lt_or_ge z n with h' | h'
  · simp [h'] at hz
  · simp [Nat.not_lt.2 h'] at hz⟩
theorem Then.done {B R : World → Prop} {z n : Nat} {w : World} (h : Then B R z (mask n n) w) (hz : z < n) : B w ∧ R w := ⟨h.1, h.2 (by
  unfold mask
  simp [hz])⟩
end
end Go.Proofs.YtbdbcalmjbmflaaGreatDoor
namespace Go.Proofs.YtbdbcalmjbmflaaGreatDoor
open Go.RowKit

section
variable {P : Program} {ops : Array Oper} {Q : Exit → Act → World → Prop} {sel : Nat → Bool} {val : Nat → Value} {own : List (Option Nat)} {a0 : Act} {S : (Nat → Bool) → (Nat → Value) → World → Prop}

/-- The operation that writes a slot. -/
def owner (own : List (Option Nat)) (s : Nat) : Option Nat := own.getD s none
def fillL (sel : Nat → Bool) (val : Nat → Value) : List (Option Nat) → List Value → List Value
  | some k :: r, x :: xs => (if sel k = true then val k else x) :: fillL sel val r xs
  | none :: r, x :: xs => x :: fillL sel val r xs
  | [], xs => xs
  | _ :: _, [] => []
/-- The slots once some operations have come, each with its value. -/
def actI (own : List (Option Nat)) (a0 : Act) (sel : Nat → Bool) (val : Nat → Value) : Act := { a0 with tmps := (fillL sel val own a0.tmps.toList).toArray }
def upd (val : Nat → Value) (i : Nat) (v : Value) : Nat → Value := fun k => if k = i then v else val k
def come (l : Nat → Bool) (i : Nat) : Nat → Bool := fun k => l k || k == i
def pickI (sel : Nat → Bool) (val : Nat → Value) (o : Option Nat) (x : Value) : Value := match o with
  | some k => if sel k = true then val k else x
  | none => x
theorem fillL_at (sel : Nat → Bool) (val : Nat → Value) : ∀ (own : List (Option Nat)) (xs : List Value) (s : Nat), (fillL sel val own xs)[s]? = xs[s]?.map (pickI sel val (owner own s)) := by
  intro own
  induction own with
  | nil =>
    intro xs s
    have : pickI sel val (owner [] s) = id := by funext x; simp [pickI, owner]
    rw [this]; simp [fillL]
  | cons o r ih =>
    intro xs s
    cases xs with
    | nil => cases o <;> simp [fillL]
    | cons x xs =>
      cases o <;> cases s <;> simp [fillL, owner, pickI, ih] <;> rfl
theorem actI_at (own : List (Option Nat)) (a0 : Act) (sel : Nat → Bool) (val : Nat → Value) (s : Nat) : (actI own a0 sel val).tmps[s]? = a0.tmps[s]?.map (pickI sel val (owner own s)) := by
  simp [actI, fillL_at]
theorem act_ext {a b : Act} (h : a.defers = b.defers) (hs : ∀ s : Nat, a.tmps[s]? = b.tmps[s]?) : a = b := by
  cases a; cases b
  simp only at h hs
  subst h
  congr
  exact Array.ext_getElem? hs
theorem actI_put (i : Nat) (v : Value) (d : Option Nat) (hd : ∀ s, owner own s = some i ↔ d = some s) : (actI own a0 sel val).put d v = actI own a0 (come sel i) (upd val i v) := by
  refine act_ext (by cases d <;> rfl) fun s => ?_
  rw [actI_at]
  by_cases hs : d = some s
  · have ho := (hd s).2 hs
    subst hs
    have h1 := actI_at own a0 sel val s
    simp only [Act.put, Array.getElem?_setIfInBounds_self]
    have hz : (s < (actI own a0 sel val).tmps.size) ↔ s < a0.tmps.size := by
      rcases Nat.lt_or_ge s a0.tmps.size with h | h
      · have : a0.tmps[s]? = some a0.tmps[s] := Array.getElem?_eq_getElem h
        rw [this] at h1
        have := (Array.getElem?_eq_some_iff.1 h1).1
        exact ⟨fun _ => h, fun _ => this⟩
      · rw [Array.getElem?_eq_none h] at h1
        have := Array.getElem?_eq_none_iff.1 h1
        constructor <;> intro <;> omega
    rw [ho]
    by_cases h : s < a0.tmps.size
    · rw [if_pos (hz.2 h), Array.getElem?_eq_getElem h]
      simp [pickI, come, upd]
    · rw [if_neg (fun h' => h (hz.1 h')), Array.getElem?_eq_none (by omega)]
      rfl
  · have ho : owner own s ≠ some i := fun e => hs ((hd s).1 e)
    have h1 : ((actI own a0 sel val).put d v).tmps[s]? = (actI own a0 sel val).tmps[s]? := by
      cases d with
      | none => rfl
      | some t =>
        have : t ≠ s := fun e => hs (by rw [e])
        simp [Act.put, Array.getElem?_setIfInBounds_ne this]
    rw [h1, actI_at]
    congr 1
    funext x
    unfold pickI
    cases hk : owner own s with
    | none => rfl
    | some k =>
      have hne : k ≠ i := fun e => ho (by rw [hk, e])
      simp [come, upd, hne]

def depsOf (o : Oper) : List Nat := (o.after.toList.filter (Region.binds .any)).map (·.on)
/-- The table of the slots' writers fits, and each operation waits for those that write what it looks at. -/
def invOk (ops : Array Oper) (own : List (Option Nat)) : Bool := (List.range ops.size).all fun i => match ops[i]? with
  | some o => (List.range own.length).all (fun s => (owner own s == some i) == (o.dst == some s)) && (match o.dst with | some s => decide (s < own.length) | none => true) &&
      (o.looksAt ops).all (fun s => match owner own s with | some k => (depsOf o).contains k | none => true) && (depsOf o).all (fun k => decide (k < i))
  | none => true
theorem invOk_at (hok : invOk ops own = true) {i : Nat} {o : Oper} (ho : ops[i]? = some o) :
    (∀ s, owner own s = some i ↔ o.dst = some s) ∧ (∀ s ∈ o.looksAt ops, ∀ k, owner own s = some k → k ∈ depsOf o) ∧ ∀ k ∈ depsOf o, k < i := by
  have h := List.all_eq_true.1 hok i (by have := (Array.getElem?_eq_some_iff.1 ho).1; simpa using this)
  rw [ho] at h
  simp only [Bool.and_eq_true] at h
  obtain ⟨⟨⟨h1, h2⟩, h3⟩, h4⟩ := h
  refine ⟨fun s => ?_, fun s hs k hk => ?_, fun k hk => ?_⟩
  · by_cases hs : s < own.length
    · have := List.all_eq_true.1 h1 s (by simpa using hs)
      have h5 : (owner own s == some i) = (o.dst == some s) := by simpa using this
      constructor
      · intro e
        have : (owner own s == some i) = true := by simp [e]
        rw [h5] at this
        simpa using this
      · intro e
        have : (o.dst == some s) = true := by simp [e]
        rw [← h5] at this
        simpa using this
    · constructor
      · intro e
        unfold owner at e
        rw [List.getD_eq_getElem?_getD, List.getElem?_eq_none (by omega)] at e
        cases e
      · intro e
        rw [e] at h2
        have : s < own.length := by simpa using h2
        omega
  · have := List.all_eq_true.1 h3 s hs
    rw [hk] at this
    simpa using this
  · simpa using List.all_eq_true.1 h4 k hk

theorem evalI (sel : Nat → Bool) (o : Oper) (hs : ∀ cs b, o.op ≠ .select cs b) (hl : ∀ s ∈ o.looksAt ops, ∀ k, owner own s = some k → sel k = true) :
    execOp (actI own a0 sel val).eval o = execOp (actI own a0 (fun _ => true) val).eval o ∧
    Region.wanted o (yielded ops (actI own a0 sel val).tmps) = Region.wanted o (yielded ops (actI own a0 (fun _ => true) val).tmps) := by
  have hp : ∀ s ∈ o.looksAt ops, (actI own a0 sel val).tmps[s]? = (actI own a0 (fun _ => true) val).tmps[s]? := fun s h => by
    rw [actI_at, actI_at]
    congr 1
    funext x
    unfold pickI
    cases hk : owner own s with
    | none => rfl
    | some k => simp [hl s h k hk]
  constructor
  · refine execOp_congr o hs fun x hx => ?_
    cases x with
    | tmp s =>
      have := hp s (List.mem_append_left _ (List.mem_filterMap.2 ⟨.tmp s, by simpa using hx, rfl⟩))
      simp only [Act.eval]
      simp [this]
    | _ => rfl
  · unfold Region.wanted
    cases hg : o.guard with
    | none => rfl
    | some gw =>
      obtain ⟨g, want⟩ := gw
      have : yielded ops (actI own a0 sel val).tmps g = yielded ops (actI own a0 (fun _ => true) val).tmps g := by
        unfold yielded
        cases ht : (ops[g]?).bind (·.dst) with
        | none => rfl
        | some t =>
          have := hp t (by simp [Oper.looksAt, hg, ht])
          simp only [Option.bind_some, this]
      simp only [this]

def GivesI (P : Program) (R : Value → World → Prop) : Result Next → Prop
  | .ok (.value v) w' => R v w'
  | .ok (.enter f args) w' => Calls P f args w' fun e w'' => ∃ v, e = .returned v ∧ R v w''
  | .ok .skip w' => R undef w'
  | _ => False
/-- Operation i, once what it waits for has come, keeps what is held. -/
def StepI (P : Program) (ops : Array Oper) (own : List (Option Nat)) (a0 : Act) (S : (Nat → Bool) → (Nat → Value) → World → Prop) (i : Nat) (o : Oper) : Prop :=
  ∀ l val w, S l val w → (∀ k ∈ depsOf o, l k = true) → l i = false →
    (Region.wanted o (yielded ops (actI own a0 (fun _ => true) val).tmps) = true ∧ GivesI P (fun v w' => S (come l i) (upd val i v) w') ((execOp (actI own a0 (fun _ => true) val).eval o).run P w)) ∨
    (Region.wanted o (yielded ops (actI own a0 (fun _ => true) val).tmps) = false ∧ S (come l i) (upd val i undef) w)
def StepsI (P : Program) (ops : Array Oper) (own : List (Option Nat)) (a0 : Act) (S : (Nat → Bool) → (Nat → Value) → World → Prop) : Nat → List Oper → Prop
  | _, [] => True
  | k, o :: r => StepI P ops own a0 S k o ∧ StepsI P ops own a0 S (k + 1) r
theorem stepsI_at : ∀ (l : List Oper) (k : Nat), StepsI P ops own a0 S k l → ∀ j o, l[j]? = some o → StepI P ops own a0 S (k + j) o := by
  intro l
  induction l with
  | nil => intro k _ j o h; simp at h
  | cons x r ih =>
    intro k h j o ho
    cases j with
    | zero => simp at ho; subst ho; exact h.1
    | succ j =>
      have := ih (k + 1) h.2 j o (by simpa using ho)
      rwa [show k + 1 + j = k + (j + 1) by omega] at this

def selOf (l : Array Bool) : Nat → Bool := fun k => l.getD k false
theorem selOf_set {l : Array Bool} {i : Nat} (hi : i < l.size) : selOf (l.setIfInBounds i true) = come (selOf l) i := by
  funext k
  unfold selOf come
  by_cases h : k = i
  · subst h; simp [hi]
  · rw [getD_set_ne false (Ne.symm h)]; simp [h]
/-- How many are still to come. -/
def left (l : Array Bool) : Nat := (l.toList.filter (!·)).length
theorem left_set {l : Array Bool} {i : Nat} (hi : i < l.size) (h : l.getD i true = false) : left (l.setIfInBounds i true) + 1 = left l := by
  unfold left
  rw [Array.toList_setIfInBounds]
  have hi' : i < l.toList.length := by simpa using hi
  have hv : l.toList[i] = false := by simpa [hi] using h
  generalize l.toList = L at *
  clear h hi
  induction L generalizing i with
  | nil => simp at hi'
  | cons x r ih =>
    cases i with
    | zero => simp at hv; subst hv; simp
    | succ i =>
      have := ih (i := i) (by simpa using hi') (by simpa using hv)
      cases x <;> simp [List.set_cons_succ] at this ⊢ <;> omega
theorem left_none {l : Array Bool} (h : left l = 0) : ∀ i, i < l.size → l.getD i false = true := by
  intro i hi
  unfold left at h
  have : l.toList.filter (!·) = [] := List.eq_nil_of_length_eq_zero h
  rw [List.filter_eq_nil_iff] at this
  have h2 := this l[i] (by simp)
  simp at h2
  simp [hi, h2]

theorem invAny (hsel : ∀ (j : Nat) (o : Oper) cs b, ops[j]? = some o → o.op ≠ .select cs b) (hok : invOk ops own = true) (hstep : StepsI P ops own a0 S 0 ops.toList)
    (hend : ∀ l val w, S l val w → (∀ k, k < ops.size → l k = true) → Q .normal (actI own a0 (fun _ => true) val) w) (hown : ∀ s k, owner own s = some k → k < ops.size) :
    ∀ (n : Nat) (l : Array Bool) (val : Nat → Value) (w : World), left l ≤ n → l.size = ops.size → S (selOf l) val w → wpAny P .any ops Q n l (actI own a0 (selOf l) val) w := by
  have done : ∀ (l : Array Bool) (val : Nat → Value) (w : World), l.size = ops.size → S (selOf l) val w → (∀ i, i < l.size → l.getD i false = true) → Q .normal (actI own a0 (selOf l) val) w := fun l val w hl hS hall => by
    have h1 := hend _ _ _ hS (fun k hk => hall k (by omega))
    have h2 : actI own a0 (selOf l) val = actI own a0 (fun _ => true) val := act_ext rfl fun s => by
      rw [actI_at, actI_at]
      congr 1
      funext x
      unfold pickI
      cases hk : owner own s with
      | none => rfl
      | some k => simp [selOf, hall k (by have := hown s k hk; omega)]
    rw [h2]; exact h1
  have full : ∀ (l : Array Bool), l.size = ops.size → Region.ready .any ops l = [] → ∀ i, i < l.size → l.getD i false = true := fun l hl hr i => by
    induction i using Nat.strongRecOn with
    | _ i ih =>
      intro hi
      cases hv : l.getD i false with
      | true => rfl
      | false =>
        exfalso
        obtain ⟨o, ho⟩ : ∃ o, ops[i]? = some o := ⟨_, Array.getElem?_eq_getElem (by omega)⟩
        have h3 := (invOk_at hok ho).2.2
        have : i ∈ Region.ready .any ops l := mem_ready.2 ⟨by simpa [hi] using hv, o, ho, fun e he hb => by
          have hk : e.on ∈ depsOf o := by
            unfold depsOf
            exact List.mem_map.2 ⟨e, List.mem_filter.2 ⟨by simpa using he, hb⟩, rfl⟩
          exact ih e.on (h3 _ hk) (by have := h3 _ hk; omega)⟩
        rw [hr] at this; cases this
  intro n
  induction n with
  | zero =>
    intro l val w hn hl hS
    have hall := left_none (by omega : left l = 0)
    refine ⟨?_, done l val w hl hS hall⟩
    cases hr : Region.ready .any ops l with
    | nil => rfl
    | cons j r =>
      exfalso
      have hj : j ∈ Region.ready .any ops l := by rw [hr]; simp
      obtain ⟨h0, o, ho, _⟩ := mem_ready.1 hj
      have hlt : j < l.size := by rw [hl]; exact (Array.getElem?_eq_some_iff.1 ho).1
      have := hall j hlt
      simp [hlt] at this h0
      rw [this] at h0; cases h0
  | succ n ih =>
    intro l val w hn hl hS
    refine ⟨fun hr => done l val w hl hS (full l hl hr), fun j hj => ?_⟩
    obtain ⟨h0, o, ho, hdep⟩ := mem_ready.1 hj
    have hlt : j < l.size := by rw [hl]; exact (Array.getElem?_eq_some_iff.1 ho).1
    obtain ⟨k1, k2, k3⟩ := invOk_at hok ho
    have hdeps : ∀ k ∈ depsOf o, selOf l k = true := fun k hk => by
      obtain ⟨e, he, rfl⟩ := List.mem_map.1 hk
      obtain ⟨he1, he2⟩ := List.mem_filter.1 he
      exact hdep e (by simpa using he1) he2
    have hst := stepsI_at ops.toList 0 hstep j o (by simpa using ho)
    rw [Nat.zero_add] at hst
    have hj0 : selOf l j = false := by simpa [selOf, hlt] using h0
    obtain ⟨e1, e2⟩ := evalI (val := val) (a0 := a0) (selOf l) o (fun cs b => hsel j o cs b ho) (fun s hs k hk => hdeps k (k2 s hs k hk))
    have hnext : ∀ v w', S (come (selOf l) j) (upd val j v) w' → wpAny P .any ops Q n (l.setIfInBounds j true) ((actI own a0 (selOf l) val).put o.dst v) w' := fun v w' hS' => by
      rw [actI_put j v o.dst k1, ← selOf_set hlt]
      exact ih _ _ _ (by have := left_set hlt h0; omega) (by simpa using hl) (by rw [selOf_set hlt]; exact hS')
    unfold Go.wpOp
    simp only [ho]
    rcases hst _ val w hS hdeps hj0 with ⟨hw, hg⟩ | ⟨hw, hs⟩
    · rw [if_pos (by rw [e2]; exact hw)]
      refine .inl ?_
      unfold Oper.wp
      rw [e1]
      generalize (execOp (actI own a0 (fun _ => true) val).eval o).run P w = r at *
      cases r with
      | ok nx w' =>
        cases nx <;> simp only [GivesI, Oper.upon] at hg ⊢
        case value v => exact hnext _ _ hg
        case skip => exact hnext _ _ hg
        case enter f args =>
          refine hg.mono fun e w'' he => ?_
          obtain ⟨v, rfl, hs⟩ := he
          exact hnext _ _ hs
      | halt x w' => exact hg.elim
    · rw [if_neg (by rw [e2, hw]; decide)]
      exact hnext _ _ hs
/-- THE LAW. -/
theorem wp_region_inv {id : Nat} {w : World} (own : List (Option Nat)) (S : (Nat → Bool) → (Nat → Value) → World → Prop) (hm : P.follows .mixedOrders = true) (hs : Region.noSelect ops = true) (hok : invOk ops own = true)
    (hown : (List.range own.length).all (fun s => match owner own s with | some k => decide (k < ops.size) | none => true) = true)
    (h0 : S (fun _ => false) (fun _ => undef) w.drew) (hstep : StepsI P ops own a0 S 0 ops.toList)
    (hend : ∀ l val w, S l val w → (∀ k, k < ops.size → l k = true) → Q .normal (actI own a0 (fun _ => true) val) w) : (Code.region id ops true).wp P Q a0 w := by
  refine wp_region_any hm ?_
  have hsel : selOf (Array.replicate ops.size false) = fun _ => false := by
    funext k
    unfold selOf
    rcases Nat.lt_or_ge k ops.size with h | h
    · simp [h]
    · simp [Nat.not_lt.2 h]
  have := invAny (Q := Q) (fun j o cs b => Region.noSelect_spec hs j o cs b) hok hstep hend (fun s k hk => by
    rcases Nat.lt_or_ge s own.length with h | h
    · have := List.all_eq_true.1 hown s (by simpa using h)
      rw [hk] at this
      simpa using this
    · unfold owner at hk
      rw [List.getD_eq_getElem?_getD, List.getElem?_eq_none h] at hk; cases hk) ops.size (Array.replicate ops.size false) (fun _ => undef) w.drew (by simp [left]) (by simp) (by rw [hsel]; exact h0)
  rw [hsel] at this
  have ha : actI own a0 (fun _ => false) (fun _ => undef) = a0 := act_ext rfl fun s => by
    rw [actI_at]
    have : pickI (fun _ => false) (fun _ => undef) (owner own s) = _root_.id := by
      funext x; unfold pickI; cases owner own s <;> simp
    rw [this]; simp
  rw [ha] at this
  exact this

/-- A table of values: what has come has its value. -/
def Tab (tbl : List (Nat × Value)) (l : Nat → Bool) (val : Nat → Value) : Prop := ∀ p ∈ tbl, l p.1 = true → val p.1 = p.2
theorem Tab.put {tbl : List (Nat × Value)} {l : Nat → Bool} {val : Nat → Value} (h : Tab tbl l val) {i : Nat} {v : Value} (hv : ∀ p ∈ tbl, p.1 = i → p.2 = v) : Tab tbl (come l i) (upd val i v) := fun p hp hl => by
  unfold upd
  by_cases hi : p.1 = i
  · rw [if_pos hi, hv p hp hi]
  · rw [if_neg hi]
    refine h p hp ?_
    simpa [come, hi] using hl
theorem Tab.start (tbl : List (Nat × Value)) : Tab tbl (fun _ => false) (fun _ => undef) := fun _ _ h => by cases h

/-! ### Steps over a table and a part about the world -/
def Held2 (tbl : List (Nat × Value)) (Wd : (Nat → Bool) → (Nat → Value) → World → Prop) (l : Nat → Bool) (val : Nat → Value) (w : World) : Prop := Tab tbl l val ∧ Wd l val w
theorem stepI_value {tbl : List (Nat × Value)} {Wd : (Nat → Bool) → (Nat → Value) → World → Prop} {i : Nat} {o : Oper} (v : Value) (hv : ∀ p ∈ tbl, p.1 = i → p.2 = v) (hm : ∀ l val w, Wd l val w → Wd (come l i) (upd val i v) w)
    (hw : ∀ l val w, Tab tbl l val → Wd l val w → (∀ k ∈ depsOf o, l k = true) → Region.wanted o (yielded ops (actI own a0 (fun _ => true) val).tmps) = true ∧ (execOp (actI own a0 (fun _ => true) val).eval o).run P w = .ok (.value v) w) :
    StepI P ops own a0 (Held2 tbl Wd) i o := fun l val w hS hd _ => by
  obtain ⟨h1, h2⟩ := hw l val w hS.1 hS.2 hd
  refine .inl ⟨h1, ?_⟩
  rw [h2]
  exact ⟨hS.1.put hv, hm _ _ _ hS.2⟩
theorem stepI_call {tbl : List (Nat × Value)} {Wd : (Nat → Bool) → (Nat → Value) → World → Prop} {i : Nat} {o : Oper} (v : Value) (hv : ∀ p ∈ tbl, p.1 = i → p.2 = v) (hm : ∀ l val w, Wd l val w → Wd (come l i) (upd val i v) w) (f : FuncId) (args : Array Value)
    (hw : ∀ l val w, Tab tbl l val → Wd l val w → (∀ k ∈ depsOf o, l k = true) → Region.wanted o (yielded ops (actI own a0 (fun _ => true) val).tmps) = true ∧ (execOp (actI own a0 (fun _ => true) val).eval o).run P w = .ok (.enter f args) w)
    (hc : ∀ l val w, Wd l val w → Calls P f args w fun e w' => e = .returned v ∧ Wd l val w') :
    StepI P ops own a0 (Held2 tbl Wd) i o := fun l val w hS hd _ => by
  obtain ⟨h1, h2⟩ := hw l val w hS.1 hS.2 hd
  refine .inl ⟨h1, ?_⟩
  rw [h2]
  exact (hc l val w hS.2).mono fun e w' ⟨he, hh⟩ => ⟨v, he, hS.1.put hv, hm _ _ _ hh⟩
/-- An operation of which the table says nothing, that turns the world. -/
theorem stepI_turn {tbl : List (Nat × Value)} {Wd : (Nat → Bool) → (Nat → Value) → World → Prop} {i : Nat} {o : Oper} (hv : ∀ p ∈ tbl, p.1 ≠ i)
    (hw : ∀ l val w, Tab tbl l val → Wd l val w → (∀ k ∈ depsOf o, l k = true) → l i = false → Region.wanted o (yielded ops (actI own a0 (fun _ => true) val).tmps) = true ∧
      ((∃ v w', (execOp (actI own a0 (fun _ => true) val).eval o).run P w = .ok (.value v) w' ∧ Wd (come l i) (upd val i v) w') ∨ ∃ w', (execOp (actI own a0 (fun _ => true) val).eval o).run P w = .ok .skip w' ∧ Wd (come l i) (upd val i undef) w')) :
    StepI P ops own a0 (Held2 tbl Wd) i o := fun l val w hS hd hi => by
  obtain ⟨h1, ⟨v, w', h2, h3⟩ | ⟨w', h2, h3⟩⟩ := hw l val w hS.1 hS.2 hd hi
  · refine .inl ⟨h1, ?_⟩
    rw [h2]
    exact ⟨hS.1.put fun p hp e => absurd e (hv p hp), h3⟩
  · refine .inl ⟨h1, ?_⟩
    rw [h2]
    exact ⟨hS.1.put fun p hp e => absurd e (hv p hp), h3⟩
end
end Go.Proofs.YtbdbcalmjbmflaaGreatDoor
namespace Go.Proofs.YtbdbcalmjbmflaaGreatDoor
open Go.RowKit

set_option maxRecDepth 100000 in
theorem index_any (A : Option Addr) (n c : Nat) (xs : List Int) (x : Int) (B : Nat) (w : World) (h : Rd w B A n (cells .i64 xs)) (hn : n ≤ 1000000) :
    Calls Tryz.prog 107 #[.slice A n c, .int .i64 x] w fun e w' => ∃ r : Int, e = .returned (.int .i64 r) ∧ decide (0 ≤ r) = xs.contains x ∧ w = w' := by
  have hl := h.1
  rw [cells_len] at hl
  have H := hide h
  have Hl := hide hl
  clear h
  go_enter Tryz.func107, Tryz.ntmps107
  go_wp2_with fail
  go_loopw [8] (fun iv wr => ∃ k : Nat, k ≤ n ∧ iv = .int .i64 k ∧ wr = w ∧ (xs.take k).contains x = false) (fun iv _ => n - (intOf iv).toNat)
  case atStart => exact ⟨0, Nat.zero_le _, rfl, rfl, rfl⟩
  case round =>
    obtain ⟨k, hk, rfl, rfl, hno⟩ := hrel
    have Hno := hide hno
    clear hno
    by_cases hlt : k < n
    · obtain ⟨g, o, rfl, hc⟩ := cells_at H.out hlt
      have hlt' : (k : Int) < (n : Int) := by omega
      have hst : Hid (xs.take (k + 1) = xs.take k ++ [xs.getD k 0]) := hide (by
        rw [List.take_succ_eq_append_getElem (by omega)]; simp [List.getD, show k < xs.length by omega])
      have hmem : Hid (xs.getD k 0 ∈ xs) := hide (by simp [List.getD, show k < xs.length by omega])
      generalize xs.getD k 0 = y at *
      by_cases hy : x = y
      · subst hy
        have HY : Hid (xs.contains x = true) := hide (by simpa using hmem.out)
        clear hmem hst
        go_wp2_with fail
        go_ret
        exact ⟨k, rfl, by rw [HY.out]; simp, rfl⟩
      · have HY : Hid ((xs.take (k + 1)).contains x = false) := hide (by rw [hst.out, List.contains_append, Hno.out]; simpa using hy)
        have hyb : (x == y) = false := by simpa using hy
        clear hmem hst
        go_wp2_with fail
        go_roundw
        case rel => exact ⟨k + 1, by omega, by go_num, trivial, HY.out⟩
        case measure => simp [intOf]; omega
    · obtain rfl : k = n := by omega
      have HY : Hid (xs.contains x = false) := hide (by have := Hno.out; rwa [List.take_of_length_le (by have := Hl.out; omega)] at this)
      go_wp2_with fail
      go_ret
      exact ⟨-1, rfl, by rw [HY.out]; rfl, rfl⟩

theorem contains_is (A : Option Addr) (n c : Nat) (xs : List Int) (x : Int) (B : Nat) (w : World) (h : Rd w B A n (cells .i64 xs)) (hn : n ≤ 1000000) :
    Calls Tryz.prog 91 #[.slice A n c, .int .i64 x] w fun e w' => e = .returned (.bool (xs.contains x)) ∧ w = w' := by
  have H := hide (index_any A n c xs x B w h hn)
  generalize xs.contains x = D at *
  clear h
  go_enter Tryz.func91, Tryz.ntmps91
  go_wp2_with fail
  refine H.out.mono ?_
  rintro e w1 ⟨r, rfl, hr, rfl⟩
  have Hr := hide hr
  clear hr
  go_wp2_with fail
  go_ret
  exact ⟨ret_bool Hr.out, rfl⟩

/-- An entry of one of the tags, or none. -/
def entryV : Option Cst → Value
  | some x => .tuple #[.agg x.cells.toArray, .bool true]
  | none => .tuple #[.agg noC.cells.toArray, .bool false]
def entryAt (ps : List Cst) (i : Int) (tags : List Int) : Option Cst := if 0 ≤ i ∧ i < ps.length ∧ tags.contains (atC ps i).tag = true then some (atC ps i) else none

/-- The zero entry's cells, written out. -/
abbrev zC : Array Value := #[.int .i64 0, .string ⟨#[]⟩, .int .i64 0, .int .i64 0, .int .i64 0]

set_option maxHeartbeats 4000000 in
set_option maxRecDepth 100000 in
theorem entry_any (A : Option Addr) (n c : Nat) (ps : List Cst) (B : Nat) (i : Int) (T : Option Addr) (m d : Nat) (ts : List Int) (B' : Nat) (w : World) (h : RdC w B A n ps) (hB : B ≤ w.heap.size) (ht : Rd w B' T m (cells .i64 ts)) (hB' : B' ≤ w.heap.size) (hm : m ≤ 1000000) :
    Calls Tryz.prog 72 #[.slice A n c, .int .i64 i, .slice T m d] w fun e w' => e = .returned (entryV (entryAt ps i ts)) ∧ Below w.heap.size w w' := by
  have HT : Hid (∀ (x : Int) W, Below w.heap.size w W → Calls Tryz.prog 91 #[.slice T m d, .int .i64 x] W fun e w' => e = .returned (.bool (ts.contains x)) ∧ W = w') := hide fun x W hb => contains_is T m d ts x B' W (ht.below (hb.mono hB')) hm
  obtain ⟨D, hD⟩ : ∃ D, entryV (entryAt ps i ts) = D := ⟨_, rfl⟩
  rw [hD]
  have hl := h.1
  by_cases hi : 0 ≤ i ∧ i < (n : Int)
  · obtain ⟨j, rfl⟩ : ∃ j : Nat, i = j := ⟨i.toNat, by omega⟩
    have hj : j < n := by omega
    have hji : (j : Int) < (n : Int) := hi.2
    have hb0 : Below w.heap.size w (w.alloc (.cells #[.int .i64 0, .string ⟨#[]⟩, .int .i64 0, .int .i64 0, .int .i64 0] 109)) := (Below.refl _ w).alloc (Nat.le_refl _) _
    obtain ⟨g, o, rfl, hg, c0, c1, c2, c3, c4⟩ := h.cells5 hj
    have HD : Hid (D = entryV (if ts.contains (ps.getD j noC).tag = true then some (ps.getD j noC) else none)) := hide (by
      rw [← hD]; unfold entryAt; rw [atC_in hl hj]
      by_cases hc : ts.contains (ps.getD j noC).tag = true
      · rw [if_pos hc, if_pos ⟨by omega, by omega, hc⟩]
      · rw [if_neg hc, if_neg (fun h => hc h.2.2)])
    generalize (ps.getD j noC) = x at *
    obtain ⟨x0, x1, x2, x3, x4⟩ := x
    simp only at HD c0 c1 c2 c3 c4
    have HT0 := hide (HT.out x0 _ hb0)
    have d0 := (hb0.cell (p := ⟨g, o + j * 5, none⟩) (Nat.lt_of_lt_of_le hg hB)).trans c0
    have d1 := (hb0.cell (p := ⟨g, o + j * 5 + 1, none⟩) (Nat.lt_of_lt_of_le hg hB)).trans c1
    have d2 := (hb0.cell (p := ⟨g, o + j * 5 + 2, none⟩) (Nat.lt_of_lt_of_le hg hB)).trans c2
    have d3 := (hb0.cell (p := ⟨g, o + j * 5 + 3, none⟩) (Nat.lt_of_lt_of_le hg hB)).trans c3
    have d4 := (hb0.cell (p := ⟨g, o + j * 5 + 4, none⟩) (Nat.lt_of_lt_of_le hg hB)).trans c4
    cases hc : ts.contains x0
    · rw [hc] at HT0 HD
      have HD2 : Hid (D = .tuple #[.agg #[.int .i64 0, .string ⟨#[]⟩, .int .i64 0, .int .i64 0, .int .i64 0], .bool false]) := hide (by rw [HD.out]; rfl)
      clear HD hD hc HT h ht
      go_enter Tryz.func72, Tryz.ntmps72
      go_wp2_with fail
      refine HT0.out.mono ?_
      rintro e w1 ⟨rfl, rfl⟩
      go_wp2_with fail
      refine bodyPost_ret (v := .tuple #[.agg #[.int .i64 0, .string ⟨#[]⟩, .int .i64 0, .int .i64 0, .int .i64 0], .bool false]) ?_ rfl ⟨by rw [HD2.out], ?_⟩
      · simp [results, Tryz.results72, go_sem]
      · repeat (first | with_reducible exact (Below.refl _ _) | with_reducible refine Below.drew ?_ | with_reducible refine below_drewN ?_ _ | ((with_reducible refine Below.setCell ?_ ?hp _); case hp => simp) | ((with_reducible refine Below.alloc ?_ ?hp _); case hp => first | omega | (simp; done) | (simp; omega)))
    · rw [hc] at HT0 HD
      have HD2 : Hid (D = .tuple #[.agg #[.int .i64 x0, .string (strOfNums x1), .int .i64 x2, .int .i64 x3, .int .i64 x4], .bool true]) := hide (by rw [HD.out]; rfl)
      generalize strOfNums x1 = q1 at *
      clear HD hD hc HT h ht
      go_enter Tryz.func72, Tryz.ntmps72
      go_wp2_with fail
      refine HT0.out.mono ?_
      rintro e w1 ⟨rfl, rfl⟩
      go_wp2_with fail
      refine bodyPost_ret (v := .tuple #[.agg #[.int .i64 x0, .string q1, .int .i64 x2, .int .i64 x3, .int .i64 x4], .bool true]) ?_ rfl ⟨by rw [HD2.out], ?_⟩
      · simp [results, Tryz.results72, go_sem]
      · repeat (first | with_reducible exact (Below.refl _ _) | with_reducible refine Below.drew ?_ | with_reducible refine below_drewN ?_ _ | ((with_reducible refine Below.setCell ?_ ?hp _); case hp => simp) | ((with_reducible refine Below.alloc ?_ ?hp _); case hp => first | omega | (simp; done) | (simp; omega)))
  · have HD2 : Hid (D = .tuple #[.agg #[.int .i64 0, .string ⟨#[]⟩, .int .i64 0, .int .i64 0, .int .i64 0], .bool false]) := hide (by
      rw [← hD, entryAt, if_neg (by omega)]; rfl)
    clear hD HT h ht
    rcases (by omega : i < 0 ∨ (¬ i < 0 ∧ (n : Int) ≤ i)) with h1 | ⟨h1, h2⟩
    all_goals
      clear hi
      go_enter Tryz.func72, Tryz.ntmps72
      go_wp2_with fail
      refine bodyPost_ret (v := .tuple #[.agg #[.int .i64 0, .string ⟨#[]⟩, .int .i64 0, .int .i64 0, .int .i64 0], .bool false]) ?_ rfl ⟨by rw [HD2.out], ?_⟩
      · simp [results, Tryz.results72, go_sem]
      · repeat (first | with_reducible exact (Below.refl _ _) | with_reducible refine Below.drew ?_ | with_reducible refine below_drewN ?_ _ | ((with_reducible refine Below.setCell ?_ ?hp _); case hp => simp) | ((with_reducible refine Below.alloc ?_ ?hp _); case hp => first | omega | (simp; done) | (simp; omega)))
/-- Of tags that are not nought. -/
theorem entryAt_of {ps : List Cst} {i : Int} {ts : List Int} (h0 : ts.contains 0 = false) : entryAt ps i ts = if ts.contains (atC ps i).tag = true then some (atC ps i) else none := by
  unfold entryAt
  by_cases hi : 0 ≤ i ∧ i < ps.length
  · by_cases hc : ts.contains (atC ps i).tag = true
    · rw [if_pos hc, if_pos ⟨hi.1, hi.2, hc⟩]
    · rw [if_neg hc, if_neg (fun h => hc h.2.2)]
  · have : (atC ps i).tag = 0 := by unfold atC; rw [if_neg hi]; rfl
    rw [if_neg (by omega), this, if_neg (by rw [h0]; decide)]
end Go.Proofs.YtbdbcalmjbmflaaGreatDoor
namespace Go.Proofs.YtbdbcalmjbmflaaGreatDoor
open Go.RowKit

theorem entry_lit (A : Option Addr) (n c : Nat) (ps : List Cst) (i : Int) (ts : List Int) (w : World) (h : RdC w w.heap.size A n ps) (hm : ts.length ≤ 1000000) :
    Calls Tryz.prog 72 #[.slice A n c, .int .i64 i, .slice (some ⟨w.heap.size, 0, none⟩) ts.length ts.length] (w.alloc (.cells (cells .i64 ts).toArray 3)) fun e w' => e = .returned (entryV (entryAt ps i ts)) ∧ Below w.heap.size w w' := by
  have hr : Rd (w.alloc (.cells (cells .i64 ts).toArray 3)) (w.heap.size + 1) (some ⟨w.heap.size, 0, none⟩) ts.length (cells .i64 ts) := by
    have := Rd.made w 3 (cells .i64 ts); rwa [cells_len] at this
  refine (entry_any A n c ps w.heap.size i _ _ _ ts (w.heap.size + 1) _ (h.below ((Below.refl _ w).alloc (Nat.le_refl _) _)) (by simp) hr (by simp) hm).mono fun e w' hh => ⟨hh.1, ?_⟩
  exact ((Below.refl _ w).alloc (Nat.le_refl _) _).trans (hh.2.mono (by simp))
theorem entryV_none : entryV none = .tuple #[.agg #[.int .i64 0, .string ⟨#[]⟩, .int .i64 0, .int .i64 0, .int .i64 0], .bool false] := rfl
theorem entryV_some (x : Cst) : entryV (some x) = .tuple #[.agg #[.int .i64 x.tag, .string (strOfNums x.text), .int .i64 x.num, .int .i64 x.a, .int .i64 x.b], .bool true] := rfl

set_option maxHeartbeats 4000000 in
set_option maxRecDepth 100000 in
theorem text_is (A : Option Addr) (n c : Nat) (ps : List Cst) (i : Int) (w : World) (h : RdC w w.heap.size A n ps) :
    Calls Tryz.prog 66 #[.slice A n c, .int .i64 i] w fun e w' => e = .returned (textV (textAt ps i)) ∧ Below w.heap.size w w' := by
  obtain ⟨D, hD⟩ : ∃ D, textV (textAt ps i) = D := ⟨_, rfl⟩
  rw [hD]
  have hE : Calls Tryz.prog 72 #[.slice A n c, .int .i64 i, .slice (some ⟨w.heap.size, 0, none⟩) 1 1] (w.alloc (.cells #[.int .i64 1] 3)) fun e w' => e = .returned (entryV (entryAt ps i [1])) ∧ Below w.heap.size w w' := entry_lit A n c ps i [1] w h (by decide)
  rw [entryAt_of (by decide)] at hE
  unfold textAt at hD
  by_cases ht : (atC ps i).tag = 1
  · rw [if_pos ht] at hD
    rw [if_pos (by rw [ht]; decide), entryV_some] at hE
    have HD : Hid (D = .tuple #[.string (strOfNums (atC ps i).text), .bool true]) := hide (by rw [← hD]; rfl)
    have HE := hide hE
    generalize strOfNums (atC ps i).text = q at *
    generalize (atC ps i).tag = y0 at *
    generalize (atC ps i).num = y1 at *
    generalize (atC ps i).a = y2 at *
    generalize (atC ps i).b = y3 at *
    clear hD hE h ht
    go_enter Tryz.func66, Tryz.ntmps66
    go_wp2_with fail
    refine HE.out.mono ?_
    rintro e w1 ⟨rfl, hb⟩
    have Hb := hide hb
    have hs := hb.size
    clear hb
    go_wp2_with fail
    go_ret2
    exact ⟨by rw [HD.out]; rfl, by repeat (first | with_reducible exact Hb.out | with_reducible refine Below.drew ?_ | with_reducible refine below_drewN ?_ _ | ((with_reducible refine Below.setCell ?_ ?hp _); case hp => simp) | ((with_reducible refine Below.alloc ?_ ?hp _); case hp => first | omega | (simp; done) | (simp; omega)))⟩
  · rw [if_neg ht] at hD
    rw [if_neg (by simpa using ht), entryV_none] at hE
    have HD : Hid (D = .tuple #[.string ⟨#[]⟩, .bool false]) := hide (by rw [← hD]; rfl)
    have HE := hide hE
    clear hD hE h ht
    go_enter Tryz.func66, Tryz.ntmps66
    go_wp2_with fail
    refine HE.out.mono ?_
    rintro e w1 ⟨rfl, hb⟩
    have Hb := hide hb
    have hs := hb.size
    clear hb
    go_wp2_with fail
    go_ret2
    exact ⟨by rw [HD.out]; rfl, by repeat (first | with_reducible exact Hb.out | with_reducible refine Below.drew ?_ | with_reducible refine below_drewN ?_ _ | ((with_reducible refine Below.setCell ?_ ?hp _); case hp => simp) | ((with_reducible refine Below.alloc ?_ ?hp _); case hp => first | omega | (simp; done) | (simp; omega)))⟩

theorem textV_pair (o : Option (List Int)) : textV o = .tuple #[.string (strOfNums (o.getD [])), .bool o.isSome] := by
  cases o with
  | none => rfl
  | some t => rfl

set_option maxHeartbeats 4000000 in
set_option maxRecDepth 100000 in
theorem class_is (A : Option Addr) (n c : Nat) (ps : List Cst) (i : Int) (w : World) (h : RdC w w.heap.size A n ps) :
    Calls Tryz.prog 48 #[.slice A n c, .int .i64 i] w fun e w' => e = .returned (textV (classAt ps i)) ∧ Below w.heap.size w w' := by
  obtain ⟨D, hD⟩ : ∃ D, textV (classAt ps i) = D := ⟨_, rfl⟩
  rw [hD]
  have hE : Calls Tryz.prog 72 #[.slice A n c, .int .i64 i, .slice (some ⟨w.heap.size, 0, none⟩) 1 1] (w.alloc (.cells #[.int .i64 7] 3)) fun e w' => e = .returned (entryV (entryAt ps i [7])) ∧ Below w.heap.size w w' := entry_lit A n c ps i [7] w h (by decide)
  rw [entryAt_of (by decide)] at hE
  unfold classAt at hD
  by_cases ht : (atC ps i).tag = 7
  · rw [if_pos ht] at hD
    rw [if_pos (by rw [ht]; decide), entryV_some] at hE
    have HT : Hid (∀ x W, Below w.heap.size w W → Calls Tryz.prog 66 #[.slice A n c, .int .i64 x] W fun e w' => e = .returned (textV (textAt ps x)) ∧ Below W.heap.size W w') := hide fun x W hb => text_is A n c ps x W ((h.below hb).mono hb.size)
    have HE := hide hE
    generalize strOfNums (atC ps i).text = q at *
    generalize (atC ps i).tag = y0 at *
    generalize (atC ps i).num = y1 at *
    generalize (atC ps i).a = y2 at *
    generalize (atC ps i).b = y3 at *
    rw [textV_pair] at hD
    have HT1 : Hid (∀ W, Below w.heap.size w W → Calls Tryz.prog 66 #[.slice A n c, .int .i64 y2] W fun e w' => e = .returned (.tuple #[.string (strOfNums ((textAt ps y2).getD [])), .bool (textAt ps y2).isSome]) ∧ Below W.heap.size W w') := hide fun W hb => by rw [← textV_pair]; exact HT.out y2 W hb
    generalize strOfNums ((textAt ps y2).getD []) = tq at *
    generalize (textAt ps y2).isSome = tb at *
    have HD := hide hD
    clear hD hE h ht HT
    go_enter Tryz.func48, Tryz.ntmps48
    go_wp2_with fail
    refine HE.out.mono ?_
    rintro e w1 ⟨rfl, hb⟩
    have Hb := hide hb
    have hs := hb.size
    clear hb
    go_wp2_with fail
    refine (HT1.out _ ?_).mono ?_
    · repeat (first | with_reducible exact Hb.out | with_reducible refine Below.drew ?_ | with_reducible refine below_drewN ?_ _ | ((with_reducible refine Below.setCell ?_ ?hp _); case hp => simp) | ((with_reducible refine Below.alloc ?_ ?hp _); case hp => first | omega | (simp; done) | (simp; omega)))
    rintro e w2 ⟨rfl, hb2⟩
    have Hb2 : Hid (Below w.heap.size w w2) := hide ((show Below w.heap.size w _ by repeat (first | with_reducible exact Hb.out | with_reducible refine Below.drew ?_ | with_reducible refine below_drewN ?_ _ | ((with_reducible refine Below.setCell ?_ ?hp _); case hp => simp) | ((with_reducible refine Below.alloc ?_ ?hp _); case hp => first | omega | (simp; done) | (simp; omega)))).trans (hb2.mono (by simp; omega)))
    clear hb2
    go_wp2_with fail
    go_ret2
    exact ⟨by rw [← HD.out]; rfl, Hb2.out⟩
  · rw [if_neg ht] at hD
    rw [if_neg (by simpa using ht), entryV_none] at hE
    have HD : Hid (D = .tuple #[.string ⟨#[]⟩, .bool false]) := hide (by rw [← hD]; rfl)
    have HE := hide hE
    clear hD hE h ht
    go_enter Tryz.func48, Tryz.ntmps48
    go_wp2_with fail
    refine HE.out.mono ?_
    rintro e w1 ⟨rfl, hb⟩
    have Hb := hide hb
    have hs := hb.size
    clear hb
    go_wp2_with fail
    go_ret2
    exact ⟨by rw [HD.out]; rfl, by repeat (first | with_reducible exact Hb.out | with_reducible refine Below.drew ?_ | with_reducible refine below_drewN ?_ _ | ((with_reducible refine Below.setCell ?_ ?hp _); case hp => simp) | ((with_reducible refine Below.alloc ?_ ?hp _); case hp => first | omega | (simp; done) | (simp; omega)))⟩

/-- What an entry of names holds: the name and the descriptor. -/
def natAt (p : List Cst) (i : Int) : Option (List Int × List Int) :=
  if (atC p i).tag = 12 then
    match textAt p (atC p i).a, textAt p (atC p i).b with
    | some n, some d => some (n, d)
    | _, _ => none
  else none
def natV : Option (List Int × List Int) → Value
  | some (n, d) => .tuple #[.string (strOfNums n), .string (strOfNums d), .bool true]
  | none => .tuple #[.string ⟨#[]⟩, .string ⟨#[]⟩, .bool false]
theorem natV_pair (o : Option (List Int × List Int)) : natV o = .tuple #[.string (strOfNums (o.getD ([], [])).1), .string (strOfNums (o.getD ([], [])).2), .bool o.isSome] := by
  cases o with
  | none => rfl
  | some t => rfl
theorem nat_yes {p : List Cst} {i : Int} (h : (atC p i).tag = 12) : natV (natAt p i) = if (textAt p (atC p i).a).isSome = true ∧ (textAt p (atC p i).b).isSome = true then .tuple #[.string (strOfNums ((textAt p (atC p i).a).getD [])), .string (strOfNums ((textAt p (atC p i).b).getD [])), .bool true] else .tuple #[.string ⟨#[]⟩, .string ⟨#[]⟩, .bool false] := by
  unfold natAt
  rw [if_pos h]
  cases textAt p (atC p i).a with
  | none => rfl
  | some x =>
    cases textAt p (atC p i).b with
    | none => rfl
    | some y => rfl

set_option maxHeartbeats 4000000 in
set_option maxRecDepth 100000 in
theorem nat_is (A : Option Addr) (n c : Nat) (ps : List Cst) (i : Int) (w : World) (h : RdC w w.heap.size A n ps) :
    Calls Tryz.prog 176 #[.slice A n c, .int .i64 i] w fun e w' => e = .returned (natV (natAt ps i)) ∧ Below w.heap.size w w' := by
  obtain ⟨D, hD⟩ : ∃ D, natV (natAt ps i) = D := ⟨_, rfl⟩
  rw [hD]
  have hE : Calls Tryz.prog 72 #[.slice A n c, .int .i64 i, .slice (some ⟨w.heap.size, 0, none⟩) 1 1] (w.alloc (.cells #[.int .i64 12] 3)) fun e w' => e = .returned (entryV (entryAt ps i [12])) ∧ Below w.heap.size w w' := entry_lit A n c ps i [12] w h (by decide)
  rw [entryAt_of (by decide)] at hE
  by_cases ht : (atC ps i).tag = 12
  · rw [nat_yes ht] at hD
    rw [if_pos (by rw [ht]; decide), entryV_some] at hE
    have HT : Hid (∀ x W, Below w.heap.size w W → Calls Tryz.prog 66 #[.slice A n c, .int .i64 x] W fun e w' => e = .returned (.tuple #[.string (strOfNums ((textAt ps x).getD [])), .bool (textAt ps x).isSome]) ∧ Below W.heap.size W w') := hide fun x W hb => by rw [← textV_pair]; exact text_is A n c ps x W ((h.below hb).mono hb.size)
    have HE := hide hE
    generalize strOfNums (atC ps i).text = q at *
    generalize (atC ps i).tag = y0 at *
    generalize (atC ps i).num = y1 at *
    generalize (atC ps i).a = y2 at *
    generalize (atC ps i).b = y3 at *
    have HT1 := hide (HT.out y2)
    have HT2 := hide (HT.out y3)
    clear HT
    generalize strOfNums ((textAt ps y2).getD []) = tq at *
    generalize (textAt ps y2).isSome = tb at *
    generalize strOfNums ((textAt ps y3).getD []) = dq at *
    generalize (textAt ps y3).isSome = db at *
    have HD := hide hD
    clear hD hE h ht
    cases tb <;> cases db
    all_goals
      go_enter Tryz.func176, Tryz.ntmps176
      go_wp2_with fail
      refine HE.out.mono ?_
      rintro e w1 ⟨rfl, hb⟩
      have Hb := hide hb
      have hs := hb.size
      have ha := At.new w1 109 [.int .i64 y0, .string q, .int .i64 y1, .int .i64 y2, .int .i64 y3]
      clear hb
      go_wp2_with fail
      refine (HT1.out _ ?_).mono ?_
      · repeat (first | with_reducible exact Hb.out | with_reducible refine Below.drew ?_ | with_reducible refine below_drewN ?_ _ | ((with_reducible refine Below.setCell ?_ ?hp _); case hp => simp) | ((with_reducible refine Below.alloc ?_ ?hp _); case hp => first | omega | (simp; done) | (simp; omega)))
      rintro e w2 ⟨rfl, hb2⟩
      have Hb2 : Hid (Below w.heap.size w w2) := hide ((show Below w.heap.size w _ by repeat (first | with_reducible exact Hb.out | with_reducible refine Below.drew ?_ | with_reducible refine below_drewN ?_ _ | ((with_reducible refine Below.setCell ?_ ?hp _); case hp => simp) | ((with_reducible refine Below.alloc ?_ ?hp _); case hp => first | omega | (simp; done) | (simp; omega)))).trans (hb2.mono (by simp; omega)))
      have a4 := (ha.below hb2 (by simp)).cell 4
      clear hb2 ha
      simp only [List.getElem?_cons_zero, List.getElem?_cons_succ] at a4
      go_wp2_with fail
      refine (HT2.out _ Hb2.out).mono ?_
      rintro e w3 ⟨rfl, hb3⟩
      have Hb3 : Hid (Below w.heap.size w w3) := hide (Hb2.out.trans (hb3.mono Hb2.out.size))
      clear hb3
      go_wp2_with fail
      refine bodyPost_ret (v := D) ?_ rfl ⟨rfl, Hb3.out⟩
      rw [← HD.out]
      simp [results, Tryz.results176, go_sem]
  · have HD : Hid (D = .tuple #[.string ⟨#[]⟩, .string ⟨#[]⟩, .bool false]) := hide (by rw [← hD, natAt, if_neg ht]; rfl)
    rw [if_neg (by simpa using ht), entryV_none] at hE
    have HE := hide hE
    clear hD hE h ht
    go_enter Tryz.func176, Tryz.ntmps176
    go_wp2_with fail
    refine HE.out.mono ?_
    rintro e w1 ⟨rfl, hb⟩
    have Hb := hide hb
    have hs := hb.size
    clear hb
    go_wp2_with fail
    refine bodyPost_ret (v := D) ?_ rfl ⟨rfl, by repeat (first | with_reducible exact Hb.out | with_reducible refine Below.drew ?_ | with_reducible refine below_drewN ?_ _ | ((with_reducible refine Below.setCell ?_ ?hp _); case hp => simp) | ((with_reducible refine Below.alloc ?_ ?hp _); case hp => first | omega | (simp; done) | (simp; omega)))⟩
    rw [HD.out]
    simp [results, Tryz.results176, go_sem]

theorem member_of {p : List Cst} {i : Int} (h : (atC p i).tag = 9 ∨ (atC p i).tag = 10 ∨ (atC p i).tag = 11) : memberV (memberAt p i) = if (classAt p (atC p i).a).isSome = true ∧ (natAt p (atC p i).b).isSome = true then
    .tuple #[.string (strOfNums ((classAt p (atC p i).a).getD [])), .string (strOfNums ((natAt p (atC p i).b).getD ([], [])).1), .string (strOfNums ((natAt p (atC p i).b).getD ([], [])).2), .bool true] else .tuple #[.string ⟨#[]⟩, .string ⟨#[]⟩, .string ⟨#[]⟩, .bool false] := by
  rw [member_yes h]
  unfold natAt
  cases classAt p (atC p i).a with
  | none => rfl
  | some x =>
    simp only [Option.bind_some]
    split
    · cases textAt p (atC p (atC p i).b).a with
      | none => rfl
      | some x =>
        cases textAt p (atC p (atC p i).b).b with
        | none => rfl
        | some y => rfl
    · rfl

set_option maxHeartbeats 4000000 in
set_option maxRecDepth 100000 in
theorem member_is (A : Option Addr) (n c : Nat) (ps : List Cst) (i : Int) (w : World) (h : RdC w w.heap.size A n ps) :
    Calls Tryz.prog 166 #[.slice A n c, .int .i64 i] w fun e w' => e = .returned (memberV (memberAt ps i)) ∧ Below w.heap.size w w' := by
  obtain ⟨D, hD⟩ : ∃ D, memberV (memberAt ps i) = D := ⟨_, rfl⟩
  rw [hD]
  have hE : Calls Tryz.prog 72 #[.slice A n c, .int .i64 i, .slice (some ⟨w.heap.size, 0, none⟩) 3 3] (w.alloc (.cells #[.int .i64 9, .int .i64 10, .int .i64 11] 3)) fun e w' => e = .returned (entryV (entryAt ps i [9, 10, 11])) ∧ Below w.heap.size w w' := entry_lit A n c ps i [9, 10, 11] w h (by decide)
  rw [entryAt_of (by decide)] at hE
  by_cases ht : (atC ps i).tag = 9 ∨ (atC ps i).tag = 10 ∨ (atC ps i).tag = 11
  · rw [member_of ht] at hD
    rw [if_pos (by simpa using ht), entryV_some] at hE
    have HC : Hid (∀ x W, Below w.heap.size w W → Calls Tryz.prog 48 #[.slice A n c, .int .i64 x] W fun e w' => e = .returned (.tuple #[.string (strOfNums ((classAt ps x).getD [])), .bool (classAt ps x).isSome]) ∧ Below W.heap.size W w') := hide fun x W hb => by rw [← textV_pair]; exact class_is A n c ps x W ((h.below hb).mono hb.size)
    have HN : Hid (∀ x W, Below w.heap.size w W → Calls Tryz.prog 176 #[.slice A n c, .int .i64 x] W fun e w' => e = .returned (.tuple #[.string (strOfNums ((natAt ps x).getD ([], [])).1), .string (strOfNums ((natAt ps x).getD ([], [])).2), .bool (natAt ps x).isSome]) ∧ Below W.heap.size W w') := hide fun x W hb => by rw [← natV_pair]; exact nat_is A n c ps x W ((h.below hb).mono hb.size)
    have HE := hide hE
    generalize strOfNums (atC ps i).text = q at *
    generalize (atC ps i).tag = y0 at *
    generalize (atC ps i).num = y1 at *
    generalize (atC ps i).a = y2 at *
    generalize (atC ps i).b = y3 at *
    have HT1 := hide (HC.out y2)
    have HT2 := hide (HN.out y3)
    clear HC HN
    generalize strOfNums ((classAt ps y2).getD []) = tq at *
    generalize (classAt ps y2).isSome = tb at *
    generalize strOfNums ((natAt ps y3).getD ([], [])).1 = nq at *
    generalize strOfNums ((natAt ps y3).getD ([], [])).2 = dq at *
    generalize (natAt ps y3).isSome = db at *
    have HD := hide hD
    clear hD hE h ht
    cases tb <;> cases db
    all_goals
      go_enter Tryz.func166, Tryz.ntmps166
      go_wp2_with fail
      refine HE.out.mono ?_
      rintro e w1 ⟨rfl, hb⟩
      have Hb := hide hb
      have hs := hb.size
      have ha := At.new w1 109 [.int .i64 y0, .string q, .int .i64 y1, .int .i64 y2, .int .i64 y3]
      clear hb
      go_wp2_with fail
      refine (HT1.out _ ?_).mono ?_
      · repeat (first | with_reducible exact Hb.out | with_reducible refine Below.drew ?_ | with_reducible refine below_drewN ?_ _ | ((with_reducible refine Below.setCell ?_ ?hp _); case hp => simp) | ((with_reducible refine Below.alloc ?_ ?hp _); case hp => first | omega | (simp; done) | (simp; omega)))
      rintro e w2 ⟨rfl, hb2⟩
      have Hb2 : Hid (Below w.heap.size w w2) := hide ((show Below w.heap.size w _ by repeat (first | with_reducible exact Hb.out | with_reducible refine Below.drew ?_ | with_reducible refine below_drewN ?_ _ | ((with_reducible refine Below.setCell ?_ ?hp _); case hp => simp) | ((with_reducible refine Below.alloc ?_ ?hp _); case hp => first | omega | (simp; done) | (simp; omega)))).trans (hb2.mono (by simp; omega)))
      have a4 := (ha.below hb2 (by simp)).cell 4
      clear hb2 ha
      simp only [List.getElem?_cons_zero, List.getElem?_cons_succ] at a4
      go_wp2_with fail
      refine (HT2.out _ Hb2.out).mono ?_
      rintro e w3 ⟨rfl, hb3⟩
      have Hb3 : Hid (Below w.heap.size w w3) := hide (Hb2.out.trans (hb3.mono Hb2.out.size))
      clear hb3
      go_wp2_with fail
      refine bodyPost_ret (v := D) ?_ rfl ⟨rfl, Hb3.out⟩
      rw [← HD.out]
      simp [results, Tryz.results166, go_sem]
  · have HD : Hid (D = .tuple #[.string ⟨#[]⟩, .string ⟨#[]⟩, .string ⟨#[]⟩, .bool false]) := hide (by rw [← hD, member_no ht]; rfl)
    rw [if_neg (by simpa using ht), entryV_none] at hE
    have HE := hide hE
    clear hD hE h ht
    go_enter Tryz.func166, Tryz.ntmps166
    go_wp2_with fail
    refine HE.out.mono ?_
    rintro e w1 ⟨rfl, hb⟩
    have Hb := hide hb
    have hs := hb.size
    clear hb
    go_wp2_with fail
    refine bodyPost_ret (v := D) ?_ rfl ⟨rfl, by repeat (first | with_reducible exact Hb.out | with_reducible refine Below.drew ?_ | with_reducible refine below_drewN ?_ _ | ((with_reducible refine Below.setCell ?_ ?hp _); case hp => simp) | ((with_reducible refine Below.alloc ?_ ?hp _); case hp => first | omega | (simp; done) | (simp; omega)))⟩
    rw [HD.out]
    simp [results, Tryz.results166, go_sem]
end Go.Proofs.YtbdbcalmjbmflaaGreatDoor
namespace Go.Proofs.YtbdbcalmjbmflaaGreatDoor
open Go.RowKit

def voidB (l : List Int) : Bool := match sig l with
  | some (_, t) => t.kind == 86
  | none => false
def specB (l : List Int) : Bool := l == nInit || l == nClinit
/-- What a text may stand for. -/
def usesB (l : List Int) : List Bool := [(dec l).isSome, classB l || arrB l, plainB l, l == nInit, methodB l && !specB l, (field l).isSome, (sig l).isSome, voidB l]
def usesV (bs : List Bool) : Value := .agg (bs.map .bool).toArray
def bcells (bs : List Bool) : List Value := bs.map .bool

theorem c8_of {w : World} {g : Nat} {t : TypeId} {a b c d e f h i : Value} (hh : At w g t [a, b, c, d, e, f, h, i]) : w.cell? ⟨g, 0, none⟩ = some a ∧ w.cell? ⟨g, 1, none⟩ = some b ∧ w.cell? ⟨g, 2, none⟩ = some c ∧ w.cell? ⟨g, 3, none⟩ = some d ∧
    w.cell? ⟨g, 4, none⟩ = some e ∧ w.cell? ⟨g, 5, none⟩ = some f ∧ w.cell? ⟨g, 6, none⟩ = some h ∧ w.cell? ⟨g, 7, none⟩ = some i :=
  ⟨hh.cell 0, hh.cell 1, hh.cell 2, hh.cell 3, hh.cell 4, hh.cell 5, hh.cell 6, hh.cell 7⟩
/-- What is held while the uses are put together. -/
def UBase (w : World) (g2 g5 g8 : Nat) (fk mk : Int) (W : World) : Prop :=
  (∃ a b c d e f h i, At W g2 117 [a, b, c, d, e, f, h, i]) ∧ W.cell? ⟨g5, 0, none⟩ = some (.int .u8 fk) ∧ W.cell? ⟨g8, 0, none⟩ = some (.int .u8 mk) ∧ Below w.heap.size w W ∧ w.heap.size ≤ g2 ∧ g5 < W.heap.size ∧ g8 < W.heap.size ∧ g2 < g5 ∧ g2 < g8
def UDone (g2 : Nat) (bs : List Bool) (W : World) : Prop := At W g2 117 (bcells bs)
theorem ubase_below {w W w' : World} {g2 g5 g8 : Nat} {fk mk : Int} (h : UBase w g2 g5 g8 fk mk W) (hb : Below W.heap.size W w') : UBase w g2 g5 g8 fk mk w' := by
  obtain ⟨⟨a, b, c, d, e, f, x, i, ha⟩, h5, h8, hB, h1, h2, h3, h4, h6⟩ := h
  have := hb.size
  have q : ∀ g i, g < W.heap.size → w'.cell? ⟨g, i, none⟩ = W.cell? ⟨g, i, none⟩ := fun g i hg => hb.cell (p := ⟨g, i, none⟩) hg
  exact ⟨⟨a, b, c, d, e, f, x, i, ha.below hb ha.lt⟩, by rw [q _ _ h2]; exact h5, by rw [q _ _ h3]; exact h8, hB.trans (hb.mono hB.size), h1, by omega, by omega, h4, h6⟩
theorem ubase_drew {w W : World} {g2 g5 g8 : Nat} {fk mk : Int} (h : UBase w g2 g5 g8 fk mk W) : UBase w g2 g5 g8 fk mk W.drew := by
  obtain ⟨⟨a, b, c, d, e, f, x, i, ha⟩, h5, h8, hB, h1, h2, h3, h4, h6⟩ := h
  exact ⟨⟨a, b, c, d, e, f, x, i, ha⟩, h5, h8, hB.drew, h1, h2, h3, h4, h6⟩
theorem uses_below {w W w' : World} {g2 g5 g8 : Nat} {fk mk : Int} {bs : List Bool} {l : Array Bool} (h : Then (UBase w g2 g5 g8 fk mk) (UDone g2 bs) 24 l W) (hb : Below W.heap.size W w') : Then (UBase w g2 g5 g8 fk mk) (UDone g2 bs) 24 l w' :=
  ⟨ubase_below h.1 hb, fun hz => At.below (h.2 hz) hb (by obtain ⟨⟨_, _, _, _, _, _, _, _, ha⟩, _⟩ := h.1; exact ha.lt)⟩

def put8 (g : Nat) (b0 b1 b2 b3 b4 b5 b6 b7 : Bool) (W : World) : World :=
  (((((((W.setCell ⟨g, 0, none⟩ (.bool b0)).setCell ⟨g, 1, none⟩ (.bool b1)).setCell ⟨g, 2, none⟩ (.bool b2)).setCell ⟨g, 3, none⟩ (.bool b3)).setCell ⟨g, 4, none⟩ (.bool b4)).setCell ⟨g, 5, none⟩ (.bool b5)).setCell ⟨g, 6, none⟩ (.bool b6)).setCell ⟨g, 7, none⟩ (.bool b7)
theorem put8_at {g : Nat} {b0 b1 b2 b3 b4 b5 b6 b7 : Bool} {W : World} {a b c d e f x i : Value} (h : At W g 117 [a, b, c, d, e, f, x, i]) : At (put8 g b0 b1 b2 b3 b4 b5 b6 b7 W) g 117 (bcells [b0, b1, b2, b3, b4, b5, b6, b7]) :=
  (((((((h.set 0 (.bool b0)).set 1 (.bool b1)).set 2 (.bool b2)).set 3 (.bool b3)).set 4 (.bool b4)).set 5 (.bool b5)).set 6 (.bool b6)).set 7 (.bool b7)
theorem put8_other {g : Nat} {b0 b1 b2 b3 b4 b5 b6 b7 : Bool} {W : World} {g' i : Nat} (h : g ≠ g') : (put8 g b0 b1 b2 b3 b4 b5 b6 b7 W).cell? ⟨g', i, none⟩ = W.cell? ⟨g', i, none⟩ := by
  unfold put8
  have h2 : ∀ (V : World) (j : Nat) (v : Value), (V.setCell ⟨g, j, none⟩ v).cell? ⟨g', i, none⟩ = V.cell? ⟨g', i, none⟩ := fun V j v => World.cell?_setCell_other _ _ _ _ (fun e => h (by injection e))
  simp only [h2]
theorem put8_base {w W : World} {g2 g5 g8 : Nat} {fk mk : Int} {b0 b1 b2 b3 b4 b5 b6 b7 : Bool} (h : UBase w g2 g5 g8 fk mk W) : UBase w g2 g5 g8 fk mk (put8 g2 b0 b1 b2 b3 b4 b5 b6 b7 W) ∧ UDone g2 [b0, b1, b2, b3, b4, b5, b6, b7] (put8 g2 b0 b1 b2 b3 b4 b5 b6 b7 W) := by
  obtain ⟨⟨a, b, c, d, e, f, x, i, ha⟩, h5, h8, hB, h1, h2, h3, h4, h6⟩ := h
  have hd := put8_at (b0 := b0) (b1 := b1) (b2 := b2) (b3 := b3) (b4 := b4) (b5 := b5) (b6 := b6) (b7 := b7) ha
  refine ⟨⟨⟨_, _, _, _, _, _, _, _, hd⟩, by rw [put8_other (by omega)]; exact h5, by rw [put8_other (by omega)]; exact h8, ?_, h1, ?_, ?_, h4, h6⟩, hd⟩
  · unfold put8
    repeat (first | with_reducible exact hB | (with_reducible refine Below.setCell ?_ ?hp _; case hp => exact h1))
  · simpa [put8] using h2
  · simpa [put8] using h3
theorem uses_call {w W : World} {g2 g5 g8 : Nat} {fk mk : Int} {bs : List Bool} {l : Array Bool} {f : FuncId} {args : Array Value} {v : Value} (h : ∀ W, Calls Tryz.prog f args W fun e w' => e = .returned v ∧ Below W.heap.size W w')
    (hS : Then (UBase w g2 g5 g8 fk mk) (UDone g2 bs) 24 l W) : Calls Tryz.prog f args W fun e w' => e = .returned v ∧ Then (UBase w g2 g5 g8 fk mk) (UDone g2 bs) 24 l w' := (h W).mono fun _ _ ⟨he, hb⟩ => ⟨he, uses_below hS hb⟩

set_option maxHeartbeats 4000000 in
set_option maxRecDepth 100000 in
theorem uses_any (s : ByteArray) (w : World) (hm : s.size ≤ 1000000) (hw : Maxed w) : Calls Tryz.prog 70 #[.string s] w fun e w' => e = .returned (usesV (usesB (nums s))) ∧ Below w.heap.size w w' := by
  have HD0 : Hid (∀ W, Calls Tryz.prog 77 #[.string s] W fun e w' => Below W.heap.size W w' ∧ ∃ v, e = .returned (.tuple #[v, .bool (dec (nums s)).isSome])) := hide fun W => (decode_any s W hm).mono fun e w' ⟨hb, hh⟩ => ⟨hb, by
    rcases hh with ⟨h, rfl⟩ | ⟨u, v, h, rfl, _⟩
    · exact ⟨_, by rw [h]; rfl⟩
    · exact ⟨_, by rw [h]; rfl⟩⟩
  obtain ⟨fk, fq, fd, fx, hfv, hf0, hf1⟩ := fieldV_form (field (nums s))
  have HF : Hid (∀ W, Maxed W → Calls Tryz.prog 56 #[.string s] W fun e w' => e = .returned (.tuple #[.agg #[.int .u8 fk, .string fq, .int .i64 fd, .int .u8 fx], .bool (field (nums s)).isSome]) ∧ Below W.heap.size W w') := hide fun W hW => by rw [← hfv]; exact field_any s W hm hW
  have HM : Hid (∀ W, Maxed W → Calls Tryz.prog 87 #[.string s] W fun e w' => ∃ A n c k q d x, e = .returned (.tuple #[.slice A n c, .agg #[.int .u8 k, .string q, .int .i64 d, .int .u8 x], .bool (sig (nums s)).isSome]) ∧ Below W.heap.size W w' ∧ (k == 86) = voidB (nums s)) := hide fun W hW => (method4_any s W hm hW).mono fun e w' hh => by
      obtain ⟨A, n, c, k, q, d, x, h1, h2, h3, h4⟩ := sigTold_form hh
      refine ⟨A, n, c, k, q, d, x, h1, h2, ?_⟩
      unfold voidB
      cases hs : sig (nums s) with
      | none => rw [h3 hs]; rfl
      | some t => rw [h4 t.1 t.2 hs]
  have ha : (fk == 91) = arrB (nums s) := by
    unfold arrB
    cases hf : field (nums s) with
    | none => rw [hf0 hf]; rfl
    | some t => rw [hf1 t hf]
  have HC : Hid (∀ W, Calls Tryz.prog 49 #[.string s] W fun e w' => e = .returned (.bool (classB (nums s))) ∧ Below W.heap.size W w') := hide fun W => class_any s W
  have HP : Hid (∀ W, Calls Tryz.prog 57 #[.string s] W fun e w' => e = .returned (.bool (plainB (nums s))) ∧ Below W.heap.size W w') := hide fun W => plain_any s W hm
  have HN : Hid (∀ W, Calls Tryz.prog 62 #[.string s] W fun e w' => e = .returned (.bool (methodB (nums s))) ∧ Below W.heap.size W w') := hide fun W => method_any s W hm
  have HW := hide hw
  obtain ⟨D, hD⟩ : ∃ D, usesV (usesB (nums s)) = D := ⟨_, rfl⟩
  rw [hD]
  clear hfv hf0 hf1 hw hm
  by_cases c1 : s = ⟨#[60, 105, 110, 105, 116, 62]⟩
  · subst c1
    · have i1 : (nums ⟨#[60, 105, 110, 105, 116, 62]⟩ == nInit) = true := by decide +kernel
      have i2 : specB (nums ⟨#[60, 105, 110, 105, 116, 62]⟩) = true := by decide +kernel
      have HDD : Hid (D = usesV [(dec (nums ⟨#[60, 105, 110, 105, 116, 62]⟩)).isSome, classB (nums ⟨#[60, 105, 110, 105, 116, 62]⟩) || (fk == 91), plainB (nums ⟨#[60, 105, 110, 105, 116, 62]⟩), true, methodB (nums ⟨#[60, 105, 110, 105, 116, 62]⟩) && false, (field (nums ⟨#[60, 105, 110, 105, 116, 62]⟩)).isSome, (sig (nums ⟨#[60, 105, 110, 105, 116, 62]⟩)).isSome, voidB (nums ⟨#[60, 105, 110, 105, 116, 62]⟩)]) := hide (by rw [← hD, usesB, i1, i2, ← ha]; rfl)
      clear hD ha i1 i2
      generalize (dec (nums ⟨#[60, 105, 110, 105, 116, 62]⟩)).isSome = b0 at *
      generalize classB (nums ⟨#[60, 105, 110, 105, 116, 62]⟩) = b1 at *
      generalize plainB (nums ⟨#[60, 105, 110, 105, 116, 62]⟩) = b2 at *
      generalize methodB (nums ⟨#[60, 105, 110, 105, 116, 62]⟩) = b4 at *
      generalize (field (nums ⟨#[60, 105, 110, 105, 116, 62]⟩)).isSome = b5 at *
      generalize (sig (nums ⟨#[60, 105, 110, 105, 116, 62]⟩)).isSome = b6 at *
      generalize voidB (nums ⟨#[60, 105, 110, 105, 116, 62]⟩) = b7 at *
      go_enter Tryz.func70, Tryz.ntmps70
      go_wp2_with fail
      refine (HD0.out _).mono ?_
      rintro e w1 ⟨hb1, v1, rfl⟩
      have A1 := hide ((At.new w 117 (bcells [false, false, false, false, false, false, false, false])).below hb1 (by simp))
      have B1 := hide (((Below.refl w.heap.size w).alloc (Nat.le_refl _) (.cells #[.bool false, .bool false, .bool false, .bool false, .bool false, .bool false, .bool false, .bool false] 117)).trans (hb1.mono (by simp)))
      have s1 : w.heap.size + 1 ≤ w1.heap.size := by have := hb1.size; simpa using this
      clear hb1
      go_wp2_with fail
      refine (HF.out _ (HW.out.below B1.out)).mono ?_
      rintro e w2 ⟨rfl, hb2⟩
      have A2 := hide ((A1.out.below hb2 A1.out.lt).alloc (.cells #[.int .u8 fk, .string fq, .int .i64 fd, .int .u8 fx] 94))
      have B2 := hide ((B1.out.trans (hb2.mono B1.out.size)).alloc (by have := hb2.size; omega) (.cells #[.int .u8 fk, .string fq, .int .i64 fd, .int .u8 fx] 94))
      have F2 := hide (At.new w2 94 [.int .u8 fk, .string fq, .int .i64 fd, .int .u8 fx])
      have s2 : w.heap.size + 1 ≤ w2.heap.size := by have := hb2.size; omega
      clear hb2 A1 B1
      go_wp2_with fail
      refine (HM.out _ (HW.out.below B2.out)).mono ?_
      rintro e w3 ⟨A, n, c, mk, mq, md, mx, rfl, hb3, hk⟩
      have A3 := hide ((A2.out.below hb3 A2.out.lt).alloc (.cells #[.int .u8 mk, .string mq, .int .i64 md, .int .u8 mx] 94))
      have B3 := hide ((B2.out.trans (hb3.mono B2.out.size)).alloc (by have := hb3.size; have := B2.out.size; omega) (.cells #[.int .u8 mk, .string mq, .int .i64 md, .int .u8 mx] 94))
      have F3 := hide ((F2.out.below hb3 F2.out.lt).alloc (.cells #[.int .u8 mk, .string mq, .int .i64 md, .int .u8 mx] 94))
      have M3 := hide (At.new w3 94 [.int .u8 mk, .string mq, .int .i64 md, .int .u8 mx])
      have s3 : w2.heap.size + 1 ≤ w3.heap.size := by have := hb3.size; simpa using this
      have hH : UBase w w.heap.size w2.heap.size w3.heap.size fk mk (w3.alloc (.cells #[.int .u8 mk, .string mq, .int .i64 md, .int .u8 mx] 94)) :=
        ⟨⟨_, _, _, _, _, _, _, _, A3.out⟩, F3.out.cell 0, M3.out.cell 0, B3.out, Nat.le_refl _, F3.out.lt, M3.out.lt, by omega, by omega⟩
      have HH := hide hH
      clear hb3 A2 B2 F2 A3 B3 F3 M3 hH
      have hkb : (mk == 86) = b7 := hk
      clear hk
      cases b1 <;> cases b4
      · go_wp2_with fail
        refine wp_region_texts (Then (UBase w w.heap.size w2.heap.size w3.heap.size fk mk) (UDone w.heap.size [b0, fk == 91, b2, true, false, b5, b6, b7]) 24) (by kernel_rfl) (by kernel_rfl) (by kernel_rfl) (Then.start (ubase_drew HH.out)) ?_
        repeat (first
          | (refine textL_skip (Then.stays _ _ _) (by rfl) (by rfl) ?_
             simp only [Act.put, List.setIfInBounds_toArray, List.set_cons_zero, List.set_cons_succ])
          | (refine textL_value (Then.stays _ _ _) (v := ?_) (by rfl) (by rfl) ?_ ?_
             rotate_left
             · (intro l W hSw; obtain ⟨⟨_, h5, h8, _⟩, _⟩ := hSw; go_simp; try with_reducible rfl)
             simp only [Act.put, List.setIfInBounds_toArray, List.set_cons_zero, List.set_cons_succ])
          | (refine textL_call (Then.stays _ _ _) (by rfl) (by rfl) ?_ (fun l W hSw => uses_call HC.out hSw) ?_
             · (intro l W hSw; go_simp; done)
             simp only [Act.put, List.setIfInBounds_toArray, List.set_cons_zero, List.set_cons_succ])
          | (refine textL_call (Then.stays _ _ _) (by rfl) (by rfl) ?_ (fun l W hSw => uses_call HP.out hSw) ?_
             · (intro l W hSw; go_simp; done)
             simp only [Act.put, List.setIfInBounds_toArray, List.set_cons_zero, List.set_cons_succ])
          | (refine textL_call (Then.stays _ _ _) (by rfl) (by rfl) ?_ (fun l W hSw => uses_call HN.out hSw) ?_
             · (intro l W hSw; go_simp; done)
             simp only [Act.put, List.setIfInBounds_toArray, List.set_cons_zero, List.set_cons_succ])
          | fail)
        refine textL_store (by rfl) (by rfl) (put8 w.heap.size b0 (fk == 91) b2 true false b5 b6 b7) ?_ ?_ ?_
        · intro l W hSw
          obtain ⟨⟨⟨a, b, c, d, e, f, x, i, ha⟩, _⟩, _⟩ := hSw
          have f0 := ha.free 0
          have f1 := ha.free 1
          have f2 := ha.free 2
          have f3 := ha.free 3
          have f4 := ha.free 4
          have f5 := ha.free 5
          have f6 := ha.free 6
          have f7 := ha.free 7
          obtain ⟨q0, q1, q2, q3, q4, q5, q6, q7⟩ := c8_of ha
          go_simp
          rfl
        · intro l W hSw
          exact ⟨(put8_base hSw.1).1, fun _ => (put8_base hSw.1).2⟩
        refine textL_end ?_
        intro W hSw
        obtain ⟨⟨_, _, _, hB, _⟩, hR⟩ := hSw.done (by decide)
        obtain ⟨q0, q1, q2, q3, q4, q5, q6, q7⟩ := c8_of hR
        go_wp2_with fail
        refine bodyPost_ret (v := D) ?_ rfl ⟨rfl, hB⟩
        rw [HDD.out]
        simp [results, Tryz.results70, go_sem, q0, q1, q2, q3, q4, q5, q6, q7]
        rfl
      · go_wp2_with fail
        refine wp_region_texts (Then (UBase w w.heap.size w2.heap.size w3.heap.size fk mk) (UDone w.heap.size [b0, fk == 91, b2, true, false, b5, b6, b7]) 24) (by kernel_rfl) (by kernel_rfl) (by kernel_rfl) (Then.start (ubase_drew HH.out)) ?_
        repeat (first
          | (refine textL_skip (Then.stays _ _ _) (by rfl) (by rfl) ?_
             simp only [Act.put, List.setIfInBounds_toArray, List.set_cons_zero, List.set_cons_succ])
          | (refine textL_value (Then.stays _ _ _) (v := ?_) (by rfl) (by rfl) ?_ ?_
             rotate_left
             · (intro l W hSw; obtain ⟨⟨_, h5, h8, _⟩, _⟩ := hSw; go_simp; try with_reducible rfl)
             simp only [Act.put, List.setIfInBounds_toArray, List.set_cons_zero, List.set_cons_succ])
          | (refine textL_call (Then.stays _ _ _) (by rfl) (by rfl) ?_ (fun l W hSw => uses_call HC.out hSw) ?_
             · (intro l W hSw; go_simp; done)
             simp only [Act.put, List.setIfInBounds_toArray, List.set_cons_zero, List.set_cons_succ])
          | (refine textL_call (Then.stays _ _ _) (by rfl) (by rfl) ?_ (fun l W hSw => uses_call HP.out hSw) ?_
             · (intro l W hSw; go_simp; done)
             simp only [Act.put, List.setIfInBounds_toArray, List.set_cons_zero, List.set_cons_succ])
          | (refine textL_call (Then.stays _ _ _) (by rfl) (by rfl) ?_ (fun l W hSw => uses_call HN.out hSw) ?_
             · (intro l W hSw; go_simp; done)
             simp only [Act.put, List.setIfInBounds_toArray, List.set_cons_zero, List.set_cons_succ])
          | fail)
        refine textL_store (by rfl) (by rfl) (put8 w.heap.size b0 (fk == 91) b2 true false b5 b6 b7) ?_ ?_ ?_
        · intro l W hSw
          obtain ⟨⟨⟨a, b, c, d, e, f, x, i, ha⟩, _⟩, _⟩ := hSw
          have f0 := ha.free 0
          have f1 := ha.free 1
          have f2 := ha.free 2
          have f3 := ha.free 3
          have f4 := ha.free 4
          have f5 := ha.free 5
          have f6 := ha.free 6
          have f7 := ha.free 7
          obtain ⟨q0, q1, q2, q3, q4, q5, q6, q7⟩ := c8_of ha
          go_simp
          rfl
        · intro l W hSw
          exact ⟨(put8_base hSw.1).1, fun _ => (put8_base hSw.1).2⟩
        refine textL_end ?_
        intro W hSw
        obtain ⟨⟨_, _, _, hB, _⟩, hR⟩ := hSw.done (by decide)
        obtain ⟨q0, q1, q2, q3, q4, q5, q6, q7⟩ := c8_of hR
        go_wp2_with fail
        refine bodyPost_ret (v := D) ?_ rfl ⟨rfl, hB⟩
        rw [HDD.out]
        simp [results, Tryz.results70, go_sem, q0, q1, q2, q3, q4, q5, q6, q7]
        rfl
      · go_wp2_with fail
        refine wp_region_texts (Then (UBase w w.heap.size w2.heap.size w3.heap.size fk mk) (UDone w.heap.size [b0, true, b2, true, false, b5, b6, b7]) 24) (by kernel_rfl) (by kernel_rfl) (by kernel_rfl) (Then.start (ubase_drew HH.out)) ?_
        repeat (first
          | (refine textL_skip (Then.stays _ _ _) (by rfl) (by rfl) ?_
             simp only [Act.put, List.setIfInBounds_toArray, List.set_cons_zero, List.set_cons_succ])
          | (refine textL_value (Then.stays _ _ _) (v := ?_) (by rfl) (by rfl) ?_ ?_
             rotate_left
             · (intro l W hSw; obtain ⟨⟨_, h5, h8, _⟩, _⟩ := hSw; go_simp; try with_reducible rfl)
             simp only [Act.put, List.setIfInBounds_toArray, List.set_cons_zero, List.set_cons_succ])
          | (refine textL_call (Then.stays _ _ _) (by rfl) (by rfl) ?_ (fun l W hSw => uses_call HC.out hSw) ?_
             · (intro l W hSw; go_simp; done)
             simp only [Act.put, List.setIfInBounds_toArray, List.set_cons_zero, List.set_cons_succ])
          | (refine textL_call (Then.stays _ _ _) (by rfl) (by rfl) ?_ (fun l W hSw => uses_call HP.out hSw) ?_
             · (intro l W hSw; go_simp; done)
             simp only [Act.put, List.setIfInBounds_toArray, List.set_cons_zero, List.set_cons_succ])
          | (refine textL_call (Then.stays _ _ _) (by rfl) (by rfl) ?_ (fun l W hSw => uses_call HN.out hSw) ?_
             · (intro l W hSw; go_simp; done)
             simp only [Act.put, List.setIfInBounds_toArray, List.set_cons_zero, List.set_cons_succ])
          | fail)
        refine textL_store (by rfl) (by rfl) (put8 w.heap.size b0 true b2 true false b5 b6 b7) ?_ ?_ ?_
        · intro l W hSw
          obtain ⟨⟨⟨a, b, c, d, e, f, x, i, ha⟩, _⟩, _⟩ := hSw
          have f0 := ha.free 0
          have f1 := ha.free 1
          have f2 := ha.free 2
          have f3 := ha.free 3
          have f4 := ha.free 4
          have f5 := ha.free 5
          have f6 := ha.free 6
          have f7 := ha.free 7
          obtain ⟨q0, q1, q2, q3, q4, q5, q6, q7⟩ := c8_of ha
          go_simp
          rfl
        · intro l W hSw
          exact ⟨(put8_base hSw.1).1, fun _ => (put8_base hSw.1).2⟩
        refine textL_end ?_
        intro W hSw
        obtain ⟨⟨_, _, _, hB, _⟩, hR⟩ := hSw.done (by decide)
        obtain ⟨q0, q1, q2, q3, q4, q5, q6, q7⟩ := c8_of hR
        go_wp2_with fail
        refine bodyPost_ret (v := D) ?_ rfl ⟨rfl, hB⟩
        rw [HDD.out]
        simp [results, Tryz.results70, go_sem, q0, q1, q2, q3, q4, q5, q6, q7]
        rfl
      · go_wp2_with fail
        refine wp_region_texts (Then (UBase w w.heap.size w2.heap.size w3.heap.size fk mk) (UDone w.heap.size [b0, true, b2, true, false, b5, b6, b7]) 24) (by kernel_rfl) (by kernel_rfl) (by kernel_rfl) (Then.start (ubase_drew HH.out)) ?_
        repeat (first
          | (refine textL_skip (Then.stays _ _ _) (by rfl) (by rfl) ?_
             simp only [Act.put, List.setIfInBounds_toArray, List.set_cons_zero, List.set_cons_succ])
          | (refine textL_value (Then.stays _ _ _) (v := ?_) (by rfl) (by rfl) ?_ ?_
             rotate_left
             · (intro l W hSw; obtain ⟨⟨_, h5, h8, _⟩, _⟩ := hSw; go_simp; try with_reducible rfl)
             simp only [Act.put, List.setIfInBounds_toArray, List.set_cons_zero, List.set_cons_succ])
          | (refine textL_call (Then.stays _ _ _) (by rfl) (by rfl) ?_ (fun l W hSw => uses_call HC.out hSw) ?_
             · (intro l W hSw; go_simp; done)
             simp only [Act.put, List.setIfInBounds_toArray, List.set_cons_zero, List.set_cons_succ])
          | (refine textL_call (Then.stays _ _ _) (by rfl) (by rfl) ?_ (fun l W hSw => uses_call HP.out hSw) ?_
             · (intro l W hSw; go_simp; done)
             simp only [Act.put, List.setIfInBounds_toArray, List.set_cons_zero, List.set_cons_succ])
          | (refine textL_call (Then.stays _ _ _) (by rfl) (by rfl) ?_ (fun l W hSw => uses_call HN.out hSw) ?_
             · (intro l W hSw; go_simp; done)
             simp only [Act.put, List.setIfInBounds_toArray, List.set_cons_zero, List.set_cons_succ])
          | fail)
        refine textL_store (by rfl) (by rfl) (put8 w.heap.size b0 true b2 true false b5 b6 b7) ?_ ?_ ?_
        · intro l W hSw
          obtain ⟨⟨⟨a, b, c, d, e, f, x, i, ha⟩, _⟩, _⟩ := hSw
          have f0 := ha.free 0
          have f1 := ha.free 1
          have f2 := ha.free 2
          have f3 := ha.free 3
          have f4 := ha.free 4
          have f5 := ha.free 5
          have f6 := ha.free 6
          have f7 := ha.free 7
          obtain ⟨q0, q1, q2, q3, q4, q5, q6, q7⟩ := c8_of ha
          go_simp
          rfl
        · intro l W hSw
          exact ⟨(put8_base hSw.1).1, fun _ => (put8_base hSw.1).2⟩
        refine textL_end ?_
        intro W hSw
        obtain ⟨⟨_, _, _, hB, _⟩, hR⟩ := hSw.done (by decide)
        obtain ⟨q0, q1, q2, q3, q4, q5, q6, q7⟩ := c8_of hR
        go_wp2_with fail
        refine bodyPost_ret (v := D) ?_ rfl ⟨rfl, hB⟩
        rw [HDD.out]
        simp [results, Tryz.results70, go_sem, q0, q1, q2, q3, q4, q5, q6, q7]
        rfl
  · by_cases c2 : s = ⟨#[60, 99, 108, 105, 110, 105, 116, 62]⟩
    · subst c2
      have i1 : (nums ⟨#[60, 99, 108, 105, 110, 105, 116, 62]⟩ == nInit) = false := by decide +kernel
      have i2 : specB (nums ⟨#[60, 99, 108, 105, 110, 105, 116, 62]⟩) = true := by decide +kernel
      have HDD : Hid (D = usesV [(dec (nums ⟨#[60, 99, 108, 105, 110, 105, 116, 62]⟩)).isSome, classB (nums ⟨#[60, 99, 108, 105, 110, 105, 116, 62]⟩) || (fk == 91), plainB (nums ⟨#[60, 99, 108, 105, 110, 105, 116, 62]⟩), false, methodB (nums ⟨#[60, 99, 108, 105, 110, 105, 116, 62]⟩) && false, (field (nums ⟨#[60, 99, 108, 105, 110, 105, 116, 62]⟩)).isSome, (sig (nums ⟨#[60, 99, 108, 105, 110, 105, 116, 62]⟩)).isSome, voidB (nums ⟨#[60, 99, 108, 105, 110, 105, 116, 62]⟩)]) := hide (by rw [← hD, usesB, i1, i2, ← ha]; rfl)
      clear hD ha i1 i2 c1
      generalize (dec (nums ⟨#[60, 99, 108, 105, 110, 105, 116, 62]⟩)).isSome = b0 at *
      generalize classB (nums ⟨#[60, 99, 108, 105, 110, 105, 116, 62]⟩) = b1 at *
      generalize plainB (nums ⟨#[60, 99, 108, 105, 110, 105, 116, 62]⟩) = b2 at *
      generalize methodB (nums ⟨#[60, 99, 108, 105, 110, 105, 116, 62]⟩) = b4 at *
      generalize (field (nums ⟨#[60, 99, 108, 105, 110, 105, 116, 62]⟩)).isSome = b5 at *
      generalize (sig (nums ⟨#[60, 99, 108, 105, 110, 105, 116, 62]⟩)).isSome = b6 at *
      generalize voidB (nums ⟨#[60, 99, 108, 105, 110, 105, 116, 62]⟩) = b7 at *
      go_enter Tryz.func70, Tryz.ntmps70
      go_wp2_with fail
      refine (HD0.out _).mono ?_
      rintro e w1 ⟨hb1, v1, rfl⟩
      have A1 := hide ((At.new w 117 (bcells [false, false, false, false, false, false, false, false])).below hb1 (by simp))
      have B1 := hide (((Below.refl w.heap.size w).alloc (Nat.le_refl _) (.cells #[.bool false, .bool false, .bool false, .bool false, .bool false, .bool false, .bool false, .bool false] 117)).trans (hb1.mono (by simp)))
      have s1 : w.heap.size + 1 ≤ w1.heap.size := by have := hb1.size; simpa using this
      clear hb1
      go_wp2_with fail
      refine (HF.out _ (HW.out.below B1.out)).mono ?_
      rintro e w2 ⟨rfl, hb2⟩
      have A2 := hide ((A1.out.below hb2 A1.out.lt).alloc (.cells #[.int .u8 fk, .string fq, .int .i64 fd, .int .u8 fx] 94))
      have B2 := hide ((B1.out.trans (hb2.mono B1.out.size)).alloc (by have := hb2.size; omega) (.cells #[.int .u8 fk, .string fq, .int .i64 fd, .int .u8 fx] 94))
      have F2 := hide (At.new w2 94 [.int .u8 fk, .string fq, .int .i64 fd, .int .u8 fx])
      have s2 : w.heap.size + 1 ≤ w2.heap.size := by have := hb2.size; omega
      clear hb2 A1 B1
      go_wp2_with fail
      refine (HM.out _ (HW.out.below B2.out)).mono ?_
      rintro e w3 ⟨A, n, c, mk, mq, md, mx, rfl, hb3, hk⟩
      have A3 := hide ((A2.out.below hb3 A2.out.lt).alloc (.cells #[.int .u8 mk, .string mq, .int .i64 md, .int .u8 mx] 94))
      have B3 := hide ((B2.out.trans (hb3.mono B2.out.size)).alloc (by have := hb3.size; have := B2.out.size; omega) (.cells #[.int .u8 mk, .string mq, .int .i64 md, .int .u8 mx] 94))
      have F3 := hide ((F2.out.below hb3 F2.out.lt).alloc (.cells #[.int .u8 mk, .string mq, .int .i64 md, .int .u8 mx] 94))
      have M3 := hide (At.new w3 94 [.int .u8 mk, .string mq, .int .i64 md, .int .u8 mx])
      have s3 : w2.heap.size + 1 ≤ w3.heap.size := by have := hb3.size; simpa using this
      have hH : UBase w w.heap.size w2.heap.size w3.heap.size fk mk (w3.alloc (.cells #[.int .u8 mk, .string mq, .int .i64 md, .int .u8 mx] 94)) :=
        ⟨⟨_, _, _, _, _, _, _, _, A3.out⟩, F3.out.cell 0, M3.out.cell 0, B3.out, Nat.le_refl _, F3.out.lt, M3.out.lt, by omega, by omega⟩
      have HH := hide hH
      clear hb3 A2 B2 F2 A3 B3 F3 M3 hH
      have hkb : (mk == 86) = b7 := hk
      clear hk
      cases b1 <;> cases b4
      · go_wp2_with fail
        refine wp_region_texts (Then (UBase w w.heap.size w2.heap.size w3.heap.size fk mk) (UDone w.heap.size [b0, fk == 91, b2, false, false, b5, b6, b7]) 24) (by kernel_rfl) (by kernel_rfl) (by kernel_rfl) (Then.start (ubase_drew HH.out)) ?_
        repeat (first
          | (refine textL_skip (Then.stays _ _ _) (by rfl) (by rfl) ?_
             simp only [Act.put, List.setIfInBounds_toArray, List.set_cons_zero, List.set_cons_succ])
          | (refine textL_value (Then.stays _ _ _) (v := ?_) (by rfl) (by rfl) ?_ ?_
             rotate_left
             · (intro l W hSw; obtain ⟨⟨_, h5, h8, _⟩, _⟩ := hSw; go_simp; try with_reducible rfl)
             simp only [Act.put, List.setIfInBounds_toArray, List.set_cons_zero, List.set_cons_succ])
          | (refine textL_call (Then.stays _ _ _) (by rfl) (by rfl) ?_ (fun l W hSw => uses_call HC.out hSw) ?_
             · (intro l W hSw; go_simp; done)
             simp only [Act.put, List.setIfInBounds_toArray, List.set_cons_zero, List.set_cons_succ])
          | (refine textL_call (Then.stays _ _ _) (by rfl) (by rfl) ?_ (fun l W hSw => uses_call HP.out hSw) ?_
             · (intro l W hSw; go_simp; done)
             simp only [Act.put, List.setIfInBounds_toArray, List.set_cons_zero, List.set_cons_succ])
          | (refine textL_call (Then.stays _ _ _) (by rfl) (by rfl) ?_ (fun l W hSw => uses_call HN.out hSw) ?_
             · (intro l W hSw; go_simp; done)
             simp only [Act.put, List.setIfInBounds_toArray, List.set_cons_zero, List.set_cons_succ])
          | fail)
        refine textL_store (by rfl) (by rfl) (put8 w.heap.size b0 (fk == 91) b2 false false b5 b6 b7) ?_ ?_ ?_
        · intro l W hSw
          obtain ⟨⟨⟨a, b, c, d, e, f, x, i, ha⟩, _⟩, _⟩ := hSw
          have f0 := ha.free 0
          have f1 := ha.free 1
          have f2 := ha.free 2
          have f3 := ha.free 3
          have f4 := ha.free 4
          have f5 := ha.free 5
          have f6 := ha.free 6
          have f7 := ha.free 7
          obtain ⟨q0, q1, q2, q3, q4, q5, q6, q7⟩ := c8_of ha
          go_simp
          rfl
        · intro l W hSw
          exact ⟨(put8_base hSw.1).1, fun _ => (put8_base hSw.1).2⟩
        refine textL_end ?_
        intro W hSw
        obtain ⟨⟨_, _, _, hB, _⟩, hR⟩ := hSw.done (by decide)
        obtain ⟨q0, q1, q2, q3, q4, q5, q6, q7⟩ := c8_of hR
        go_wp2_with fail
        refine bodyPost_ret (v := D) ?_ rfl ⟨rfl, hB⟩
        rw [HDD.out]
        simp [results, Tryz.results70, go_sem, q0, q1, q2, q3, q4, q5, q6, q7]
        rfl
      · go_wp2_with fail
        refine wp_region_texts (Then (UBase w w.heap.size w2.heap.size w3.heap.size fk mk) (UDone w.heap.size [b0, fk == 91, b2, false, false, b5, b6, b7]) 24) (by kernel_rfl) (by kernel_rfl) (by kernel_rfl) (Then.start (ubase_drew HH.out)) ?_
        repeat (first
          | (refine textL_skip (Then.stays _ _ _) (by rfl) (by rfl) ?_
             simp only [Act.put, List.setIfInBounds_toArray, List.set_cons_zero, List.set_cons_succ])
          | (refine textL_value (Then.stays _ _ _) (v := ?_) (by rfl) (by rfl) ?_ ?_
             rotate_left
             · (intro l W hSw; obtain ⟨⟨_, h5, h8, _⟩, _⟩ := hSw; go_simp; try with_reducible rfl)
             simp only [Act.put, List.setIfInBounds_toArray, List.set_cons_zero, List.set_cons_succ])
          | (refine textL_call (Then.stays _ _ _) (by rfl) (by rfl) ?_ (fun l W hSw => uses_call HC.out hSw) ?_
             · (intro l W hSw; go_simp; done)
             simp only [Act.put, List.setIfInBounds_toArray, List.set_cons_zero, List.set_cons_succ])
          | (refine textL_call (Then.stays _ _ _) (by rfl) (by rfl) ?_ (fun l W hSw => uses_call HP.out hSw) ?_
             · (intro l W hSw; go_simp; done)
             simp only [Act.put, List.setIfInBounds_toArray, List.set_cons_zero, List.set_cons_succ])
          | (refine textL_call (Then.stays _ _ _) (by rfl) (by rfl) ?_ (fun l W hSw => uses_call HN.out hSw) ?_
             · (intro l W hSw; go_simp; done)
             simp only [Act.put, List.setIfInBounds_toArray, List.set_cons_zero, List.set_cons_succ])
          | fail)
        refine textL_store (by rfl) (by rfl) (put8 w.heap.size b0 (fk == 91) b2 false false b5 b6 b7) ?_ ?_ ?_
        · intro l W hSw
          obtain ⟨⟨⟨a, b, c, d, e, f, x, i, ha⟩, _⟩, _⟩ := hSw
          have f0 := ha.free 0
          have f1 := ha.free 1
          have f2 := ha.free 2
          have f3 := ha.free 3
          have f4 := ha.free 4
          have f5 := ha.free 5
          have f6 := ha.free 6
          have f7 := ha.free 7
          obtain ⟨q0, q1, q2, q3, q4, q5, q6, q7⟩ := c8_of ha
          go_simp
          rfl
        · intro l W hSw
          exact ⟨(put8_base hSw.1).1, fun _ => (put8_base hSw.1).2⟩
        refine textL_end ?_
        intro W hSw
        obtain ⟨⟨_, _, _, hB, _⟩, hR⟩ := hSw.done (by decide)
        obtain ⟨q0, q1, q2, q3, q4, q5, q6, q7⟩ := c8_of hR
        go_wp2_with fail
        refine bodyPost_ret (v := D) ?_ rfl ⟨rfl, hB⟩
        rw [HDD.out]
        simp [results, Tryz.results70, go_sem, q0, q1, q2, q3, q4, q5, q6, q7]
        rfl
      · go_wp2_with fail
        refine wp_region_texts (Then (UBase w w.heap.size w2.heap.size w3.heap.size fk mk) (UDone w.heap.size [b0, true, b2, false, false, b5, b6, b7]) 24) (by kernel_rfl) (by kernel_rfl) (by kernel_rfl) (Then.start (ubase_drew HH.out)) ?_
        repeat (first
          | (refine textL_skip (Then.stays _ _ _) (by rfl) (by rfl) ?_
             simp only [Act.put, List.setIfInBounds_toArray, List.set_cons_zero, List.set_cons_succ])
          | (refine textL_value (Then.stays _ _ _) (v := ?_) (by rfl) (by rfl) ?_ ?_
             rotate_left
             · (intro l W hSw; obtain ⟨⟨_, h5, h8, _⟩, _⟩ := hSw; go_simp; try with_reducible rfl)
             simp only [Act.put, List.setIfInBounds_toArray, List.set_cons_zero, List.set_cons_succ])
          | (refine textL_call (Then.stays _ _ _) (by rfl) (by rfl) ?_ (fun l W hSw => uses_call HC.out hSw) ?_
             · (intro l W hSw; go_simp; done)
             simp only [Act.put, List.setIfInBounds_toArray, List.set_cons_zero, List.set_cons_succ])
          | (refine textL_call (Then.stays _ _ _) (by rfl) (by rfl) ?_ (fun l W hSw => uses_call HP.out hSw) ?_
             · (intro l W hSw; go_simp; done)
             simp only [Act.put, List.setIfInBounds_toArray, List.set_cons_zero, List.set_cons_succ])
          | (refine textL_call (Then.stays _ _ _) (by rfl) (by rfl) ?_ (fun l W hSw => uses_call HN.out hSw) ?_
             · (intro l W hSw; go_simp; done)
             simp only [Act.put, List.setIfInBounds_toArray, List.set_cons_zero, List.set_cons_succ])
          | fail)
        refine textL_store (by rfl) (by rfl) (put8 w.heap.size b0 true b2 false false b5 b6 b7) ?_ ?_ ?_
        · intro l W hSw
          obtain ⟨⟨⟨a, b, c, d, e, f, x, i, ha⟩, _⟩, _⟩ := hSw
          have f0 := ha.free 0
          have f1 := ha.free 1
          have f2 := ha.free 2
          have f3 := ha.free 3
          have f4 := ha.free 4
          have f5 := ha.free 5
          have f6 := ha.free 6
          have f7 := ha.free 7
          obtain ⟨q0, q1, q2, q3, q4, q5, q6, q7⟩ := c8_of ha
          go_simp
          rfl
        · intro l W hSw
          exact ⟨(put8_base hSw.1).1, fun _ => (put8_base hSw.1).2⟩
        refine textL_end ?_
        intro W hSw
        obtain ⟨⟨_, _, _, hB, _⟩, hR⟩ := hSw.done (by decide)
        obtain ⟨q0, q1, q2, q3, q4, q5, q6, q7⟩ := c8_of hR
        go_wp2_with fail
        refine bodyPost_ret (v := D) ?_ rfl ⟨rfl, hB⟩
        rw [HDD.out]
        simp [results, Tryz.results70, go_sem, q0, q1, q2, q3, q4, q5, q6, q7]
        rfl
      · go_wp2_with fail
        refine wp_region_texts (Then (UBase w w.heap.size w2.heap.size w3.heap.size fk mk) (UDone w.heap.size [b0, true, b2, false, false, b5, b6, b7]) 24) (by kernel_rfl) (by kernel_rfl) (by kernel_rfl) (Then.start (ubase_drew HH.out)) ?_
        repeat (first
          | (refine textL_skip (Then.stays _ _ _) (by rfl) (by rfl) ?_
             simp only [Act.put, List.setIfInBounds_toArray, List.set_cons_zero, List.set_cons_succ])
          | (refine textL_value (Then.stays _ _ _) (v := ?_) (by rfl) (by rfl) ?_ ?_
             rotate_left
             · (intro l W hSw; obtain ⟨⟨_, h5, h8, _⟩, _⟩ := hSw; go_simp; try with_reducible rfl)
             simp only [Act.put, List.setIfInBounds_toArray, List.set_cons_zero, List.set_cons_succ])
          | (refine textL_call (Then.stays _ _ _) (by rfl) (by rfl) ?_ (fun l W hSw => uses_call HC.out hSw) ?_
             · (intro l W hSw; go_simp; done)
             simp only [Act.put, List.setIfInBounds_toArray, List.set_cons_zero, List.set_cons_succ])
          | (refine textL_call (Then.stays _ _ _) (by rfl) (by rfl) ?_ (fun l W hSw => uses_call HP.out hSw) ?_
             · (intro l W hSw; go_simp; done)
             simp only [Act.put, List.setIfInBounds_toArray, List.set_cons_zero, List.set_cons_succ])
          | (refine textL_call (Then.stays _ _ _) (by rfl) (by rfl) ?_ (fun l W hSw => uses_call HN.out hSw) ?_
             · (intro l W hSw; go_simp; done)
             simp only [Act.put, List.setIfInBounds_toArray, List.set_cons_zero, List.set_cons_succ])
          | fail)
        refine textL_store (by rfl) (by rfl) (put8 w.heap.size b0 true b2 false false b5 b6 b7) ?_ ?_ ?_
        · intro l W hSw
          obtain ⟨⟨⟨a, b, c, d, e, f, x, i, ha⟩, _⟩, _⟩ := hSw
          have f0 := ha.free 0
          have f1 := ha.free 1
          have f2 := ha.free 2
          have f3 := ha.free 3
          have f4 := ha.free 4
          have f5 := ha.free 5
          have f6 := ha.free 6
          have f7 := ha.free 7
          obtain ⟨q0, q1, q2, q3, q4, q5, q6, q7⟩ := c8_of ha
          go_simp
          rfl
        · intro l W hSw
          exact ⟨(put8_base hSw.1).1, fun _ => (put8_base hSw.1).2⟩
        refine textL_end ?_
        intro W hSw
        obtain ⟨⟨_, _, _, hB, _⟩, hR⟩ := hSw.done (by decide)
        obtain ⟨q0, q1, q2, q3, q4, q5, q6, q7⟩ := c8_of hR
        go_wp2_with fail
        refine bodyPost_ret (v := D) ?_ rfl ⟨rfl, hB⟩
        rw [HDD.out]
        simp [results, Tryz.results70, go_sem, q0, q1, q2, q3, q4, q5, q6, q7]
        rfl
    · obtain ⟨l1, l2⟩ := toList_no (l := [60, 105, 110, 105, 116, 62]) c1
      obtain ⟨m1, m2⟩ := toList_no (l := [60, 99, 108, 105, 110, 105, 116, 62]) c2
      have i1 : (nums s == nInit) = false := by simpa using fun e => c1 (nums_inj (e.trans rfl))
      have i2 : specB (nums s) = false := by rw [specB, i1]; simpa using fun e => c2 (nums_inj (e.trans rfl))
      have HDD : Hid (D = usesV [(dec (nums s)).isSome, classB (nums s) || (fk == 91), plainB (nums s), false, methodB (nums s) && true, (field (nums s)).isSome, (sig (nums s)).isSome, voidB (nums s)]) := hide (by rw [← hD, usesB, i1, i2, ← ha]; rfl)
      clear hD ha i1 i2 c1 c2
      generalize (dec (nums s)).isSome = b0 at *
      generalize classB (nums s) = b1 at *
      generalize plainB (nums s) = b2 at *
      generalize methodB (nums s) = b4 at *
      generalize (field (nums s)).isSome = b5 at *
      generalize (sig (nums s)).isSome = b6 at *
      generalize voidB (nums s) = b7 at *
      go_enter Tryz.func70, Tryz.ntmps70
      go_wp2_with fail
      refine (HD0.out _).mono ?_
      rintro e w1 ⟨hb1, v1, rfl⟩
      have A1 := hide ((At.new w 117 (bcells [false, false, false, false, false, false, false, false])).below hb1 (by simp))
      have B1 := hide (((Below.refl w.heap.size w).alloc (Nat.le_refl _) (.cells #[.bool false, .bool false, .bool false, .bool false, .bool false, .bool false, .bool false, .bool false] 117)).trans (hb1.mono (by simp)))
      have s1 : w.heap.size + 1 ≤ w1.heap.size := by have := hb1.size; simpa using this
      clear hb1
      go_wp2_with fail
      refine (HF.out _ (HW.out.below B1.out)).mono ?_
      rintro e w2 ⟨rfl, hb2⟩
      have A2 := hide ((A1.out.below hb2 A1.out.lt).alloc (.cells #[.int .u8 fk, .string fq, .int .i64 fd, .int .u8 fx] 94))
      have B2 := hide ((B1.out.trans (hb2.mono B1.out.size)).alloc (by have := hb2.size; omega) (.cells #[.int .u8 fk, .string fq, .int .i64 fd, .int .u8 fx] 94))
      have F2 := hide (At.new w2 94 [.int .u8 fk, .string fq, .int .i64 fd, .int .u8 fx])
      have s2 : w.heap.size + 1 ≤ w2.heap.size := by have := hb2.size; omega
      clear hb2 A1 B1
      go_wp2_with fail
      refine (HM.out _ (HW.out.below B2.out)).mono ?_
      rintro e w3 ⟨A, n, c, mk, mq, md, mx, rfl, hb3, hk⟩
      have A3 := hide ((A2.out.below hb3 A2.out.lt).alloc (.cells #[.int .u8 mk, .string mq, .int .i64 md, .int .u8 mx] 94))
      have B3 := hide ((B2.out.trans (hb3.mono B2.out.size)).alloc (by have := hb3.size; have := B2.out.size; omega) (.cells #[.int .u8 mk, .string mq, .int .i64 md, .int .u8 mx] 94))
      have F3 := hide ((F2.out.below hb3 F2.out.lt).alloc (.cells #[.int .u8 mk, .string mq, .int .i64 md, .int .u8 mx] 94))
      have M3 := hide (At.new w3 94 [.int .u8 mk, .string mq, .int .i64 md, .int .u8 mx])
      have s3 : w2.heap.size + 1 ≤ w3.heap.size := by have := hb3.size; simpa using this
      have hH : UBase w w.heap.size w2.heap.size w3.heap.size fk mk (w3.alloc (.cells #[.int .u8 mk, .string mq, .int .i64 md, .int .u8 mx] 94)) :=
        ⟨⟨_, _, _, _, _, _, _, _, A3.out⟩, F3.out.cell 0, M3.out.cell 0, B3.out, Nat.le_refl _, F3.out.lt, M3.out.lt, by omega, by omega⟩
      have HH := hide hH
      clear hb3 A2 B2 F2 A3 B3 F3 M3 hH
      have hkb : (mk == 86) = b7 := hk
      clear hk
      cases b1 <;> cases b4
      · go_wp2_with fail
        refine wp_region_texts (Then (UBase w w.heap.size w2.heap.size w3.heap.size fk mk) (UDone w.heap.size [b0, fk == 91, b2, false, false, b5, b6, b7]) 24) (by kernel_rfl) (by kernel_rfl) (by kernel_rfl) (Then.start (ubase_drew HH.out)) ?_
        repeat (first
          | (refine textL_skip (Then.stays _ _ _) (by rfl) (by rfl) ?_
             simp only [Act.put, List.setIfInBounds_toArray, List.set_cons_zero, List.set_cons_succ])
          | (refine textL_value (Then.stays _ _ _) (v := ?_) (by rfl) (by rfl) ?_ ?_
             rotate_left
             · (intro l W hSw; obtain ⟨⟨_, h5, h8, _⟩, _⟩ := hSw; go_simp; try with_reducible rfl)
             simp only [Act.put, List.setIfInBounds_toArray, List.set_cons_zero, List.set_cons_succ])
          | (refine textL_call (Then.stays _ _ _) (by rfl) (by rfl) ?_ (fun l W hSw => uses_call HC.out hSw) ?_
             · (intro l W hSw; go_simp; done)
             simp only [Act.put, List.setIfInBounds_toArray, List.set_cons_zero, List.set_cons_succ])
          | (refine textL_call (Then.stays _ _ _) (by rfl) (by rfl) ?_ (fun l W hSw => uses_call HP.out hSw) ?_
             · (intro l W hSw; go_simp; done)
             simp only [Act.put, List.setIfInBounds_toArray, List.set_cons_zero, List.set_cons_succ])
          | (refine textL_call (Then.stays _ _ _) (by rfl) (by rfl) ?_ (fun l W hSw => uses_call HN.out hSw) ?_
             · (intro l W hSw; go_simp; done)
             simp only [Act.put, List.setIfInBounds_toArray, List.set_cons_zero, List.set_cons_succ])
          | fail)
        refine textL_store (by rfl) (by rfl) (put8 w.heap.size b0 (fk == 91) b2 false false b5 b6 b7) ?_ ?_ ?_
        · intro l W hSw
          obtain ⟨⟨⟨a, b, c, d, e, f, x, i, ha⟩, _⟩, _⟩ := hSw
          have f0 := ha.free 0
          have f1 := ha.free 1
          have f2 := ha.free 2
          have f3 := ha.free 3
          have f4 := ha.free 4
          have f5 := ha.free 5
          have f6 := ha.free 6
          have f7 := ha.free 7
          obtain ⟨q0, q1, q2, q3, q4, q5, q6, q7⟩ := c8_of ha
          go_simp
          rfl
        · intro l W hSw
          exact ⟨(put8_base hSw.1).1, fun _ => (put8_base hSw.1).2⟩
        refine textL_end ?_
        intro W hSw
        obtain ⟨⟨_, _, _, hB, _⟩, hR⟩ := hSw.done (by decide)
        obtain ⟨q0, q1, q2, q3, q4, q5, q6, q7⟩ := c8_of hR
        go_wp2_with fail
        refine bodyPost_ret (v := D) ?_ rfl ⟨rfl, hB⟩
        rw [HDD.out]
        simp [results, Tryz.results70, go_sem, q0, q1, q2, q3, q4, q5, q6, q7]
        rfl
      · go_wp2_with fail
        refine wp_region_texts (Then (UBase w w.heap.size w2.heap.size w3.heap.size fk mk) (UDone w.heap.size [b0, fk == 91, b2, false, true, b5, b6, b7]) 24) (by kernel_rfl) (by kernel_rfl) (by kernel_rfl) (Then.start (ubase_drew HH.out)) ?_
        repeat (first
          | (refine textL_skip (Then.stays _ _ _) (by rfl) (by rfl) ?_
             simp only [Act.put, List.setIfInBounds_toArray, List.set_cons_zero, List.set_cons_succ])
          | (refine textL_value (Then.stays _ _ _) (v := ?_) (by rfl) (by rfl) ?_ ?_
             rotate_left
             · (intro l W hSw; obtain ⟨⟨_, h5, h8, _⟩, _⟩ := hSw; go_simp; try with_reducible rfl)
             simp only [Act.put, List.setIfInBounds_toArray, List.set_cons_zero, List.set_cons_succ])
          | (refine textL_call (Then.stays _ _ _) (by rfl) (by rfl) ?_ (fun l W hSw => uses_call HC.out hSw) ?_
             · (intro l W hSw; go_simp; done)
             simp only [Act.put, List.setIfInBounds_toArray, List.set_cons_zero, List.set_cons_succ])
          | (refine textL_call (Then.stays _ _ _) (by rfl) (by rfl) ?_ (fun l W hSw => uses_call HP.out hSw) ?_
             · (intro l W hSw; go_simp; done)
             simp only [Act.put, List.setIfInBounds_toArray, List.set_cons_zero, List.set_cons_succ])
          | (refine textL_call (Then.stays _ _ _) (by rfl) (by rfl) ?_ (fun l W hSw => uses_call HN.out hSw) ?_
             · (intro l W hSw; go_simp; done)
             simp only [Act.put, List.setIfInBounds_toArray, List.set_cons_zero, List.set_cons_succ])
          | fail)
        refine textL_store (by rfl) (by rfl) (put8 w.heap.size b0 (fk == 91) b2 false true b5 b6 b7) ?_ ?_ ?_
        · intro l W hSw
          obtain ⟨⟨⟨a, b, c, d, e, f, x, i, ha⟩, _⟩, _⟩ := hSw
          have f0 := ha.free 0
          have f1 := ha.free 1
          have f2 := ha.free 2
          have f3 := ha.free 3
          have f4 := ha.free 4
          have f5 := ha.free 5
          have f6 := ha.free 6
          have f7 := ha.free 7
          obtain ⟨q0, q1, q2, q3, q4, q5, q6, q7⟩ := c8_of ha
          go_simp
          rfl
        · intro l W hSw
          exact ⟨(put8_base hSw.1).1, fun _ => (put8_base hSw.1).2⟩
        refine textL_end ?_
        intro W hSw
        obtain ⟨⟨_, _, _, hB, _⟩, hR⟩ := hSw.done (by decide)
        obtain ⟨q0, q1, q2, q3, q4, q5, q6, q7⟩ := c8_of hR
        go_wp2_with fail
        refine bodyPost_ret (v := D) ?_ rfl ⟨rfl, hB⟩
        rw [HDD.out]
        simp [results, Tryz.results70, go_sem, q0, q1, q2, q3, q4, q5, q6, q7]
        rfl
      · go_wp2_with fail
        refine wp_region_texts (Then (UBase w w.heap.size w2.heap.size w3.heap.size fk mk) (UDone w.heap.size [b0, true, b2, false, false, b5, b6, b7]) 24) (by kernel_rfl) (by kernel_rfl) (by kernel_rfl) (Then.start (ubase_drew HH.out)) ?_
        repeat (first
          | (refine textL_skip (Then.stays _ _ _) (by rfl) (by rfl) ?_
             simp only [Act.put, List.setIfInBounds_toArray, List.set_cons_zero, List.set_cons_succ])
          | (refine textL_value (Then.stays _ _ _) (v := ?_) (by rfl) (by rfl) ?_ ?_
             rotate_left
             · (intro l W hSw; obtain ⟨⟨_, h5, h8, _⟩, _⟩ := hSw; go_simp; try with_reducible rfl)
             simp only [Act.put, List.setIfInBounds_toArray, List.set_cons_zero, List.set_cons_succ])
          | (refine textL_call (Then.stays _ _ _) (by rfl) (by rfl) ?_ (fun l W hSw => uses_call HC.out hSw) ?_
             · (intro l W hSw; go_simp; done)
             simp only [Act.put, List.setIfInBounds_toArray, List.set_cons_zero, List.set_cons_succ])
          | (refine textL_call (Then.stays _ _ _) (by rfl) (by rfl) ?_ (fun l W hSw => uses_call HP.out hSw) ?_
             · (intro l W hSw; go_simp; done)
             simp only [Act.put, List.setIfInBounds_toArray, List.set_cons_zero, List.set_cons_succ])
          | (refine textL_call (Then.stays _ _ _) (by rfl) (by rfl) ?_ (fun l W hSw => uses_call HN.out hSw) ?_
             · (intro l W hSw; go_simp; done)
             simp only [Act.put, List.setIfInBounds_toArray, List.set_cons_zero, List.set_cons_succ])
          | fail)
        refine textL_store (by rfl) (by rfl) (put8 w.heap.size b0 true b2 false false b5 b6 b7) ?_ ?_ ?_
        · intro l W hSw
          obtain ⟨⟨⟨a, b, c, d, e, f, x, i, ha⟩, _⟩, _⟩ := hSw
          have f0 := ha.free 0
          have f1 := ha.free 1
          have f2 := ha.free 2
          have f3 := ha.free 3
          have f4 := ha.free 4
          have f5 := ha.free 5
          have f6 := ha.free 6
          have f7 := ha.free 7
          obtain ⟨q0, q1, q2, q3, q4, q5, q6, q7⟩ := c8_of ha
          go_simp
          rfl
        · intro l W hSw
          exact ⟨(put8_base hSw.1).1, fun _ => (put8_base hSw.1).2⟩
        refine textL_end ?_
        intro W hSw
        obtain ⟨⟨_, _, _, hB, _⟩, hR⟩ := hSw.done (by decide)
        obtain ⟨q0, q1, q2, q3, q4, q5, q6, q7⟩ := c8_of hR
        go_wp2_with fail
        refine bodyPost_ret (v := D) ?_ rfl ⟨rfl, hB⟩
        rw [HDD.out]
        simp [results, Tryz.results70, go_sem, q0, q1, q2, q3, q4, q5, q6, q7]
        rfl
      · go_wp2_with fail
        refine wp_region_texts (Then (UBase w w.heap.size w2.heap.size w3.heap.size fk mk) (UDone w.heap.size [b0, true, b2, false, true, b5, b6, b7]) 24) (by kernel_rfl) (by kernel_rfl) (by kernel_rfl) (Then.start (ubase_drew HH.out)) ?_
        repeat (first
          | (refine textL_skip (Then.stays _ _ _) (by rfl) (by rfl) ?_
             simp only [Act.put, List.setIfInBounds_toArray, List.set_cons_zero, List.set_cons_succ])
          | (refine textL_value (Then.stays _ _ _) (v := ?_) (by rfl) (by rfl) ?_ ?_
             rotate_left
             · (intro l W hSw; obtain ⟨⟨_, h5, h8, _⟩, _⟩ := hSw; go_simp; try with_reducible rfl)
             simp only [Act.put, List.setIfInBounds_toArray, List.set_cons_zero, List.set_cons_succ])
          | (refine textL_call (Then.stays _ _ _) (by rfl) (by rfl) ?_ (fun l W hSw => uses_call HC.out hSw) ?_
             · (intro l W hSw; go_simp; done)
             simp only [Act.put, List.setIfInBounds_toArray, List.set_cons_zero, List.set_cons_succ])
          | (refine textL_call (Then.stays _ _ _) (by rfl) (by rfl) ?_ (fun l W hSw => uses_call HP.out hSw) ?_
             · (intro l W hSw; go_simp; done)
             simp only [Act.put, List.setIfInBounds_toArray, List.set_cons_zero, List.set_cons_succ])
          | (refine textL_call (Then.stays _ _ _) (by rfl) (by rfl) ?_ (fun l W hSw => uses_call HN.out hSw) ?_
             · (intro l W hSw; go_simp; done)
             simp only [Act.put, List.setIfInBounds_toArray, List.set_cons_zero, List.set_cons_succ])
          | fail)
        refine textL_store (by rfl) (by rfl) (put8 w.heap.size b0 true b2 false true b5 b6 b7) ?_ ?_ ?_
        · intro l W hSw
          obtain ⟨⟨⟨a, b, c, d, e, f, x, i, ha⟩, _⟩, _⟩ := hSw
          have f0 := ha.free 0
          have f1 := ha.free 1
          have f2 := ha.free 2
          have f3 := ha.free 3
          have f4 := ha.free 4
          have f5 := ha.free 5
          have f6 := ha.free 6
          have f7 := ha.free 7
          obtain ⟨q0, q1, q2, q3, q4, q5, q6, q7⟩ := c8_of ha
          go_simp
          rfl
        · intro l W hSw
          exact ⟨(put8_base hSw.1).1, fun _ => (put8_base hSw.1).2⟩
        refine textL_end ?_
        intro W hSw
        obtain ⟨⟨_, _, _, hB, _⟩, hR⟩ := hSw.done (by decide)
        obtain ⟨q0, q1, q2, q3, q4, q5, q6, q7⟩ := c8_of hR
        go_wp2_with fail
        refine bodyPost_ret (v := D) ?_ rfl ⟨rfl, hB⟩
        rw [HDD.out]
        simp [results, Tryz.results70, go_sem, q0, q1, q2, q3, q4, q5, q6, q7]
        rfl
end Go.Proofs.YtbdbcalmjbmflaaGreatDoor
namespace Go.Proofs.YtbdbcalmjbmflaaGreatDoor
open Go.RowKit

/-- What a text at an entry may stand for; nothing where there is no text. -/
def usesE (e : Cst) : List Bool := if e.tag = 1 then usesB e.text else [false, false, false, false, false, false, false, false]
def usesOf (ps : List Cst) : List (List Bool) := ps.map usesE
def ucells (us : List (List Bool)) : List Value := us.flatMap bcells
theorem usesE_len (e : Cst) : (usesE e).length = 8 := by unfold usesE; split <;> rfl
theorem ucells_len : ∀ us : List (List Bool), (∀ u ∈ us, u.length = 8) → (ucells us).length = us.length * 8 := by
  intro us
  induction us with
  | nil => intro _; rfl
  | cons u r ih =>
    intro h
    have := ih fun x hx => h x (by simp [hx])
    have h0 := h u (by simp)
    simp only [ucells, List.flatMap_cons, List.length_append] at this ⊢
    rw [this]
    simp [bcells, h0]; omega
theorem ucells_at : ∀ (us : List (List Bool)) (j i : Nat), (∀ u ∈ us, u.length = 8) → j < us.length → i < 8 → (ucells us)[j * 8 + i]? = some (.bool ((us.getD j []).getD i false)) := by
  intro us
  induction us with
  | nil => intro j i _ h; simp at h
  | cons u r ih =>
    intro j i hu h hi
    have h0 := hu u (by simp)
    have hb : (bcells u).length = 8 := by simp [bcells, h0]
    cases j with
    | zero =>
      rw [ucells, List.flatMap_cons, List.getElem?_append_left (by omega)]
      simp [bcells, List.getD, show i < u.length by omega]
    | succ j =>
      rw [ucells, List.flatMap_cons, List.getElem?_append_right (by omega), hb, show (j + 1) * 8 + i - 8 = j * 8 + i by omega]
      have := ih j i (fun x hx => hu x (by simp [hx])) (by simpa using h) hi
      rw [ucells] at this
      rw [this]; simp
theorem usesOf_at (ps : List Cst) {j : Nat} (h : j < ps.length) : (usesOf ps).getD j [] = usesE (ps.getD j noC) := by
  simp [usesOf, List.getD, h]
theorem list8 (l : List Bool) (h : l.length = 8) : l = [l.getD 0 false, l.getD 1 false, l.getD 2 false, l.getD 3 false, l.getD 4 false, l.getD 5 false, l.getD 6 false, l.getD 7 false] := by
  match l, h with
  | [a, b, c, d, e, f, g, i], _ => rfl
/-- The pool lies there, and what its texts may stand for. -/
def RulesIn (w : World) (A : Option Addr) (n gu : Nat) (ps : List Cst) : Prop := RdC w w.heap.size A n ps ∧ At w gu 117 (ucells (usesOf ps))
theorem RulesIn.below {w w' : World} {A : Option Addr} {n gu : Nat} {ps : List Cst} (h : RulesIn w A n gu ps) (hb : Below w.heap.size w w') : RulesIn w' A n gu ps :=
  ⟨(h.1.below hb).mono hb.size, h.2.below hb h.2.lt⟩
def rulesV (A : Option Addr) (n c gu : Nat) : Value := .agg #[.slice A n c, .slice (some ⟨gu, 0, none⟩) n n]

set_option maxHeartbeats 4000000 in
set_option maxRecDepth 100000 in
theorem has_any (A : Option Addr) (n c gu : Nat) (ps : List Cst) (i t : Int) (w : World) (h : RdC w w.heap.size A n ps) (ht : t ≠ 0) :
    Calls Tryz.prog 88 #[.agg #[.slice A n c, .slice (some ⟨gu, 0, none⟩) n n], .int .i64 i, .int .i64 t] w fun e w' => e = .returned (.bool ((atC ps i).tag == t)) ∧ Below w.heap.size w w' := by
  have hE : Calls Tryz.prog 72 #[.slice A n c, .int .i64 i, .slice (some ⟨w.heap.size + 1, 0, none⟩) 1 1] ((w.alloc (.cells #[.slice A n c, .slice (some ⟨gu, 0, none⟩) n n] 115)).alloc (.cells #[.int .i64 t] 3)) fun e w' => e = .returned (entryV (entryAt ps i [t])) ∧ Below w.heap.size w w' := by
    have hb0 : Below w.heap.size w (w.alloc (.cells #[.slice A n c, .slice (some ⟨gu, 0, none⟩) n n] 115)) := (Below.refl _ w).alloc (Nat.le_refl _) _
    have := entry_lit A n c ps i [t] (w.alloc (.cells #[.slice A n c, .slice (some ⟨gu, 0, none⟩) n n] 115)) ((h.below hb0).mono hb0.size) (by simp)
    rw [World.size_alloc] at this
    refine this.mono fun e w' hh => ⟨hh.1, hb0.trans (hh.2.mono (by (first | omega | (simp only [World.size_alloc]; omega) | (simp; done) | (simp; omega))))⟩
  rw [entryAt_of (by simpa using fun e => ht e.symm)] at hE
  by_cases hc : (atC ps i).tag = t
  · rw [if_pos (by simp [hc]), entryV_some] at hE
    rw [show ((atC ps i).tag == t) = true by simpa using hc]
    have HE := hide hE
    generalize strOfNums (atC ps i).text = q at *
    generalize (atC ps i).tag = y0 at *
    generalize (atC ps i).num = y1 at *
    generalize (atC ps i).a = y2 at *
    generalize (atC ps i).b = y3 at *
    clear hE h ht hc
    go_enter Tryz.func88, Tryz.ntmps88
    go_wp2_with fail
    refine HE.out.mono ?_
    rintro e w1 ⟨rfl, hb⟩
    have Hb := hide hb
    have hs := hb.size
    clear hb
    go_wp2_with fail
    go_ret
    exact ⟨rfl, by repeat (first | with_reducible exact Hb.out | with_reducible refine Below.drew ?_ | with_reducible refine below_drewN ?_ _ | ((with_reducible refine Below.setCell ?_ ?hp _); case hp => simp) | ((with_reducible refine Below.alloc ?_ ?hp _); case hp => first | omega | (simp; done) | (simp; omega)))⟩
  · rw [if_neg (by simpa using hc), entryV_none] at hE
    rw [show ((atC ps i).tag == t) = false by simpa using hc]
    have HE := hide hE
    clear hE h ht hc
    go_enter Tryz.func88, Tryz.ntmps88
    go_wp2_with fail
    refine HE.out.mono ?_
    rintro e w1 ⟨rfl, hb⟩
    have Hb := hide hb
    have hs := hb.size
    clear hb
    go_wp2_with fail
    go_ret
    exact ⟨rfl, by repeat (first | with_reducible exact Hb.out | with_reducible refine Below.drew ?_ | with_reducible refine below_drewN ?_ _ | ((with_reducible refine Below.setCell ?_ ?hp _); case hp => simp) | ((with_reducible refine Below.alloc ?_ ?hp _); case hp => first | omega | (simp; done) | (simp; omega)))⟩

set_option maxHeartbeats 4000000 in
set_option maxRecDepth 100000 in
theorem uat_any (A : Option Addr) (n c gu : Nat) (ps : List Cst) (i : Int) (w : World) (h : RulesIn w A n gu ps) :
    Calls Tryz.prog 89 #[.agg #[.slice A n c, .slice (some ⟨gu, 0, none⟩) n n], .int .i64 i] w fun e w' => e = .returned (usesV (usesE (atC ps i))) ∧ Below w.heap.size w w' := by
  have HH : Hid (∀ W, Below w.heap.size w W → Calls Tryz.prog 88 #[.agg #[.slice A n c, .slice (some ⟨gu, 0, none⟩) n n], .int .i64 i, .int .i64 1] W fun e w' => e = .returned (.bool ((atC ps i).tag == 1)) ∧ Below W.heap.size W w') := hide fun W hb => has_any A n c gu ps i 1 W (h.below hb).1 (by decide)
  obtain ⟨D, hD⟩ : ∃ D, usesV (usesE (atC ps i)) = D := ⟨_, rfl⟩
  rw [hD]
  by_cases hc : (atC ps i).tag = 1
  · obtain ⟨j, rfl, hj⟩ := tag_in h.1.1 (i := i) (by omega)
    have hji : (j : Int) < (n : Int) := by omega
    have h8 := list8 _ (usesE_len (atC ps j))
    have hcell : ∀ k, k < 8 → (ucells (usesOf ps))[j * 8 + k]? = some (.bool ((usesE (atC ps j)).getD k false)) := fun k hk => by
      rw [ucells_at _ _ _ (fun u hu => by
        simp only [usesOf, List.mem_map] at hu
        obtain ⟨x, _, rfl⟩ := hu
        exact usesE_len x) (by simp [usesOf]; have := h.1.1; omega) hk, usesOf_at _ (by have := h.1.1; omega), atC_in h.1.1 hj]
    rw [h8] at hD
    have k0 := hcell 0 (by decide)
    rw [Nat.add_zero] at k0
    have k1 := hcell 1 (by decide)
    have k2 := hcell 2 (by decide)
    have k3 := hcell 3 (by decide)
    have k4 := hcell 4 (by decide)
    have k5 := hcell 5 (by decide)
    have k6 := hcell 6 (by decide)
    have k7 := hcell 7 (by decide)
    generalize (usesE (atC ps j)).getD 0 false = u0 at *
    generalize (usesE (atC ps j)).getD 1 false = u1 at *
    generalize (usesE (atC ps j)).getD 2 false = u2 at *
    generalize (usesE (atC ps j)).getD 3 false = u3 at *
    generalize (usesE (atC ps j)).getD 4 false = u4 at *
    generalize (usesE (atC ps j)).getD 5 false = u5 at *
    generalize (usesE (atC ps j)).getD 6 false = u6 at *
    generalize (usesE (atC ps j)).getD 7 false = u7 at *
    have ht : ((atC ps j).tag == 1) = true := by simpa using hc
    rw [ht] at HH
    have HD := hide hD
    have HR := hide h.2
    have H8 := hide (And.intro k0 (And.intro k1 (And.intro k2 (And.intro k3 (And.intro k4 (And.intro k5 (And.intro k6 k7)))))))
    clear hD hc ht h8 hcell h k0 k1 k2 k3 k4 k5 k6 k7
    go_enter Tryz.func89, Tryz.ntmps89
    go_wp2_with fail
    refine (HH.out _ ?_).mono ?_
    · repeat (first | with_reducible exact (Below.refl _ _) | with_reducible refine Below.drew ?_ | with_reducible refine below_drewN ?_ _ | ((with_reducible refine Below.setCell ?_ ?hp _); case hp => simp) | ((with_reducible refine Below.alloc ?_ ?hp _); case hp => first | omega | (simp; done) | (simp; omega)))
    rintro e w1 ⟨rfl, hb⟩
    have Hb : Hid (Below w.heap.size w w1) := hide ((show Below w.heap.size w _ by repeat (first | with_reducible exact (Below.refl _ _) | with_reducible refine Below.drew ?_ | with_reducible refine below_drewN ?_ _ | ((with_reducible refine Below.setCell ?_ ?hp _); case hp => simp) | ((with_reducible refine Below.alloc ?_ ?hp _); case hp => first | omega | (simp; done) | (simp; omega)))).trans (hb.mono (by (first | omega | (simp only [World.size_alloc]; omega) | (simp; done) | (simp; omega)))))
    have hs := hb.size
    have hr1 := HR.out.below Hb.out HR.out.lt
    obtain ⟨k0, k1, k2, k3, k4, k5, k6, k7⟩ := H8.out
    have q0 := (hr1.cell _).trans k0
    have q1 := (hr1.cell _).trans k1
    have q2 := (hr1.cell _).trans k2
    have q3 := (hr1.cell _).trans k3
    have q4 := (hr1.cell _).trans k4
    have q5 := (hr1.cell _).trans k5
    have q6 := (hr1.cell _).trans k6
    have q7 := (hr1.cell _).trans k7
    have ha := (At.new (w.alloc (.cells #[.slice A n c, .slice (some ⟨gu, 0, none⟩) n n] 115)) 117 (bcells [false, false, false, false, false, false, false, false]))
    have hbx := ((At.new w 115 [.slice A n c, .slice (some ⟨gu, 0, none⟩) n n]).alloc (.cells #[.bool false, .bool false, .bool false, .bool false, .bool false, .bool false, .bool false, .bool false] 117)).below hb (by (first | omega | (simp only [World.size_alloc]; omega) | (simp; done) | (simp; omega)))
    have x1 := hbx.cell 1
    have y0 := ha.below hb (by (first | omega | (simp only [World.size_alloc]; omega) | (simp; done) | (simp; omega)))
    simp only [World.size_alloc] at y0
    have f0 := y0.free 0
    have f1 := y0.free 1
    have f2 := y0.free 2
    have f3 := y0.free 3
    have f4 := y0.free 4
    have f5 := y0.free 5
    have f6 := y0.free 6
    have f7 := y0.free 7
    obtain ⟨g0, g1, g2, g3, g4, g5, g6, g7⟩ := c8_of y0
    simp only [List.getElem?_cons_zero, List.getElem?_cons_succ] at x1
    clear hb hr1 k0 k1 k2 k3 k4 k5 k6 k7 hbx ha
    obtain ⟨W, hW⟩ : ∃ W, put8 (w.heap.size + 1) u0 u1 u2 u3 u4 u5 u6 u7 w1 = W := ⟨_, rfl⟩
    have hy := put8_at (b0 := u0) (b1 := u1) (b2 := u2) (b3 := u3) (b4 := u4) (b5 := u5) (b6 := u6) (b7 := u7) y0
    rw [hW] at hy
    have hB : Below w.heap.size w W := by
      rw [← hW]; unfold put8; repeat (first | with_reducible exact Hb.out | with_reducible refine Below.drew ?_ | with_reducible refine below_drewN ?_ _ | ((with_reducible refine Below.setCell ?_ ?hp _); case hp => simp) | ((with_reducible refine Below.alloc ?_ ?hp _); case hp => first | omega | (simp; done) | (simp; omega)))
    have Hy := hide hy
    have HW := hide hW
    clear hy hW
    go_wp2_with fail
    have hW := HW.out
    unfold put8 at hW
    rw [hW]
    obtain ⟨q0, q1, q2, q3, q4, q5, q6, q7⟩ := c8_of Hy.out
    refine bodyPost_ret (v := D) ?_ rfl ⟨rfl, hB⟩
    rw [← HD.out]
    simp [results, Tryz.results89, go_sem, q0, q1, q2, q3, q4, q5, q6, q7]
    rfl
  · have HD : Hid (D = usesV [false, false, false, false, false, false, false, false]) := hide (by rw [← hD, usesE, if_neg hc])
    have ht : ((atC ps i).tag == 1) = false := by simpa using hc
    rw [ht] at HH
    clear hD hc ht h
    go_enter Tryz.func89, Tryz.ntmps89
    go_wp2_with fail
    refine (HH.out _ ?_).mono ?_
    · repeat (first | with_reducible exact (Below.refl _ _) | with_reducible refine Below.drew ?_ | with_reducible refine below_drewN ?_ _ | ((with_reducible refine Below.setCell ?_ ?hp _); case hp => simp) | ((with_reducible refine Below.alloc ?_ ?hp _); case hp => first | omega | (simp; done) | (simp; omega)))
    rintro e w1 ⟨rfl, hb⟩
    have Hb : Hid (Below w.heap.size w w1) := hide ((show Below w.heap.size w _ by repeat (first | with_reducible exact (Below.refl _ _) | with_reducible refine Below.drew ?_ | with_reducible refine below_drewN ?_ _ | ((with_reducible refine Below.setCell ?_ ?hp _); case hp => simp) | ((with_reducible refine Below.alloc ?_ ?hp _); case hp => first | omega | (simp; done) | (simp; omega)))).trans (hb.mono (by (first | omega | (simp only [World.size_alloc]; omega) | (simp; done) | (simp; omega)))))
    have ha := (At.new (w.alloc (.cells #[.slice A n c, .slice (some ⟨gu, 0, none⟩) n n] 115)) 117 (bcells [false, false, false, false, false, false, false, false]))
    have y0 := ha.below hb (by (first | omega | (simp only [World.size_alloc]; omega) | (simp; done) | (simp; omega)))
    simp only [World.size_alloc] at y0
    have f0 := y0.free 0
    have f1 := y0.free 1
    have f2 := y0.free 2
    have f3 := y0.free 3
    have f4 := y0.free 4
    have f5 := y0.free 5
    have f6 := y0.free 6
    have f7 := y0.free 7
    obtain ⟨g0, g1, g2, g3, g4, g5, g6, g7⟩ := c8_of y0
    have hs := hb.size
    clear hb ha
    obtain ⟨W, hW⟩ : ∃ W, put8 (w.heap.size + 1) false false false false false false false false w1 = W := ⟨_, rfl⟩
    have hy := put8_at (b0 := false) (b1 := false) (b2 := false) (b3 := false) (b4 := false) (b5 := false) (b6 := false) (b7 := false) y0
    rw [hW] at hy
    have hB : Below w.heap.size w W := by
      rw [← hW]; unfold put8; repeat (first | with_reducible exact Hb.out | with_reducible refine Below.drew ?_ | with_reducible refine below_drewN ?_ _ | ((with_reducible refine Below.setCell ?_ ?hp _); case hp => simp) | ((with_reducible refine Below.alloc ?_ ?hp _); case hp => first | omega | (simp; done) | (simp; omega)))
    have Hy := hide hy
    have HW := hide hW
    clear hy hW
    go_wp2_with fail
    have hW := HW.out
    unfold put8 at hW
    rw [hW]
    obtain ⟨q0, q1, q2, q3, q4, q5, q6, q7⟩ := c8_of Hy.out
    refine bodyPost_ret (v := D) ?_ rfl ⟨rfl, hB⟩
    rw [HD.out]
    simp [results, Tryz.results89, go_sem, q0, q1, q2, q3, q4, q5, q6, q7]
    rfl
end Go.Proofs.YtbdbcalmjbmflaaGreatDoor
namespace Go.Proofs.YtbdbcalmjbmflaaGreatDoor
open Go.RowKit

/-- May a reference of this tag name this, by what its name and its descriptor may stand for? -/
def refB (t : Int) (u v : List Bool) : Bool :=
  if t = 9 then v.getD 5 false && !u.getD 3 false
  else if u.getD 3 false then v.getD 7 false && t == 10
  else v.getD 6 false && u.getD 4 false

abbrev bF : List Value := [.bool false, .bool false, .bool false, .bool false, .bool false, .bool false, .bool false, .bool false]
/-- What is held of the world while two uses are asked for and put down. -/
def RWd (B : Nat) (w0 : World) (us vs : List Bool) (l : Nat → Bool) (val : Nat → Value) (w : World) : Prop :=
  Below B w0 w ∧ (l 8 = true → ∃ g, val 8 = .pointer (some ⟨g, 0, none⟩) ∧ B ≤ g ∧ At w g 117 (if l 10 = true then bcells us else bF)) ∧
  (l 9 = true → ∃ g, val 9 = .pointer (some ⟨g, 0, none⟩) ∧ B ≤ g ∧ At w g 117 (if l 11 = true then bcells vs else bF)) ∧ (l 8 = true → l 9 = true → val 8 ≠ val 9) ∧ (l 10 = true → l 8 = true) ∧ (l 11 = true → l 9 = true)
section
variable {B : Nat} {w0 w w' : World} {us vs : List Bool} {l : Nat → Bool} {val : Nat → Value}
theorem rwd_other {i : Nat} (hi : i < 8) (v : Value) (l : Nat → Bool) (val : Nat → Value) (w : World) (h : RWd B w0 us vs l val w) : RWd B w0 us vs (come l i) (upd val i v) w := by
  have e : ∀ k, 8 ≤ k → come l i k = l k := fun k hk => by simp [come]; omega
  have e2 : ∀ k, 8 ≤ k → upd val i v k = val k := fun k hk => by unfold upd; rw [if_neg (by omega)]
  unfold RWd
  rw [e 8 (by decide), e 9 (by decide), e 10 (by decide), e 11 (by decide), e2 8 (by decide), e2 9 (by decide)]
  exact h
theorem rwd_below (h : RWd B w0 us vs l val w) (hB : B ≤ w0.heap.size) (hb : Below w.heap.size w w') : RWd B w0 us vs l val w' := by
  obtain ⟨h0, h1, h2, h3⟩ := h
  refine ⟨h0.trans (hb.mono (by have := h0.size; omega)), fun hl => ?_, fun hl => ?_, h3⟩
  · obtain ⟨g, e, hg, ha⟩ := h1 hl; exact ⟨g, e, hg, ha.below hb ha.lt⟩
  · obtain ⟨g, e, hg, ha⟩ := h2 hl; exact ⟨g, e, hg, ha.below hb ha.lt⟩
theorem rwd_new8 (h : RWd B w0 us vs l val w) (hB : B ≤ w0.heap.size) (hl : l 8 = false) : RWd B w0 us vs (come l 8) (upd val 8 (.pointer (some ⟨w.heap.size, 0, none⟩))) (w.alloc (.cells bF.toArray 117)) := by
  obtain ⟨h0, h1, h2, h3, h4, h5⟩ := h
  have l10 : l 10 = false := by cases hq : l 10 <;> simp_all
  refine ⟨h0.alloc (by have := h0.size; omega) _, fun _ => ⟨w.heap.size, rfl, by have := h0.size; omega, ?_⟩, fun hh => ?_, fun _ hh => ?_, fun hh => ?_, fun hh => ?_⟩
  · simp [come, l10]; exact At.new _ _ _
  · obtain ⟨g, e, hg, ha⟩ := h2 (by simpa [come] using hh)
    refine ⟨g, e, hg, ?_⟩
    simpa [come] using ha.alloc _
  · obtain ⟨g, e, hg, ha⟩ := h2 (by simpa [come] using hh)
    have := ha.lt
    simp only [upd, if_true]
    rw [if_neg (by decide), e]
    intro e
    injection e with e
    injection e with e
    injection e with e
    omega
  · simp [come]
  · simpa [come] using h5 (by simpa [come] using hh)
theorem rwd_new9 (h : RWd B w0 us vs l val w) (hB : B ≤ w0.heap.size) (hl : l 9 = false) : RWd B w0 us vs (come l 9) (upd val 9 (.pointer (some ⟨w.heap.size, 0, none⟩))) (w.alloc (.cells bF.toArray 117)) := by
  obtain ⟨h0, h1, h2, h3, h4, h5⟩ := h
  have l11 : l 11 = false := by cases hq : l 11 <;> simp_all
  refine ⟨h0.alloc (by have := h0.size; omega) _, fun hh => ?_, fun _ => ⟨w.heap.size, rfl, by have := h0.size; omega, ?_⟩, fun hh _ => ?_, fun hh => ?_, fun hh => ?_⟩
  · obtain ⟨g, e, hg, ha⟩ := h1 (by simpa [come] using hh)
    refine ⟨g, e, hg, ?_⟩
    simpa [come] using ha.alloc _
  · simp [come, l11]; exact At.new _ _ _
  · obtain ⟨g, e, hg, ha⟩ := h1 (by simpa [come] using hh)
    have := ha.lt
    simp only [upd, if_true]
    rw [if_neg (by decide), e]
    intro e
    injection e with e
    injection e with e
    injection e with e
    omega
  · simpa [come] using h4 (by simpa [come] using hh)
  · simp [come]
theorem put8_far {g g' : Nat} {t : TypeId} {cs : List Value} {b0 b1 b2 b3 b4 b5 b6 b7 : Bool} (h : At w g' t cs) (hg : g' ≠ g) : At (put8 g b0 b1 b2 b3 b4 b5 b6 b7 w) g' t cs :=
  (((((((h.far (p := ⟨g, 0, none⟩) hg _).far (p := ⟨g, 1, none⟩) hg _).far (p := ⟨g, 2, none⟩) hg _).far (p := ⟨g, 3, none⟩) hg _).far (p := ⟨g, 4, none⟩) hg _).far (p := ⟨g, 5, none⟩) hg _).far (p := ⟨g, 6, none⟩) hg _).far (p := ⟨g, 7, none⟩) hg _
theorem put8_below {g : Nat} {b0 b1 b2 b3 b4 b5 b6 b7 : Bool} (h : Below B w0 w) (hg : B ≤ g) : Below B w0 (put8 g b0 b1 b2 b3 b4 b5 b6 b7 w) := by
  unfold put8
  repeat (first | with_reducible exact h | (with_reducible refine Below.setCell ?_ ?hp _; case hp => exact hg))
theorem rwd_put8 {g : Nat} {b0 b1 b2 b3 b4 b5 b6 b7 : Bool} (h : RWd B w0 [b0, b1, b2, b3, b4, b5, b6, b7] vs l val w) (hl : l 8 = true) (hl0 : l 10 = false) (hg : val 8 = .pointer (some ⟨g, 0, none⟩)) : RWd B w0 [b0, b1, b2, b3, b4, b5, b6, b7] vs (come l 10) (upd val 10 undef) (put8 g b0 b1 b2 b3 b4 b5 b6 b7 w) := by
  obtain ⟨h0, h1, h2, h3, h4, h5⟩ := h
  obtain ⟨g', e, hB, ha⟩ := h1 hl
  obtain rfl : g' = g := by rw [hg] at e; injection e with e; injection e with e; injection e with e; exact e.symm
  rw [hl0] at ha
  refine ⟨put8_below h0 hB, fun _ => ⟨g', hg, hB, ?_⟩, fun hh => ?_, fun a b => ?_, fun _ => ?_, fun hh => ?_⟩
  · simp only [come, Bool.or_true, if_true, beq_self_eq_true]
    exact put8_at ha
  · obtain ⟨g2, e2, hB2, ha2⟩ := h2 (by simpa [come] using hh)
    refine ⟨g2, e2, hB2, ?_⟩
    have hne := h3 hl (by simpa [come] using hh)
    rw [hg, e2] at hne
    have := put8_far (b0 := b0) (b1 := b1) (b2 := b2) (b3 := b3) (b4 := b4) (b5 := b5) (b6 := b6) (b7 := b7) ha2 (g := g') (fun e => hne (by rw [e]))
    simpa [come] using this
  · exact h3 hl (by simpa [come] using b)
  · simp [come, hl]
  · simpa [come] using h5 (by simpa [come] using hh)
theorem rwd_put9 {g : Nat} {b0 b1 b2 b3 b4 b5 b6 b7 : Bool} (h : RWd B w0 us [b0, b1, b2, b3, b4, b5, b6, b7] l val w) (hl : l 9 = true) (hl0 : l 11 = false) (hg : val 9 = .pointer (some ⟨g, 0, none⟩)) : RWd B w0 us [b0, b1, b2, b3, b4, b5, b6, b7] (come l 11) (upd val 11 undef) (put8 g b0 b1 b2 b3 b4 b5 b6 b7 w) := by
  obtain ⟨h0, h1, h2, h3, h4, h5⟩ := h
  obtain ⟨g', e, hB, ha⟩ := h2 hl
  obtain rfl : g' = g := by rw [hg] at e; injection e with e; injection e with e; injection e with e; exact e.symm
  rw [hl0] at ha
  refine ⟨put8_below h0 hB, fun hh => ?_, fun _ => ⟨g', hg, hB, ?_⟩, fun a b => ?_, fun hh => ?_, fun _ => ?_⟩
  · obtain ⟨g2, e2, hB2, ha2⟩ := h1 (by simpa [come] using hh)
    refine ⟨g2, e2, hB2, ?_⟩
    have hne := h3 (by simpa [come] using hh) hl
    rw [hg, e2] at hne
    have := put8_far (b0 := b0) (b1 := b1) (b2 := b2) (b3 := b3) (b4 := b4) (b5 := b5) (b6 := b6) (b7 := b7) ha2 (g := g') (fun e => hne (by rw [e]))
    simpa [come] using this
  · simp only [come, Bool.or_true, if_true, beq_self_eq_true]
    exact put8_at ha
  · exact h3 (by simpa [come] using a) hl
  · simpa [come] using h4 (by simpa [come] using hh)
  · simp [come, hl]
end

set_option maxHeartbeats 8000000 in
set_option maxRecDepth 100000 in
theorem refers_any (A : Option Addr) (n c gu : Nat) (ps : List Cst) (t : Int) (x : Cst) (w : World) (h : RulesIn w A n gu ps) :
    Calls Tryz.prog 90 #[.agg #[.slice A n c, .slice (some ⟨gu, 0, none⟩) n n], .int .i64 t, .agg #[.int .i64 x.tag, .string (strOfNums x.text), .int .i64 x.num, .int .i64 x.a, .int .i64 x.b]] w
      fun e w' => e = .returned (.bool (refB t (usesE (atC ps x.a)) (usesE (atC ps x.b)))) ∧ Below w.heap.size w w' := by
  have HA : Hid (∀ i W, Below w.heap.size w W → Calls Tryz.prog 89 #[.agg #[.slice A n c, .slice (some ⟨gu, 0, none⟩) n n], .int .i64 i] W fun e w' => e = .returned (usesV (usesE (atC ps i))) ∧ Below W.heap.size W w') := hide fun i W hb => uat_any A n c gu ps i W (h.below hb)
  obtain ⟨xt, xx, xn, xa, xb⟩ := x
  have HA1 := hide (HA.out xa)
  have HA2 := hide (HA.out xb)
  have h8 := list8 _ (usesE_len (atC ps xa))
  have h9 := list8 _ (usesE_len (atC ps xb))
  simp only
  generalize usesE (atC ps xa) = us at *
  generalize usesE (atC ps xb) = vs at *
  obtain ⟨u0, u1, u2, u3, u4, u5, u6, u7, rfl⟩ : ∃ a b c d e f g i, us = [a, b, c, d, e, f, g, i] := ⟨_, _, _, _, _, _, _, _, h8⟩
  obtain ⟨v0, v1, v2, v3, v4, v5, v6, v7, rfl⟩ : ∃ a b c d e f g i, vs = [a, b, c, d, e, f, g, i] := ⟨_, _, _, _, _, _, _, _, h9⟩
  obtain ⟨D, hD⟩ : ∃ D, refB t [u0, u1, u2, u3, u4, u5, u6, u7] [v0, v1, v2, v3, v4, v5, v6, v7] = D := ⟨_, rfl⟩
  rw [hD]
  have HD : Hid (D = if t = 9 then v5 && !u3 else if u3 then v7 && t == 10 else v6 && u4) := hide hD.symm
  generalize strOfNums xx = q at *
  have HA1' : Hid (∀ W, Below w.heap.size w W → Calls Tryz.prog 89 #[.agg #[.slice A n c, .slice (some ⟨gu, 0, none⟩) n n], .int .i64 xa] W fun e w' => e = .returned (.agg #[.bool u0, .bool u1, .bool u2, .bool u3, .bool u4, .bool u5, .bool u6, .bool u7]) ∧ Below W.heap.size W w') := HA1
  have HA2' : Hid (∀ W, Below w.heap.size w W → Calls Tryz.prog 89 #[.agg #[.slice A n c, .slice (some ⟨gu, 0, none⟩) n n], .int .i64 xb] W fun e w' => e = .returned (.agg #[.bool v0, .bool v1, .bool v2, .bool v3, .bool v4, .bool v5, .bool v6, .bool v7]) ∧ Below W.heap.size W w') := HA2
  have hK : ∀ W, Below (w.heap.size + 2) ((w.alloc (.cells #[.slice A n c, .slice (some ⟨gu, 0, none⟩) n n] 115)).alloc (.cells #[.int .i64 xt, .string q, .int .i64 xn, .int .i64 xa, .int .i64 xb] 109)) W → 
      W.cell? ⟨w.heap.size, 0, none⟩ = some (.slice A n c) ∧ W.cell? ⟨w.heap.size, 1, none⟩ = some (.slice (some ⟨gu, 0, none⟩) n n) ∧ W.cell? ⟨w.heap.size + 1, 3, none⟩ = some (.int .i64 xa) ∧ W.cell? ⟨w.heap.size + 1, 4, none⟩ = some (.int .i64 xb) ∧ w.heap.size + 2 ≤ W.heap.size := fun W hb => by
    have a1 := ((At.new w 115 [.slice A n c, .slice (some ⟨gu, 0, none⟩) n n]).alloc (.cells #[.int .i64 xt, .string q, .int .i64 xn, .int .i64 xa, .int .i64 xb] 109)).below hb (by omega)
    have a2 := (At.new (w.alloc (.cells #[.slice A n c, .slice (some ⟨gu, 0, none⟩) n n] 115)) 109 [.int .i64 xt, .string q, .int .i64 xn, .int .i64 xa, .int .i64 xb]).below hb (by simp)
    rw [World.size_alloc] at a2
    refine ⟨a1.cell 0, a1.cell 1, a2.cell 3, a2.cell 4, by have := hb.size; simpa using this⟩
  have HK := hide hK
  have hb00 : Below (w.heap.size + 2) ((w.alloc (.cells #[.slice A n c, .slice (some ⟨gu, 0, none⟩) n n] 115)).alloc (.cells #[.int .i64 xt, .string q, .int .i64 xn, .int .i64 xa, .int .i64 xb] 109)) (((w.alloc (.cells #[.slice A n c, .slice (some ⟨gu, 0, none⟩) n n] 115)).alloc (.cells #[.int .i64 xt, .string q, .int .i64 xn, .int .i64 xa, .int .i64 xb] 109)).drew) := (Below.refl _ _).drew
  have hw0 : Below w.heap.size w ((w.alloc (.cells #[.slice A n c, .slice (some ⟨gu, 0, none⟩) n n] 115)).alloc (.cells #[.int .i64 xt, .string q, .int .i64 xn, .int .i64 xa, .int .i64 xb] 109)) := by repeat (first | with_reducible exact (Below.refl _ _) | with_reducible refine Below.drew ?_ | with_reducible refine below_drewN ?_ _ | ((with_reducible refine Below.setCell ?_ ?hp _); case hp => simp) | ((with_reducible refine Below.alloc ?_ ?hp _); case hp => first | omega | (simp; done) | (simp; omega)))
  have HW0 := hide hw0
  have HG1 : Hid (∀ W, Below (w.heap.size + 2) ((w.alloc (.cells #[.slice A n c, .slice (some ⟨gu, 0, none⟩) n n] 115)).alloc (.cells #[.int .i64 xt, .string q, .int .i64 xn, .int .i64 xa, .int .i64 xb] 109)) W → Calls Tryz.prog 89 #[.agg #[.slice A n c, .slice (some ⟨gu, 0, none⟩) n n], .int .i64 xa] W fun e w' => e = .returned (.agg #[.bool u0, .bool u1, .bool u2, .bool u3, .bool u4, .bool u5, .bool u6, .bool u7]) ∧ Below (w.heap.size + 2) ((w.alloc (.cells #[.slice A n c, .slice (some ⟨gu, 0, none⟩) n n] 115)).alloc (.cells #[.int .i64 xt, .string q, .int .i64 xn, .int .i64 xa, .int .i64 xb] 109)) w' ∧ Below W.heap.size W w') := hide fun W hb => (HA1'.out W (hw0.trans (hb.mono (by omega)))).mono fun e w' hh => ⟨hh.1, hb.trans (hh.2.mono (by have := hb.size; simp at this; omega)), hh.2⟩
  have HG2 : Hid (∀ W, Below (w.heap.size + 2) ((w.alloc (.cells #[.slice A n c, .slice (some ⟨gu, 0, none⟩) n n] 115)).alloc (.cells #[.int .i64 xt, .string q, .int .i64 xn, .int .i64 xa, .int .i64 xb] 109)) W → Calls Tryz.prog 89 #[.agg #[.slice A n c, .slice (some ⟨gu, 0, none⟩) n n], .int .i64 xb] W fun e w' => e = .returned (.agg #[.bool v0, .bool v1, .bool v2, .bool v3, .bool v4, .bool v5, .bool v6, .bool v7]) ∧ Below (w.heap.size + 2) ((w.alloc (.cells #[.slice A n c, .slice (some ⟨gu, 0, none⟩) n n] 115)).alloc (.cells #[.int .i64 xt, .string q, .int .i64 xn, .int .i64 xa, .int .i64 xb] 109)) w' ∧ Below W.heap.size W w') := hide fun W hb => (HA2'.out W (hw0.trans (hb.mono (by omega)))).mono fun e w' hh => ⟨hh.1, hb.trans (hh.2.mono (by have := hb.size; simp at this; omega)), hh.2⟩
  have hz0 : ((w.alloc (.cells #[.slice A n c, .slice (some ⟨gu, 0, none⟩) n n] 115)).alloc (.cells #[.int .i64 xt, .string q, .int .i64 xn, .int .i64 xa, .int .i64 xb] 109)).heap.size = w.heap.size + 2 := by simp
  have hk0 := HK.out _ (Below.refl _ _)
  clear hD h h8 h9 HA HA1 HA2 hK hw0 HA1' HA2'
  go_enter Tryz.func90, Tryz.ntmps90
  go_wp2_with fail
  generalize ((w.alloc (.cells #[.slice A n c, .slice (some ⟨gu, 0, none⟩) n n] 115)).alloc (.cells #[.int .i64 xt, .string q, .int .i64 xn, .int .i64 xa, .int .i64 xb] 109)) = w0 at *
  obtain ⟨k0, k1, k2, k3, k4⟩ := hk0
  have hbr : Below (w.heap.size + 2) w0 w0 := Below.refl _ _
  have hI0 : RWd (w.heap.size + 2) w0 [u0, u1, u2, u3, u4, u5, u6, u7] [v0, v1, v2, v3, v4, v5, v6, v7] (fun _ => false) (fun _ => undef) w0.drew := ⟨hb00, fun h => (by cases h), fun h => (by cases h), fun h => (by cases h), fun h => (by cases h), fun h => (by cases h)⟩
  refine wp_region_inv [none, none, none, none, none, none, none, some 8, some 9, some 0, some 1, some 2, some 3, some 4, some 5, some 6, some 7]
    (Held2 [(0, .agg #[.slice A n c, .slice (some ⟨gu, 0, none⟩) n n]), (1, .pointer (some ⟨w.heap.size + 1, 3, none⟩)), (2, .int .i64 xa), (3, .agg #[.bool u0, .bool u1, .bool u2, .bool u3, .bool u4, .bool u5, .bool u6, .bool u7]),
      (4, .agg #[.slice A n c, .slice (some ⟨gu, 0, none⟩) n n]), (5, .pointer (some ⟨w.heap.size + 1, 4, none⟩)), (6, .int .i64 xb), (7, .agg #[.bool v0, .bool v1, .bool v2, .bool v3, .bool v4, .bool v5, .bool v6, .bool v7])]
      (RWd (w.heap.size + 2) w0 [u0, u1, u2, u3, u4, u5, u6, u7] [v0, v1, v2, v3, v4, v5, v6, v7])) (by kernel_rfl) (by kernel_rfl) (by kernel_rfl) (by kernel_rfl) ⟨Tab.start _, hI0⟩ ?_ ?_
  · refine ⟨?_, ?_, ?_, ?_, ?_, ?_, ?_, ?_, ?_, ?_, ?_, ?_, trivial⟩
    · refine stepI_value (.agg #[.slice A n c, .slice (some ⟨gu, 0, none⟩) n n]) (by simp) (rwd_other (by decide) _) ?_
      intro l val W hT hW hd
      obtain ⟨k0, k1, k2, k3, k4⟩ := HK.out W hW.1
      simp only [Tab, List.forall_mem_cons] at hT
      refine ⟨rfl, ?_⟩
      simp only [actI, fillL, if_true]
      (try simp only [hd, true_implies] at hT)
      (try simp only [hT])
      go_simp
    · refine stepI_value (.pointer (some ⟨w.heap.size + 1, 3, none⟩)) (by simp) (rwd_other (by decide) _) ?_
      intro l val W hT hW hd
      obtain ⟨k0, k1, k2, k3, k4⟩ := HK.out W hW.1
      simp only [Tab, List.forall_mem_cons] at hT
      refine ⟨rfl, ?_⟩
      simp only [actI, fillL, if_true]
      (try simp only [hd, true_implies] at hT)
      (try simp only [hT])
      go_simp
    · refine stepI_value (.int .i64 xa) (by simp) (rwd_other (by decide) _) ?_
      intro l val W hT hW hd
      obtain ⟨k0, k1, k2, k3, k4⟩ := HK.out W hW.1
      change ∀ k ∈ [1], l k = true at hd
      simp only [List.forall_mem_cons] at hd
      simp only [Tab, List.forall_mem_cons] at hT
      refine ⟨rfl, ?_⟩
      simp only [actI, fillL, if_true]
      (try simp only [hd, true_implies] at hT)
      (try simp only [hT])
      go_simp
    · refine stepI_call (.agg #[.bool u0, .bool u1, .bool u2, .bool u3, .bool u4, .bool u5, .bool u6, .bool u7]) (by simp) (rwd_other (by decide) _) 89 #[.agg #[.slice A n c, .slice (some ⟨gu, 0, none⟩) n n], .int .i64 xa] ?_ (fun l val W hW => (HG1.out W hW.1).mono fun e w' hh => ⟨hh.1, rwd_below hW (by omega) hh.2.2⟩)
      intro l val W hT hW hd
      obtain ⟨k0, k1, k2, k3, k4⟩ := HK.out W hW.1
      change ∀ k ∈ [0, 2], l k = true at hd
      simp only [List.forall_mem_cons] at hd
      simp only [Tab, List.forall_mem_cons] at hT
      refine ⟨rfl, ?_⟩
      simp only [actI, fillL, if_true]
      (try simp only [hd, true_implies] at hT)
      (try simp only [hT])
      go_simp
    · refine stepI_value (.agg #[.slice A n c, .slice (some ⟨gu, 0, none⟩) n n]) (by simp) (rwd_other (by decide) _) ?_
      intro l val W hT hW hd
      obtain ⟨k0, k1, k2, k3, k4⟩ := HK.out W hW.1
      simp only [Tab, List.forall_mem_cons] at hT
      refine ⟨rfl, ?_⟩
      simp only [actI, fillL, if_true]
      (try simp only [hd, true_implies] at hT)
      (try simp only [hT])
      go_simp
    · refine stepI_value (.pointer (some ⟨w.heap.size + 1, 4, none⟩)) (by simp) (rwd_other (by decide) _) ?_
      intro l val W hT hW hd
      obtain ⟨k0, k1, k2, k3, k4⟩ := HK.out W hW.1
      simp only [Tab, List.forall_mem_cons] at hT
      refine ⟨rfl, ?_⟩
      simp only [actI, fillL, if_true]
      (try simp only [hd, true_implies] at hT)
      (try simp only [hT])
      go_simp
    · refine stepI_value (.int .i64 xb) (by simp) (rwd_other (by decide) _) ?_
      intro l val W hT hW hd
      obtain ⟨k0, k1, k2, k3, k4⟩ := HK.out W hW.1
      change ∀ k ∈ [5], l k = true at hd
      simp only [List.forall_mem_cons] at hd
      simp only [Tab, List.forall_mem_cons] at hT
      refine ⟨rfl, ?_⟩
      simp only [actI, fillL, if_true]
      (try simp only [hd, true_implies] at hT)
      (try simp only [hT])
      go_simp
    · refine stepI_call (.agg #[.bool v0, .bool v1, .bool v2, .bool v3, .bool v4, .bool v5, .bool v6, .bool v7]) (by simp) (rwd_other (by decide) _) 89 #[.agg #[.slice A n c, .slice (some ⟨gu, 0, none⟩) n n], .int .i64 xb] ?_ (fun l val W hW => (HG2.out W hW.1).mono fun e w' hh => ⟨hh.1, rwd_below hW (by omega) hh.2.2⟩)
      intro l val W hT hW hd
      obtain ⟨k0, k1, k2, k3, k4⟩ := HK.out W hW.1
      change ∀ k ∈ [4, 6, 3], l k = true at hd
      simp only [List.forall_mem_cons] at hd
      simp only [Tab, List.forall_mem_cons] at hT
      refine ⟨rfl, ?_⟩
      simp only [actI, fillL, if_true]
      (try simp only [hd, true_implies] at hT)
      (try simp only [hT])
      go_simp
    · refine stepI_turn (by simp) ?_
      intro l val W hT hW hd hl
      refine ⟨rfl, .inl ⟨.pointer (some ⟨W.heap.size, 0, none⟩), W.alloc (.cells bF.toArray 117), ?_, rwd_new8 hW (by omega) hl⟩⟩
      simp only [actI, fillL, if_true]
      go_simp
    · refine stepI_turn (by simp) ?_
      intro l val W hT hW hd hl
      refine ⟨rfl, .inl ⟨.pointer (some ⟨W.heap.size, 0, none⟩), W.alloc (.cells bF.toArray 117), ?_, rwd_new9 hW (by omega) hl⟩⟩
      simp only [actI, fillL, if_true]
      go_simp
    · refine stepI_turn (by simp) ?_
      intro l val W hT hW hd hl
      have l8 : l 8 = true := hd 8 (by decide)
      have l3 : l 3 = true := hd 3 (by decide)
      obtain ⟨g, hg, _, ha⟩ := hW.2.1 l8
      rw [hl] at ha
      refine ⟨rfl, .inr ⟨put8 g u0 u1 u2 u3 u4 u5 u6 u7 W, ?_, rwd_put8 hW l8 hl hg⟩⟩
      have hv := hT (3, .agg #[.bool u0, .bool u1, .bool u2, .bool u3, .bool u4, .bool u5, .bool u6, .bool u7]) (by simp) l3
      simp only at hv
      have f0 := ha.free 0
      have f1 := ha.free 1
      have f2 := ha.free 2
      have f3 := ha.free 3
      have f4 := ha.free 4
      have f5 := ha.free 5
      have f6 := ha.free 6
      have f7 := ha.free 7
      obtain ⟨q0, q1, q2, q3, q4, q5, q6, q7⟩ := c8_of ha
      simp only [actI, fillL, if_true]
      rw [hg, hv]
      go_simp
      rfl
    · refine stepI_turn (by simp) ?_
      intro l val W hT hW hd hl
      have l8 : l 9 = true := hd 9 (by decide)
      have l3 : l 7 = true := hd 7 (by decide)
      obtain ⟨g, hg, _, ha⟩ := hW.2.2.1 l8
      rw [hl] at ha
      refine ⟨rfl, .inr ⟨put8 g v0 v1 v2 v3 v4 v5 v6 v7 W, ?_, rwd_put9 hW l8 hl hg⟩⟩
      have hv := hT (7, .agg #[.bool v0, .bool v1, .bool v2, .bool v3, .bool v4, .bool v5, .bool v6, .bool v7]) (by simp) l3
      simp only at hv
      have f0 := ha.free 0
      have f1 := ha.free 1
      have f2 := ha.free 2
      have f3 := ha.free 3
      have f4 := ha.free 4
      have f5 := ha.free 5
      have f6 := ha.free 6
      have f7 := ha.free 7
      obtain ⟨q0, q1, q2, q3, q4, q5, q6, q7⟩ := c8_of ha
      simp only [actI, fillL, if_true]
      rw [hg, hv]
      go_simp
      rfl
  · intro l val W hS hall
    obtain ⟨_, h0, h1, h2, _⟩ := hS
    obtain ⟨g8, e8, _, a8⟩ := h1 (hall 8 (by decide))
    obtain ⟨g9, e9, _, a9⟩ := h2 (hall 9 (by decide))
    rw [hall 10 (by decide)] at a8
    rw [hall 11 (by decide)] at a9
    have hBW : Below w.heap.size w W := HW0.out.trans (h0.mono (by omega))
    have HB := hide hBW
    obtain ⟨q0, q1, q2, q3, q4, q5, q6, q7⟩ := c8_of a8
    obtain ⟨r0, r1, r2, r3, r4, r5, r6, r7⟩ := c8_of a9
    clear h0 h1 h2 hall a8 a9 hBW
    simp only [actI, fillL, if_true]
    rw [e8, e9]
    by_cases t9 : t = 9
    · have hd1 : (t == 9) = true := by simpa using t9
      have HD2 : Hid (D = (v5 && !u3)) := hide (by rw [HD.out, if_pos t9])
      clear HD
      cases v5 <;> cases u3
      all_goals
        go_wp2_with fail
        go_ret
        exact ⟨by rw [HD2.out]; rfl, HB.out⟩
    · have hd1 : (t == 9) = false := by simpa using t9
      cases u3
      · have HD2 : Hid (D = (v6 && u4)) := hide (by rw [HD.out, if_neg t9]; rfl)
        clear HD
        cases v6 <;> cases u4
        all_goals
          go_wp2_with fail
          go_ret
          exact ⟨by rw [HD2.out]; rfl, HB.out⟩
      · have HD2 : Hid (D = (v7 && t == 10)) := hide (by rw [HD.out, if_neg t9]; rfl)
        clear HD
        cases v7
        all_goals
          go_wp2_with fail
          go_ret
          exact ⟨by rw [HD2.out]; rfl, HB.out⟩
end Go.Proofs.YtbdbcalmjbmflaaGreatDoor
namespace Go.Proofs.YtbdbcalmjbmflaaGreatDoor
open Go.RowKit

theorem bool_plain : Tryz.prog.plainKey 4 = true := by kernel_rfl
theorem uses_fields : (Tryz.prog.underlying 117).bind (fun d => match d with | .struct fs => some (fs.toList.map fun f => (f.type, f.offset)) | _ => none) = some [(4, 0), (4, 1), (4, 2), (4, 3), (4, 4), (4, 5), (4, 6), (4, 7)] := by kernel_rfl
set_option maxRecDepth 100000 in
theorem field_of (xs : Array Value) (k : Nat) (hk : k < 8) (v : Value) (hv : xs[k]? = some v) (w : World) : (Instr.field 117 (.agg xs) k).run Tryz.prog w = .ok v w := by
  have h := uses_fields
  unfold Instr.field
  cases hu : Tryz.prog.underlying 117 with
  | none => rw [hu] at h; cases h
  | some d =>
    rw [hu] at h
    simp only [Option.bind_some] at h
    cases d with
    | struct fs =>
      simp only [Option.some.injEq] at h
      have hk2 : (fs.toList.map fun f => (f.type, f.offset))[k]? = some (4, k) := by
        rw [h]
        rcases (by omega : k = 0 ∨ k = 1 ∨ k = 2 ∨ k = 3 ∨ k = 4 ∨ k = 5 ∨ k = 6 ∨ k = 7) with rfl | rfl | rfl | rfl | rfl | rfl | rfl | rfl <;> rfl
      rw [List.getElem?_map] at hk2
      obtain ⟨f, hf, he⟩ := Option.map_eq_some_iff.1 hk2
      injection he with e1 e2
      have hf' : fs[k]? = some f := by simpa using hf
      simp only [Sem.run_bind, run_underlying hu, Result.andThen_ok, hf']
      rw [e1, e2]
      have := run_part_plain w bool_plain hv
      simp [asAgg, this]
    | _ => cases h

/-- Is an entry as it must be, by the tags of those that it names, and by what texts may stand for? -/
def holdI (ps : List Cst) (i : Int) : Bool :=
  let e := atC ps i
  if e.tag = 1 then (usesE e).getD 0 false
  else if e.tag = 8 then (atC ps e.a).tag == 1
  else if e.tag = 7 then (usesE (atC ps e.a)).getD 1 false
  else if e.tag = 12 then (usesE (atC ps e.a)).getD 2 false && ((usesE (atC ps e.b)).getD 5 false || (usesE (atC ps e.b)).getD 6 false)
  else if e.tag = 9 ∨ e.tag = 10 ∨ e.tag = 11 then (atC ps e.a).tag == 7 && (atC ps e.b).tag == 12 && refB e.tag (usesE (atC ps (atC ps e.b).a)) (usesE (atC ps (atC ps e.b).b))
  else true

set_option maxHeartbeats 8000000 in
set_option maxRecDepth 100000 in
theorem hold_any (A : Option Addr) (n c gu : Nat) (ps : List Cst) (j : Nat) (hj : j < n) (w : World) (h : RulesIn w A n gu ps) :
    Calls Tryz.prog 71 #[.agg #[.slice A n c, .slice (some ⟨gu, 0, none⟩) n n], .int .i64 j] w fun e w' => e = .returned (.bool (holdI ps j)) ∧ Below w.heap.size w w' := by
  have hji : (j : Int) < (n : Int) := by omega
  obtain ⟨D, hD⟩ : ∃ D, holdI ps j = D := ⟨_, rfl⟩
  rw [hD]
  unfold holdI at hD
  rw [atC_in h.1.1 hj] at hD
  simp only at hD
  have hu : ∀ k, k < 8 → w.cell? ⟨gu, j * 8 + k, none⟩ = some (.bool ((usesE (ps.getD j noC)).getD k false)) := fun k hk => by
    rw [h.2.cell, ucells_at _ _ _ (fun u hu => by
      simp only [usesOf, List.mem_map] at hu
      obtain ⟨x, _, rfl⟩ := hu
      exact usesE_len x) (by simp [usesOf]; have := h.1.1; omega) hk, usesOf_at _ (by have := h.1.1; omega)]
  have HA : Hid (∀ x W, Below w.heap.size w W → Calls Tryz.prog 89 #[.agg #[.slice A n c, .slice (some ⟨gu, 0, none⟩) n n], .int .i64 x] W fun e w' => e = .returned (usesV (usesE (atC ps x))) ∧ Below W.heap.size W w') := hide fun x W hb => uat_any A n c gu ps x W (h.below hb)
  have HH : Hid (∀ x t W, t ≠ 0 → Below w.heap.size w W → Calls Tryz.prog 88 #[.agg #[.slice A n c, .slice (some ⟨gu, 0, none⟩) n n], .int .i64 x, .int .i64 t] W fun e w' => e = .returned (.bool ((atC ps x).tag == t)) ∧ Below W.heap.size W w') := hide fun x t W ht hb => has_any A n c gu ps x t W (h.below hb).1 ht
  have HF : Hid (∀ (t : Int) (y : Cst) (W : World), Below w.heap.size w W → Calls Tryz.prog 90 #[.agg #[.slice A n c, .slice (some ⟨gu, 0, none⟩) n n], .int .i64 t, .agg #[.int .i64 y.tag, .string (strOfNums y.text), .int .i64 y.num, .int .i64 y.a, .int .i64 y.b]] W fun e w' => e = .returned (.bool (refB t (usesE (atC ps y.a)) (usesE (atC ps y.b)))) ∧ Below W.heap.size W w') := hide fun t y W hb => refers_any A n c gu ps t y W (h.below hb)
  obtain ⟨g, o, rfl, hg, c0, c1, c2, c3, c4⟩ := h.1.cells5 hj
  have hu0 := hu 0 (by decide)
  rw [Nat.add_zero] at hu0
  have HR := hide h
  generalize hx : ps.getD j noC = x at *
  obtain ⟨xt, xx, xn, xa, xb⟩ := x
  simp only at hD c0 c1 c2 c3 c4
  generalize hq : strOfNums xx = q at *
  clear hu
  have hguw : gu < w.heap.size := HR.out.2.lt
  by_cases t1 : xt = 1
  · subst t1
    rw [if_pos rfl] at hD
    have HD := hide hD
    generalize (usesE ⟨1, xx, xn, xa, xb⟩).getD 0 false = u0 at *
    have hu1 : (((w.alloc (.cells #[.slice (some ⟨g, o, none⟩) n c, .slice (some ⟨gu, 0, none⟩) n n] 115)).alloc (.cells #[.int .i64 1, .string q, .int .i64 xn, .int .i64 xa, .int .i64 xb] 109))).cell? ⟨gu, j * 8, none⟩ = some (.bool u0) := (Below.cell (show Below w.heap.size w _ by repeat (first | with_reducible exact (Below.refl _ _) | with_reducible refine Below.drew ?_ | with_reducible refine below_drewN ?_ _ | ((with_reducible refine Below.setCell ?_ ?hp _); case hp => simp) | ((with_reducible refine Below.alloc ?_ ?hp _); case hp => first | omega | (simp; done) | (simp; omega)))) (p := ⟨gu, j * 8, none⟩) hguw).trans hu0
    clear hD HA HH HF HR h hu0
    go_enter Tryz.func71, Tryz.ntmps71
    go_wp2_with fail
    go_ret
    exact ⟨by rw [HD.out]; rfl, by repeat (first | with_reducible exact (Below.refl _ _) | with_reducible refine Below.drew ?_ | with_reducible refine below_drewN ?_ _ | ((with_reducible refine Below.setCell ?_ ?hp _); case hp => simp) | ((with_reducible refine Below.alloc ?_ ?hp _); case hp => first | omega | (simp; done) | (simp; omega)))⟩
  · rw [if_neg t1] at hD
    have b1 : (xt == 1) = false := by simpa using t1
    clear hu0
    by_cases t8 : xt = 8
    · subst t8
      rw [if_pos rfl] at hD
      have HH1 := hide (HH.out xa 1)
      generalize ((atC ps xa).tag == 1) = u0 at *
      have HD := hide hD
      clear hD HA HH HF HR h
      go_enter Tryz.func71, Tryz.ntmps71
      go_wp2_with fail
      refine (HH1.out _ (by decide) ?_).mono ?_
      · repeat (first | with_reducible exact (Below.refl _ _) | with_reducible refine Below.drew ?_ | with_reducible refine below_drewN ?_ _ | ((with_reducible refine Below.setCell ?_ ?hp _); case hp => simp) | ((with_reducible refine Below.alloc ?_ ?hp _); case hp => first | omega | (simp; done) | (simp; omega)))
      rintro e w1 ⟨rfl, hb⟩
      have Hb : Hid (Below w.heap.size w w1) := hide ((show Below w.heap.size w _ by repeat (first | with_reducible exact (Below.refl _ _) | with_reducible refine Below.drew ?_ | with_reducible refine below_drewN ?_ _ | ((with_reducible refine Below.setCell ?_ ?hp _); case hp => simp) | ((with_reducible refine Below.alloc ?_ ?hp _); case hp => first | omega | (simp; done) | (simp; omega)))).trans (hb.mono (by (first | omega | (simp only [World.size_alloc]; omega) | (simp; done) | (simp; omega)))))
      clear hb
      go_wp2_with fail
      go_ret
      exact ⟨by rw [HD.out]; rfl, Hb.out⟩
    · rw [if_neg t8] at hD
      have b8 : (xt == 8) = false := by simpa using t8
      by_cases t7 : xt = 7
      · subst t7
        rw [if_pos rfl] at hD
        have HA1 := hide (HA.out xa)
        have h8 := list8 _ (usesE_len (atC ps xa))
        generalize usesE (atC ps xa) = us at *
        obtain ⟨u0, u1, u2, u3, u4, u5, u6, u7, rfl⟩ : ∃ a b c d e f g i, us = [a, b, c, d, e, f, g, i] := ⟨_, _, _, _, _, _, _, _, h8⟩
        have HA2 : Hid (∀ W, Below w.heap.size w W → Calls Tryz.prog 89 #[.agg #[.slice (some ⟨g, o, none⟩) n c, .slice (some ⟨gu, 0, none⟩) n n], .int .i64 xa] W fun e w' => e = .returned (.agg #[.bool u0, .bool u1, .bool u2, .bool u3, .bool u4, .bool u5, .bool u6, .bool u7]) ∧ Below W.heap.size W w') := HA1
        have HD : Hid (u1 = D) := hide hD
        clear hD HA HH HF HR h HA1 h8
        go_enter Tryz.func71, Tryz.ntmps71
        go_wp2_with fail
        refine (HA2.out _ ?_).mono ?_
        · repeat (first | with_reducible exact (Below.refl _ _) | with_reducible refine Below.drew ?_ | with_reducible refine below_drewN ?_ _ | ((with_reducible refine Below.setCell ?_ ?hp _); case hp => simp) | ((with_reducible refine Below.alloc ?_ ?hp _); case hp => first | omega | (simp; done) | (simp; omega)))
        rintro e w1 ⟨rfl, hb⟩
        have Hb : Hid (Below w.heap.size w w1) := hide ((show Below w.heap.size w _ by repeat (first | with_reducible exact (Below.refl _ _) | with_reducible refine Below.drew ?_ | with_reducible refine below_drewN ?_ _ | ((with_reducible refine Below.setCell ?_ ?hp _); case hp => simp) | ((with_reducible refine Below.alloc ?_ ?hp _); case hp => first | omega | (simp; done) | (simp; omega)))).trans (hb.mono (by (first | omega | (simp only [World.size_alloc]; omega) | (simp; done) | (simp; omega)))))
        clear hb
        have hf := field_of #[.bool u0, .bool u1, .bool u2, .bool u3, .bool u4, .bool u5, .bool u6, .bool u7] 1 (by decide) (.bool u1) rfl w1
        go_wp2_with fail
        go_ret
        exact ⟨by rw [← HD.out]; rfl, Hb.out⟩
      · rw [if_neg t7] at hD
        have b7 : (xt == 7) = false := by simpa using t7
        by_cases t12 : xt = 12
        · subst t12
          rw [if_pos rfl] at hD
          have HA1 := hide (HA.out xa)
          have HB1 := hide (HA.out xb)
          have h8 := list8 _ (usesE_len (atC ps xa))
          have h9 := list8 _ (usesE_len (atC ps xb))
          generalize usesE (atC ps xa) = us at *
          generalize usesE (atC ps xb) = vs at *
          obtain ⟨u0, u1, u2, u3, u4, u5, u6, u7, rfl⟩ : ∃ a b c d e f g i, us = [a, b, c, d, e, f, g, i] := ⟨_, _, _, _, _, _, _, _, h8⟩
          obtain ⟨v0, v1, v2, v3, v4, v5, v6, v7, rfl⟩ : ∃ a b c d e f g i, vs = [a, b, c, d, e, f, g, i] := ⟨_, _, _, _, _, _, _, _, h9⟩
          have HA2 : Hid (∀ W, Below w.heap.size w W → Calls Tryz.prog 89 #[.agg #[.slice (some ⟨g, o, none⟩) n c, .slice (some ⟨gu, 0, none⟩) n n], .int .i64 xa] W fun e w' => e = .returned (.agg #[.bool u0, .bool u1, .bool u2, .bool u3, .bool u4, .bool u5, .bool u6, .bool u7]) ∧ Below W.heap.size W w') := HA1
          have HB2 : Hid (∀ W, Below w.heap.size w W → Calls Tryz.prog 89 #[.agg #[.slice (some ⟨g, o, none⟩) n c, .slice (some ⟨gu, 0, none⟩) n n], .int .i64 xb] W fun e w' => e = .returned (.agg #[.bool v0, .bool v1, .bool v2, .bool v3, .bool v4, .bool v5, .bool v6, .bool v7]) ∧ Below W.heap.size W w') := HB1
          have HD : Hid ((u2 && (v5 || v6)) = D) := hide hD
          have hK : ∀ W, Below (w.heap.size + 2) ((w.alloc (.cells #[.slice (some ⟨g, o, none⟩) n c, .slice (some ⟨gu, 0, none⟩) n n] 115)).alloc (.cells #[.int .i64 12, .string q, .int .i64 xn, .int .i64 xa, .int .i64 xb] 109)) W → 
              W.cell? ⟨w.heap.size, 0, none⟩ = some (.slice (some ⟨g, o, none⟩) n c) ∧ W.cell? ⟨w.heap.size, 1, none⟩ = some (.slice (some ⟨gu, 0, none⟩) n n) ∧ W.cell? ⟨w.heap.size + 1, 3, none⟩ = some (.int .i64 xa) ∧ w.heap.size + 2 ≤ W.heap.size := fun W hb => by
            have a1 := ((At.new w 115 [.slice (some ⟨g, o, none⟩) n c, .slice (some ⟨gu, 0, none⟩) n n]).alloc (.cells #[.int .i64 12, .string q, .int .i64 xn, .int .i64 xa, .int .i64 xb] 109)).below hb (by omega)
            have a2 := (At.new (w.alloc (.cells #[.slice (some ⟨g, o, none⟩) n c, .slice (some ⟨gu, 0, none⟩) n n] 115)) 109 [.int .i64 12, .string q, .int .i64 xn, .int .i64 xa, .int .i64 xb]).below hb (by simp)
            rw [World.size_alloc] at a2
            refine ⟨a1.cell 0, a1.cell 1, a2.cell 3, by have := hb.size; simpa using this⟩
          have HK := hide hK
          clear hD HA HH HF HR h HA1 HB1 h8 h9 hK
          cases u2 <;> cases v5
          · go_enter Tryz.func71, Tryz.ntmps71
            go_wp2_with fail
            refine (HB2.out _ ?_).mono ?_
            · repeat (first | with_reducible exact (Below.refl _ _) | with_reducible refine Below.drew ?_ | with_reducible refine below_drewN ?_ _ | ((with_reducible refine Below.setCell ?_ ?hp _); case hp => simp) | ((with_reducible refine Below.alloc ?_ ?hp _); case hp => first | omega | (simp; done) | (simp; omega)))
            rintro e w1 ⟨rfl, hb⟩
            have hs := hb.size
            rw [World.size_alloc, World.size_alloc] at hs
            have hb2 := hb.mono (show w.heap.size + 2 ≤ _ by (first | omega | (simp only [World.size_alloc]; omega) | (simp; done) | (simp; omega)))
            obtain ⟨k0, k1, k3, k4⟩ := HK.out _ (hb2.alloc (by omega) (.cells #[.bool v0, .bool v1, .bool v2, .bool v3, .bool v4, .bool false, .bool v6, .bool v7] 117))
            have Hb : Hid (Below w.heap.size w w1) := hide ((show Below w.heap.size w _ by repeat (first | with_reducible exact (Below.refl _ _) | with_reducible refine Below.drew ?_ | with_reducible refine below_drewN ?_ _ | ((with_reducible refine Below.setCell ?_ ?hp _); case hp => simp) | ((with_reducible refine Below.alloc ?_ ?hp _); case hp => first | omega | (simp; done) | (simp; omega)))).trans (hb.mono (by (first | omega | (simp only [World.size_alloc]; omega) | (simp; done) | (simp; omega)))))
            clear hb hb2
            have ha := At.new w1 117 [.bool v0, .bool v1, .bool v2, .bool v3, .bool v4, .bool false, .bool v6, .bool v7]
            go_wp2_with fail
            refine (HA2.out _ ?_).mono ?_
            · repeat (first | with_reducible exact Hb.out | with_reducible refine Below.drew ?_ | with_reducible refine below_drewN ?_ _ | ((with_reducible refine Below.setCell ?_ ?hp _); case hp => simp) | ((with_reducible refine Below.alloc ?_ ?hp _); case hp => first | omega | (simp; done) | (simp; omega)))
            rintro e w2 ⟨rfl, hb3⟩
            have hf := field_of #[.bool u0, .bool u1, .bool false, .bool u3, .bool u4, .bool u5, .bool u6, .bool u7] 2 (by decide) (.bool false) rfl w2
            obtain ⟨q0, q1, q2, q3, q4, q5, q6, q7⟩ := c8_of (ha.below hb3 (by (first | omega | (simp only [World.size_alloc]; omega) | (simp; done) | (simp; omega))))
            have Hb3 : Hid (Below w.heap.size w w2) := hide ((show Below w.heap.size w _ by repeat (first | with_reducible exact Hb.out | with_reducible refine Below.drew ?_ | with_reducible refine below_drewN ?_ _ | ((with_reducible refine Below.setCell ?_ ?hp _); case hp => simp) | ((with_reducible refine Below.alloc ?_ ?hp _); case hp => first | omega | (simp; done) | (simp; omega)))).trans (hb3.mono (by (first | omega | (simp only [World.size_alloc]; omega) | (simp; done) | (simp; omega)))))
            clear hb3 ha
            go_wp2_with fail
            go_ret
            exact ⟨by rw [← HD.out]; rfl, Hb3.out⟩
          · go_enter Tryz.func71, Tryz.ntmps71
            go_wp2_with fail
            refine (HB2.out _ ?_).mono ?_
            · repeat (first | with_reducible exact (Below.refl _ _) | with_reducible refine Below.drew ?_ | with_reducible refine below_drewN ?_ _ | ((with_reducible refine Below.setCell ?_ ?hp _); case hp => simp) | ((with_reducible refine Below.alloc ?_ ?hp _); case hp => first | omega | (simp; done) | (simp; omega)))
            rintro e w1 ⟨rfl, hb⟩
            have hs := hb.size
            rw [World.size_alloc, World.size_alloc] at hs
            have hb2 := hb.mono (show w.heap.size + 2 ≤ _ by (first | omega | (simp only [World.size_alloc]; omega) | (simp; done) | (simp; omega)))
            obtain ⟨k0, k1, k3, k4⟩ := HK.out _ (hb2.alloc (by omega) (.cells #[.bool v0, .bool v1, .bool v2, .bool v3, .bool v4, .bool true, .bool v6, .bool v7] 117))
            have Hb : Hid (Below w.heap.size w w1) := hide ((show Below w.heap.size w _ by repeat (first | with_reducible exact (Below.refl _ _) | with_reducible refine Below.drew ?_ | with_reducible refine below_drewN ?_ _ | ((with_reducible refine Below.setCell ?_ ?hp _); case hp => simp) | ((with_reducible refine Below.alloc ?_ ?hp _); case hp => first | omega | (simp; done) | (simp; omega)))).trans (hb.mono (by (first | omega | (simp only [World.size_alloc]; omega) | (simp; done) | (simp; omega)))))
            clear hb hb2
            have ha := At.new w1 117 [.bool v0, .bool v1, .bool v2, .bool v3, .bool v4, .bool true, .bool v6, .bool v7]
            go_wp2_with fail
            refine (HA2.out _ ?_).mono ?_
            · repeat (first | with_reducible exact Hb.out | with_reducible refine Below.drew ?_ | with_reducible refine below_drewN ?_ _ | ((with_reducible refine Below.setCell ?_ ?hp _); case hp => simp) | ((with_reducible refine Below.alloc ?_ ?hp _); case hp => first | omega | (simp; done) | (simp; omega)))
            rintro e w2 ⟨rfl, hb3⟩
            have hf := field_of #[.bool u0, .bool u1, .bool false, .bool u3, .bool u4, .bool u5, .bool u6, .bool u7] 2 (by decide) (.bool false) rfl w2
            obtain ⟨q0, q1, q2, q3, q4, q5, q6, q7⟩ := c8_of (ha.below hb3 (by (first | omega | (simp only [World.size_alloc]; omega) | (simp; done) | (simp; omega))))
            have Hb3 : Hid (Below w.heap.size w w2) := hide ((show Below w.heap.size w _ by repeat (first | with_reducible exact Hb.out | with_reducible refine Below.drew ?_ | with_reducible refine below_drewN ?_ _ | ((with_reducible refine Below.setCell ?_ ?hp _); case hp => simp) | ((with_reducible refine Below.alloc ?_ ?hp _); case hp => first | omega | (simp; done) | (simp; omega)))).trans (hb3.mono (by (first | omega | (simp only [World.size_alloc]; omega) | (simp; done) | (simp; omega)))))
            clear hb3 ha
            go_wp2_with fail
            go_ret
            exact ⟨by rw [← HD.out]; rfl, Hb3.out⟩
          · go_enter Tryz.func71, Tryz.ntmps71
            go_wp2_with fail
            refine (HB2.out _ ?_).mono ?_
            · repeat (first | with_reducible exact (Below.refl _ _) | with_reducible refine Below.drew ?_ | with_reducible refine below_drewN ?_ _ | ((with_reducible refine Below.setCell ?_ ?hp _); case hp => simp) | ((with_reducible refine Below.alloc ?_ ?hp _); case hp => first | omega | (simp; done) | (simp; omega)))
            rintro e w1 ⟨rfl, hb⟩
            have hs := hb.size
            rw [World.size_alloc, World.size_alloc] at hs
            have hb2 := hb.mono (show w.heap.size + 2 ≤ _ by (first | omega | (simp only [World.size_alloc]; omega) | (simp; done) | (simp; omega)))
            obtain ⟨k0, k1, k3, k4⟩ := HK.out _ (hb2.alloc (by omega) (.cells #[.bool v0, .bool v1, .bool v2, .bool v3, .bool v4, .bool false, .bool v6, .bool v7] 117))
            have Hb : Hid (Below w.heap.size w w1) := hide ((show Below w.heap.size w _ by repeat (first | with_reducible exact (Below.refl _ _) | with_reducible refine Below.drew ?_ | with_reducible refine below_drewN ?_ _ | ((with_reducible refine Below.setCell ?_ ?hp _); case hp => simp) | ((with_reducible refine Below.alloc ?_ ?hp _); case hp => first | omega | (simp; done) | (simp; omega)))).trans (hb.mono (by (first | omega | (simp only [World.size_alloc]; omega) | (simp; done) | (simp; omega)))))
            clear hb hb2
            have ha := At.new w1 117 [.bool v0, .bool v1, .bool v2, .bool v3, .bool v4, .bool false, .bool v6, .bool v7]
            go_wp2_with fail
            refine (HA2.out _ ?_).mono ?_
            · repeat (first | with_reducible exact Hb.out | with_reducible refine Below.drew ?_ | with_reducible refine below_drewN ?_ _ | ((with_reducible refine Below.setCell ?_ ?hp _); case hp => simp) | ((with_reducible refine Below.alloc ?_ ?hp _); case hp => first | omega | (simp; done) | (simp; omega)))
            rintro e w2 ⟨rfl, hb3⟩
            have hf := field_of #[.bool u0, .bool u1, .bool true, .bool u3, .bool u4, .bool u5, .bool u6, .bool u7] 2 (by decide) (.bool true) rfl w2
            obtain ⟨q0, q1, q2, q3, q4, q5, q6, q7⟩ := c8_of (ha.below hb3 (by (first | omega | (simp only [World.size_alloc]; omega) | (simp; done) | (simp; omega))))
            have Hb3 : Hid (Below w.heap.size w w2) := hide ((show Below w.heap.size w _ by repeat (first | with_reducible exact Hb.out | with_reducible refine Below.drew ?_ | with_reducible refine below_drewN ?_ _ | ((with_reducible refine Below.setCell ?_ ?hp _); case hp => simp) | ((with_reducible refine Below.alloc ?_ ?hp _); case hp => first | omega | (simp; done) | (simp; omega)))).trans (hb3.mono (by (first | omega | (simp only [World.size_alloc]; omega) | (simp; done) | (simp; omega)))))
            clear hb3 ha
            go_wp2_with fail
            go_ret
            exact ⟨by rw [← HD.out]; rfl, Hb3.out⟩
          · go_enter Tryz.func71, Tryz.ntmps71
            go_wp2_with fail
            refine (HB2.out _ ?_).mono ?_
            · repeat (first | with_reducible exact (Below.refl _ _) | with_reducible refine Below.drew ?_ | with_reducible refine below_drewN ?_ _ | ((with_reducible refine Below.setCell ?_ ?hp _); case hp => simp) | ((with_reducible refine Below.alloc ?_ ?hp _); case hp => first | omega | (simp; done) | (simp; omega)))
            rintro e w1 ⟨rfl, hb⟩
            have hs := hb.size
            rw [World.size_alloc, World.size_alloc] at hs
            have hb2 := hb.mono (show w.heap.size + 2 ≤ _ by (first | omega | (simp only [World.size_alloc]; omega) | (simp; done) | (simp; omega)))
            obtain ⟨k0, k1, k3, k4⟩ := HK.out _ (hb2.alloc (by omega) (.cells #[.bool v0, .bool v1, .bool v2, .bool v3, .bool v4, .bool true, .bool v6, .bool v7] 117))
            have Hb : Hid (Below w.heap.size w w1) := hide ((show Below w.heap.size w _ by repeat (first | with_reducible exact (Below.refl _ _) | with_reducible refine Below.drew ?_ | with_reducible refine below_drewN ?_ _ | ((with_reducible refine Below.setCell ?_ ?hp _); case hp => simp) | ((with_reducible refine Below.alloc ?_ ?hp _); case hp => first | omega | (simp; done) | (simp; omega)))).trans (hb.mono (by (first | omega | (simp only [World.size_alloc]; omega) | (simp; done) | (simp; omega)))))
            clear hb hb2
            have ha := At.new w1 117 [.bool v0, .bool v1, .bool v2, .bool v3, .bool v4, .bool true, .bool v6, .bool v7]
            go_wp2_with fail
            refine (HA2.out _ ?_).mono ?_
            · repeat (first | with_reducible exact Hb.out | with_reducible refine Below.drew ?_ | with_reducible refine below_drewN ?_ _ | ((with_reducible refine Below.setCell ?_ ?hp _); case hp => simp) | ((with_reducible refine Below.alloc ?_ ?hp _); case hp => first | omega | (simp; done) | (simp; omega)))
            rintro e w2 ⟨rfl, hb3⟩
            have hf := field_of #[.bool u0, .bool u1, .bool true, .bool u3, .bool u4, .bool u5, .bool u6, .bool u7] 2 (by decide) (.bool true) rfl w2
            obtain ⟨q0, q1, q2, q3, q4, q5, q6, q7⟩ := c8_of (ha.below hb3 (by (first | omega | (simp only [World.size_alloc]; omega) | (simp; done) | (simp; omega))))
            have Hb3 : Hid (Below w.heap.size w w2) := hide ((show Below w.heap.size w _ by repeat (first | with_reducible exact Hb.out | with_reducible refine Below.drew ?_ | with_reducible refine below_drewN ?_ _ | ((with_reducible refine Below.setCell ?_ ?hp _); case hp => simp) | ((with_reducible refine Below.alloc ?_ ?hp _); case hp => first | omega | (simp; done) | (simp; omega)))).trans (hb3.mono (by (first | omega | (simp only [World.size_alloc]; omega) | (simp; done) | (simp; omega)))))
            clear hb3 ha
            go_wp2_with fail
            go_ret
            exact ⟨by rw [← HD.out]; rfl, Hb3.out⟩
        · rw [if_neg t12] at hD
          have b12 : (xt == 12) = false := by simpa using t12
          by_cases t9 : xt = 9 ∨ xt = 10 ∨ xt = 11
          · rw [if_pos t9] at hD
            have hK : ∀ W, Below (w.heap.size + 2) ((w.alloc (.cells #[.slice (some ⟨g, o, none⟩) n c, .slice (some ⟨gu, 0, none⟩) n n] 115)).alloc (.cells #[.int .i64 xt, .string q, .int .i64 xn, .int .i64 xa, .int .i64 xb] 109)) W → 
                W.cell? ⟨w.heap.size, 0, none⟩ = some (.slice (some ⟨g, o, none⟩) n c) ∧ W.cell? ⟨w.heap.size, 1, none⟩ = some (.slice (some ⟨gu, 0, none⟩) n n) ∧ W.cell? ⟨w.heap.size + 1, 0, none⟩ = some (.int .i64 xt) ∧ W.cell? ⟨w.heap.size + 1, 3, none⟩ = some (.int .i64 xa) ∧ W.cell? ⟨w.heap.size + 1, 4, none⟩ = some (.int .i64 xb) ∧ w.heap.size + 2 ≤ W.heap.size := fun W hb => by
              have a1 := ((At.new w 115 [.slice (some ⟨g, o, none⟩) n c, .slice (some ⟨gu, 0, none⟩) n n]).alloc (.cells #[.int .i64 xt, .string q, .int .i64 xn, .int .i64 xa, .int .i64 xb] 109)).below hb (by omega)
              have a2 := (At.new (w.alloc (.cells #[.slice (some ⟨g, o, none⟩) n c, .slice (some ⟨gu, 0, none⟩) n n] 115)) 109 [.int .i64 xt, .string q, .int .i64 xn, .int .i64 xa, .int .i64 xb]).below hb (by simp)
              rw [World.size_alloc] at a2
              refine ⟨a1.cell 0, a1.cell 1, a2.cell 0, a2.cell 3, a2.cell 4, by have := hb.size; simpa using this⟩
            have hb00 : Below w.heap.size w ((w.alloc (.cells #[.slice (some ⟨g, o, none⟩) n c, .slice (some ⟨gu, 0, none⟩) n n] 115)).alloc (.cells #[.int .i64 xt, .string q, .int .i64 xn, .int .i64 xa, .int .i64 xb] 109)) := by repeat (first | with_reducible exact (Below.refl _ _) | with_reducible refine Below.drew ?_ | with_reducible refine below_drewN ?_ _ | ((with_reducible refine Below.setCell ?_ ?hp _); case hp => simp) | ((with_reducible refine Below.alloc ?_ ?hp _); case hp => first | omega | (simp; done) | (simp; omega)))
            have hb01 : Below (w.heap.size + 2) ((w.alloc (.cells #[.slice (some ⟨g, o, none⟩) n c, .slice (some ⟨gu, 0, none⟩) n n] 115)).alloc (.cells #[.int .i64 xt, .string q, .int .i64 xn, .int .i64 xa, .int .i64 xb] 109)) (((w.alloc (.cells #[.slice (some ⟨g, o, none⟩) n c, .slice (some ⟨gu, 0, none⟩) n n] 115)).alloc (.cells #[.int .i64 xt, .string q, .int .i64 xn, .int .i64 xa, .int .i64 xb] 109)).drew) := (Below.refl _ _).drew
            have hz0 : ((w.alloc (.cells #[.slice (some ⟨g, o, none⟩) n c, .slice (some ⟨gu, 0, none⟩) n n] 115)).alloc (.cells #[.int .i64 xt, .string q, .int .i64 xn, .int .i64 xa, .int .i64 xb] 109)).heap.size = w.heap.size + 2 := by simp
            have HH7 : Hid (∀ W, Below (w.heap.size + 2) ((w.alloc (.cells #[.slice (some ⟨g, o, none⟩) n c, .slice (some ⟨gu, 0, none⟩) n n] 115)).alloc (.cells #[.int .i64 xt, .string q, .int .i64 xn, .int .i64 xa, .int .i64 xb] 109)) W → Calls Tryz.prog 88 #[.agg #[.slice (some ⟨g, o, none⟩) n c, .slice (some ⟨gu, 0, none⟩) n n], .int .i64 xa, .int .i64 7] W fun e w' => e = .returned (.bool ((atC ps xa).tag == 7)) ∧ Below (w.heap.size + 2) ((w.alloc (.cells #[.slice (some ⟨g, o, none⟩) n c, .slice (some ⟨gu, 0, none⟩) n n] 115)).alloc (.cells #[.int .i64 xt, .string q, .int .i64 xn, .int .i64 xa, .int .i64 xb] 109)) w') := hide fun W hb => (HH.out xa 7 W (by decide) (hb00.trans (hb.mono (by omega)))).mono fun e w' hh => ⟨hh.1, hb.trans (hh.2.mono (by have := hb.size; omega))⟩
            have HH12 : Hid (∀ W, Below (w.heap.size + 2) ((w.alloc (.cells #[.slice (some ⟨g, o, none⟩) n c, .slice (some ⟨gu, 0, none⟩) n n] 115)).alloc (.cells #[.int .i64 xt, .string q, .int .i64 xn, .int .i64 xa, .int .i64 xb] 109)) W → Calls Tryz.prog 88 #[.agg #[.slice (some ⟨g, o, none⟩) n c, .slice (some ⟨gu, 0, none⟩) n n], .int .i64 xb, .int .i64 12] W fun e w' => e = .returned (.bool ((atC ps xb).tag == 12)) ∧ Below (w.heap.size + 2) ((w.alloc (.cells #[.slice (some ⟨g, o, none⟩) n c, .slice (some ⟨gu, 0, none⟩) n n] 115)).alloc (.cells #[.int .i64 xt, .string q, .int .i64 xn, .int .i64 xa, .int .i64 xb] 109)) w') := hide fun W hb => (HH.out xb 12 W (by decide) (hb00.trans (hb.mono (by omega)))).mono fun e w' hh => ⟨hh.1, hb.trans (hh.2.mono (by have := hb.size; omega))⟩
            have HF1 : Hid (∀ (y : Cst) (W : World), Below (w.heap.size + 2) ((w.alloc (.cells #[.slice (some ⟨g, o, none⟩) n c, .slice (some ⟨gu, 0, none⟩) n n] 115)).alloc (.cells #[.int .i64 xt, .string q, .int .i64 xn, .int .i64 xa, .int .i64 xb] 109)) W → Calls Tryz.prog 90 #[.agg #[.slice (some ⟨g, o, none⟩) n c, .slice (some ⟨gu, 0, none⟩) n n], .int .i64 xt, .agg #[.int .i64 y.tag, .string (strOfNums y.text), .int .i64 y.num, .int .i64 y.a, .int .i64 y.b]] W fun e w' => e = .returned (.bool (refB xt (usesE (atC ps y.a)) (usesE (atC ps y.b)))) ∧ Below (w.heap.size + 2) ((w.alloc (.cells #[.slice (some ⟨g, o, none⟩) n c, .slice (some ⟨gu, 0, none⟩) n n] 115)).alloc (.cells #[.int .i64 xt, .string q, .int .i64 xn, .int .i64 xa, .int .i64 xb] 109)) w') := hide fun y W hb => (HF.out xt y W (hb00.trans (hb.mono (by omega)))).mono fun e w' hh => ⟨hh.1, hb.trans (hh.2.mono (by have := hb.size; omega))⟩
            have hC : ∀ (W : World) (k : Nat) (v : Value), Below (w.heap.size + 2) ((w.alloc (.cells #[.slice (some ⟨g, o, none⟩) n c, .slice (some ⟨gu, 0, none⟩) n n] 115)).alloc (.cells #[.int .i64 xt, .string q, .int .i64 xn, .int .i64 xa, .int .i64 xb] 109)) W → w.cell? ⟨g, k, none⟩ = some v → W.cell? ⟨g, k, none⟩ = some v := fun W k v hb hv => by
              have := (hb00.trans (hb.mono (by omega))).cell (p := ⟨g, k, none⟩) hg
              rw [this]; exact hv
            have HC := hide hC
            have HB00 := hide hb00
            have HK := hide hK
            have t9' : xt = 9 ∨ (xt ≠ 9 ∧ xt = 10) ∨ (xt ≠ 9 ∧ xt ≠ 10 ∧ xt = 11) := by omega
            have tb : ((xt == 9) = true) ∨ ((xt == 9) = false ∧ (xt == 10) = true) ∨ ((xt == 9) = false ∧ (xt == 10) = false ∧ (xt == 11) = true) := by
              simp only [beq_iff_eq, beq_eq_false_iff_ne]; omega
            clear HA HH HF h hK hb00 hC t9 t9'
            cases q7 : ((atC ps xa).tag == 7)
            · rw [q7] at hD HH7
              have HD : Hid (false = D) := hide hD
              clear hD q7 HF1 HH12
              rcases tb with b9 | ⟨b9, b10⟩ | ⟨b9, b10, b11⟩
              all_goals
                go_enter Tryz.func71, Tryz.ntmps71
                go_wp2_with fail
                generalize ((w.alloc (.cells #[.slice (some ⟨g, o, none⟩) n c, .slice (some ⟨gu, 0, none⟩) n n] 115)).alloc (.cells #[.int .i64 xt, .string q, .int .i64 xn, .int .i64 xa, .int .i64 xb] 109)) = w0 at *
                refine wp_region_text (fun W => Below (w.heap.size + 2) w0 W) (by kernel_rfl) (by kernel_rfl) (by kernel_rfl) hb01 ?_
                repeat (first
                  | (refine text_skip (by rfl) ?_
                     simp only [Act.put, List.setIfInBounds_toArray, List.set_cons_zero, List.set_cons_succ])
                  | (refine text_value (v := ?_) (by rfl) ?_ ?_
                     rotate_left
                     · (intro W hSw; obtain ⟨k0, k1, e0, e3, e4, e5⟩ := HK.out W hSw;  go_simp; try with_reducible rfl)
                     simp only [Act.put, List.setIfInBounds_toArray, List.set_cons_zero, List.set_cons_succ])
                  | (refine text_call (by rfl) ?_ (fun W hSw => HH7.out W hSw) ?_
                     · (intro W hSw; (try dsimp only at hSw); go_simp; done)
                     simp only [Act.put, List.setIfInBounds_toArray, List.set_cons_zero, List.set_cons_succ])
                  | fail)
                refine text_end ?_
                intro W hSw
                have hBW := HB00.out.trans (hSw.mono (by omega))
                go_wp2_with fail
                go_ret
                exact ⟨by rw [← HD.out]; rfl, hBW⟩
            · rw [q7] at hD HH7
              cases q12 : ((atC ps xb).tag == 12)
              · rw [q12] at hD HH12
                have HD : Hid (false = D) := hide hD
                clear hD q7 q12 HF1
                rcases tb with b9 | ⟨b9, b10⟩ | ⟨b9, b10, b11⟩
                all_goals
                  go_enter Tryz.func71, Tryz.ntmps71
                  go_wp2_with fail
                  generalize ((w.alloc (.cells #[.slice (some ⟨g, o, none⟩) n c, .slice (some ⟨gu, 0, none⟩) n n] 115)).alloc (.cells #[.int .i64 xt, .string q, .int .i64 xn, .int .i64 xa, .int .i64 xb] 109)) = w0 at *
                  refine wp_region_text (fun W => Below (w.heap.size + 2) w0 W) (by kernel_rfl) (by kernel_rfl) (by kernel_rfl) hb01 ?_
                  repeat (first
                    | (refine text_skip (by rfl) ?_
                       simp only [Act.put, List.setIfInBounds_toArray, List.set_cons_zero, List.set_cons_succ])
                    | (refine text_value (v := ?_) (by rfl) ?_ ?_
                       rotate_left
                       · (intro W hSw; obtain ⟨k0, k1, e0, e3, e4, e5⟩ := HK.out W hSw;  go_simp; try with_reducible rfl)
                       simp only [Act.put, List.setIfInBounds_toArray, List.set_cons_zero, List.set_cons_succ])
                    | (refine text_call (by rfl) ?_ (fun W hSw => HH7.out W hSw) ?_
                       · (intro W hSw; (try dsimp only at hSw); go_simp; done)
                       simp only [Act.put, List.setIfInBounds_toArray, List.set_cons_zero, List.set_cons_succ])
                    | (refine text_call (by rfl) ?_ (fun W hSw => HH12.out W hSw) ?_
                       · (intro W hSw; (try dsimp only at hSw); go_simp; done)
                       simp only [Act.put, List.setIfInBounds_toArray, List.set_cons_zero, List.set_cons_succ])
                    | fail)
                  refine text_end ?_
                  intro W hSw
                  have hBW := HB00.out.trans (hSw.mono (by omega))
                  go_wp2_with fail
                  go_ret
                  exact ⟨by rw [← HD.out]; rfl, hBW⟩
              · rw [q12] at hD HH12
                have ht12 : (atC ps xb).tag = 12 := by simpa using q12
                obtain ⟨j2, rfl, hj2⟩ := tag_in HR.out.1.1 (i := xb) (by omega)
                clear ht12
                have hji2 : (j2 : Int) < (n : Int) := by omega
                obtain ⟨g', o', hg', _, d0, d1, d2, d3, d4⟩ := HR.out.1.cells5 hj2
                cases hg'
                rw [atC_in HR.out.1.1 hj2] at hD
                have HF2 := hide (HF1.out (ps.getD j2 noC))
                clear q7 q12 HF1
                generalize ps.getD j2 noC = y at *
                obtain ⟨yt, yx, yn, ya, yb⟩ := y
                simp only at hD d0 d1 d2 d3 d4 HF2
                generalize strOfNums yx = yq at *
                have HD : Hid (refB xt (usesE (atC ps ya)) (usesE (atC ps yb)) = D) := hide hD
                clear hD
                generalize refB xt (usesE (atC ps ya)) (usesE (atC ps yb)) = rb at *
                rcases tb with b9 | ⟨b9, b10⟩ | ⟨b9, b10, b11⟩
                all_goals
                  go_enter Tryz.func71, Tryz.ntmps71
                  go_wp2_with fail
                  generalize ((w.alloc (.cells #[.slice (some ⟨g, o, none⟩) n c, .slice (some ⟨gu, 0, none⟩) n n] 115)).alloc (.cells #[.int .i64 xt, .string q, .int .i64 xn, .int .i64 xa, .int .i64 j2] 109)) = w0 at *
                  refine wp_region_text (fun W => Below (w.heap.size + 2) w0 W) (by kernel_rfl) (by kernel_rfl) (by kernel_rfl) hb01 ?_
                  repeat (first
                    | (refine text_skip (by rfl) ?_
                       simp only [Act.put, List.setIfInBounds_toArray, List.set_cons_zero, List.set_cons_succ])
                    | (refine text_value (v := ?_) (by rfl) ?_ ?_
                       rotate_left
                       · (intro W hSw; obtain ⟨k0, k1, e0, e3, e4, e5⟩ := HK.out W hSw; have d0' := HC.out W _ _ hSw d0; have d1' := HC.out W _ _ hSw d1; have d2' := HC.out W _ _ hSw d2; have d3' := HC.out W _ _ hSw d3; have d4' := HC.out W _ _ hSw d4; go_simp; try with_reducible rfl)
                       simp only [Act.put, List.setIfInBounds_toArray, List.set_cons_zero, List.set_cons_succ])
                    | (refine text_call (by rfl) ?_ (fun W hSw => HH7.out W hSw) ?_
                       · (intro W hSw; (try dsimp only at hSw); go_simp; done)
                       simp only [Act.put, List.setIfInBounds_toArray, List.set_cons_zero, List.set_cons_succ])
                    | (refine text_call (by rfl) ?_ (fun W hSw => HH12.out W hSw) ?_
                       · (intro W hSw; (try dsimp only at hSw); go_simp; done)
                       simp only [Act.put, List.setIfInBounds_toArray, List.set_cons_zero, List.set_cons_succ])
                    | (refine text_call (by rfl) ?_ (fun W hSw => HF2.out W hSw) ?_
                       · (intro W hSw; (try dsimp only at hSw); go_simp; done)
                       simp only [Act.put, List.setIfInBounds_toArray, List.set_cons_zero, List.set_cons_succ])
                    | fail)
                  refine text_end ?_
                  intro W hSw
                  have hBW := HB00.out.trans (hSw.mono (by omega))
                  go_wp2_with fail
                  go_ret
                  exact ⟨by rw [← HD.out]; rfl, hBW⟩
          · rw [if_neg t9] at hD
            have b9 : (xt == 9) = false := by simp; omega
            have b10 : (xt == 10) = false := by simp; omega
            have b11 : (xt == 11) = false := by simp; omega
            have HD := hide hD
            clear hD HA HH HF HR h
            go_enter Tryz.func71, Tryz.ntmps71
            go_wp2_with fail
            go_ret
            exact ⟨by rw [← HD.out]; rfl, by repeat (first | with_reducible exact (Below.refl _ _) | with_reducible refine Below.drew ?_ | with_reducible refine below_drewN ?_ _ | ((with_reducible refine Below.setCell ?_ ?hp _); case hp => simp) | ((with_reducible refine Below.alloc ?_ ?hp _); case hp => first | omega | (simp; done) | (simp; omega)))⟩
end Go.Proofs.YtbdbcalmjbmflaaGreatDoor
namespace Go.Proofs.YtbdbcalmjbmflaaGreatDoor
open Go.RowKit

abbrev z8 : List Bool := [false, false, false, false, false, false, false, false]
theorem usesinfo : (Tryz.prog.info? 117).map (fun i => (i.zero, i.size, i.bytes)) = some (some (.agg #[.bool false, .bool false, .bool false, .bool false, .bool false, .bool false, .bool false, .bool false]), 8, 8) := by kernel_rfl
def L8 (us : List (List Bool)) : Prop := ∀ u ∈ us, u.length = 8
theorem rep8 (n : Nat) : L8 (List.replicate n z8) := fun u hu => by rw [List.mem_replicate] at hu; rw [hu.2]; rfl
theorem uses8 (ps : List Cst) : L8 (usesOf ps) := fun u hu => by
  simp only [usesOf, List.mem_map] at hu
  obtain ⟨x, _, rfl⟩ := hu
  exact usesE_len x
theorem made_u (n : Nat) : madeCells (Value.agg #[.bool false, .bool false, .bool false, .bool false, .bool false, .bool false, .bool false, .bool false]).cells (n * 8) = (ucells (List.replicate n z8)).toArray := by
  apply Array.toList_inj.1
  unfold madeCells
  apply List.ext_getElem?
  intro p
  by_cases h : p < n * 8
  · have hp : p = p / 8 * 8 + p % 8 := by omega
    have h1 := ucells_at (List.replicate n z8) (p / 8) (p % 8) (rep8 n) (by simp; omega) (by omega)
    have h2 : (List.replicate n z8).getD (p / 8) [] = z8 := by
      have : p / 8 < n := by omega
      simp [List.getD, this]
    rw [← hp, h2] at h1
    show ((Array.range (n * 8)).map _).toList[p]? = (ucells (List.replicate n z8))[p]?
    rw [h1]
    have h3 : p % 8 = 0 ∨ p % 8 = 1 ∨ p % 8 = 2 ∨ p % 8 = 3 ∨ p % 8 = 4 ∨ p % 8 = 5 ∨ p % 8 = 6 ∨ p % 8 = 7 := by omega
    rcases h3 with h3 | h3 | h3 | h3 | h3 | h3 | h3 | h3 <;> simp [h, Value.cells, h3] <;> rfl
  · have h1 : (ucells (List.replicate n z8)).length = n * 8 := by rw [ucells_len _ (rep8 n), List.length_replicate]
    show ((Array.range (n * 8)).map _).toList[p]? = (ucells (List.replicate n z8))[p]?
    rw [List.getElem?_eq_none (l := ucells _) (by omega)]
    simp [h]
theorem ucells_app (a b : List (List Bool)) : ucells (a ++ b) = ucells a ++ ucells b := by simp [ucells]
theorem ucells_cons (x : List Bool) (b : List (List Bool)) : ucells (x :: b) = bcells x ++ ucells b := by simp [ucells]
section
variable {w : World} {g : Nat} {t : TypeId} {a : List (List Bool)} {i : Nat}
theorem at_cell8 {c0 c1 c2 c3 c4 c5 c6 c7 : Value} {b : List Value} (ha : L8 a) (h : At w g t (ucells a ++ c0 :: c1 :: c2 :: c3 :: c4 :: c5 :: c6 :: c7 :: b)) (hi : a.length = i) :
    w.cell? ⟨g, i * 8, none⟩ = some c0 ∧ w.cell? ⟨g, i * 8 + 1, none⟩ = some c1 ∧ w.cell? ⟨g, i * 8 + 2, none⟩ = some c2 ∧ w.cell? ⟨g, i * 8 + 3, none⟩ = some c3 ∧ w.cell? ⟨g, i * 8 + 4, none⟩ = some c4 ∧ w.cell? ⟨g, i * 8 + 5, none⟩ = some c5 ∧ w.cell? ⟨g, i * 8 + 6, none⟩ = some c6 ∧ w.cell? ⟨g, i * 8 + 7, none⟩ = some c7 ∧
    w.frozen? ⟨g, i * 8, none⟩ = false ∧ w.frozen? ⟨g, i * 8 + 1, none⟩ = false ∧ w.frozen? ⟨g, i * 8 + 2, none⟩ = false ∧ w.frozen? ⟨g, i * 8 + 3, none⟩ = false ∧ w.frozen? ⟨g, i * 8 + 4, none⟩ = false ∧ w.frozen? ⟨g, i * 8 + 5, none⟩ = false ∧ w.frozen? ⟨g, i * 8 + 6, none⟩ = false ∧ w.frozen? ⟨g, i * 8 + 7, none⟩ = false := by
  have hl : (ucells a).length = i * 8 := by rw [ucells_len _ ha, hi]
  have e : ∀ j, (ucells a ++ c0 :: c1 :: c2 :: c3 :: c4 :: c5 :: c6 :: c7 :: b)[i * 8 + j]? = (c0 :: c1 :: c2 :: c3 :: c4 :: c5 :: c6 :: c7 :: b)[j]? := fun j => by
    rw [List.getElem?_append_right (by omega), hl, Nat.add_sub_cancel_left]
  refine ⟨?_, ?_, ?_, ?_, ?_, ?_, ?_, ?_, h.free _, h.free _, h.free _, h.free _, h.free _, h.free _, h.free _, h.free _⟩
  · rw [h.cell]; exact e 0
  · rw [h.cell]; exact e 1
  · rw [h.cell]; exact e 2
  · rw [h.cell]; exact e 3
  · rw [h.cell]; exact e 4
  · rw [h.cell]; exact e 5
  · rw [h.cell]; exact e 6
  · rw [h.cell]; exact e 7
theorem at_put8 {l : List Value} (ha : L8 a) (h : At w g t (ucells a ++ l)) (hi : a.length = i) (j : Nat) (v : Value) : At (w.setCell ⟨g, i * 8 + j, none⟩ v) g t (ucells a ++ l.set j v) := by
  have hl : (ucells a).length = i * 8 := by rw [ucells_len _ ha, hi]
  have := h.set (i * 8 + j) v
  rwa [List.set_append_right _ _ (by omega), hl, Nat.add_sub_cancel_left] at this
def putU (g o : Nat) (b0 b1 b2 b3 b4 b5 b6 b7 : Bool) (W : World) : World :=
  (((((((W.setCell ⟨g, o, none⟩ (.bool b0)).setCell ⟨g, o + 1, none⟩ (.bool b1)).setCell ⟨g, o + 2, none⟩ (.bool b2)).setCell ⟨g, o + 3, none⟩ (.bool b3)).setCell ⟨g, o + 4, none⟩ (.bool b4)).setCell ⟨g, o + 5, none⟩ (.bool b5)).setCell ⟨g, o + 6, none⟩ (.bool b6)).setCell ⟨g, o + 7, none⟩ (.bool b7)
theorem putU_at {c0 c1 c2 c3 c4 c5 c6 c7 : Value} {b : List Value} {b0 b1 b2 b3 b4 b5 b6 b7 : Bool} (ha : L8 a) (h : At w g t (ucells a ++ c0 :: c1 :: c2 :: c3 :: c4 :: c5 :: c6 :: c7 :: b)) (hi : a.length = i) :
    At (putU g (i * 8) b0 b1 b2 b3 b4 b5 b6 b7 w) g t (ucells a ++ .bool b0 :: .bool b1 :: .bool b2 :: .bool b3 :: .bool b4 :: .bool b5 :: .bool b6 :: .bool b7 :: b) :=
  at_put8 ha (at_put8 ha (at_put8 ha (at_put8 ha (at_put8 ha (at_put8 ha (at_put8 ha (at_put8 (l := c0 :: c1 :: c2 :: c3 :: c4 :: c5 :: c6 :: c7 :: b) ha h hi 0 (.bool b0)) hi 1 _) hi 2 _) hi 3 _) hi 4 _) hi 5 _) hi 6 _) hi 7 _
theorem putU_far {g' o : Nat} {cs : List Value} {b0 b1 b2 b3 b4 b5 b6 b7 : Bool} (h : At w g' t cs) (hg : g' ≠ g) : At (putU g o b0 b1 b2 b3 b4 b5 b6 b7 w) g' t cs :=
  (((((((h.far (p := ⟨g, o, none⟩) hg _).far (p := ⟨g, o + 1, none⟩) hg _).far (p := ⟨g, o + 2, none⟩) hg _).far (p := ⟨g, o + 3, none⟩) hg _).far (p := ⟨g, o + 4, none⟩) hg _).far (p := ⟨g, o + 5, none⟩) hg _).far (p := ⟨g, o + 6, none⟩) hg _).far (p := ⟨g, o + 7, none⟩) hg _
theorem putU_below {B o : Nat} {w0 : World} {b0 b1 b2 b3 b4 b5 b6 b7 : Bool} (h : Below B w0 w) (hg : B ≤ g) : Below B w0 (putU g o b0 b1 b2 b3 b4 b5 b6 b7 w) := by
  unfold putU
  repeat (first | with_reducible exact h | (with_reducible refine Below.setCell ?_ ?hp _; case hp => exact hg))
end
/-- Where the first loop stands. -/
def AHold (w : World) (A : Option Addr) (n c : Nat) (us : List (List Bool)) (W : World) : Prop :=
  Below w.heap.size w W ∧ At W w.heap.size 117 (ucells us) ∧ At W (w.heap.size + 1) 115 [.slice A n c, .slice (some ⟨w.heap.size, 0, none⟩) n n]
theorem ahold_below {w W w' : World} {A : Option Addr} {n c : Nat} {us : List (List Bool)} (h : AHold w A n c us W) (hb : Below W.heap.size W w') : AHold w A n c us w' :=
  ⟨h.1.trans (hb.mono h.1.size), h.2.1.below hb h.2.1.lt, h.2.2.below hb h.2.2.lt⟩
/-- What the two lists of a step are. -/
theorem part_old (ps : List Cst) {i n : Nat} (hi : i < n) : ucells ((usesOf ps).take i ++ List.replicate (n - i) z8) = ucells ((usesOf ps).take i) ++ (.bool false :: .bool false :: .bool false :: .bool false :: .bool false :: .bool false :: .bool false :: .bool false :: ucells (List.replicate (n - (i + 1)) z8)) := by
  rw [ucells_app, show n - i = (n - (i + 1)) + 1 by omega, List.replicate_succ, ucells_cons]; rfl
theorem part_new (ps : List Cst) {i n : Nat} (hl : ps.length = n) (hi : i < n) : ucells ((usesOf ps).take (i + 1) ++ List.replicate (n - (i + 1)) z8) = ucells ((usesOf ps).take i) ++ (bcells (usesE (ps.getD i noC)) ++ ucells (List.replicate (n - (i + 1)) z8)) := by
  have h1 : i < (usesOf ps).length := by simp [usesOf]; omega
  rw [ucells_app, List.take_succ_eq_append_getElem h1, ucells_app, List.append_assoc]
  congr 2
  have := usesOf_at ps (j := i) (by omega)
  rw [List.getD_eq_getElem?_getD, List.getElem?_eq_getElem h1] at this
  simp only [Option.getD_some] at this
  rw [this, ucells_cons]; simp [ucells]
theorem take8 {ps : List Cst} (i : Nat) : L8 ((usesOf ps).take i) := fun u hu => uses8 ps u (List.mem_of_mem_take hu)

/-- What is held while one text's uses are put down. -/
def ABase (w : World) (A : Option Addr) (n c g5 : Nat) (d : List (List Bool)) (r : List Value) (x : Cst) (W : World) : Prop :=
  Below w.heap.size w W ∧ (∃ c0 c1 c2 c3 c4 c5 c6 c7, At W w.heap.size 117 (ucells d ++ c0 :: c1 :: c2 :: c3 :: c4 :: c5 :: c6 :: c7 :: r)) ∧ At W (w.heap.size + 1) 115 [.slice A n c, .slice (some ⟨w.heap.size, 0, none⟩) n n] ∧
  At W g5 109 [.int .i64 x.tag, .string (strOfNums x.text), .int .i64 x.num, .int .i64 x.a, .int .i64 x.b] ∧ w.heap.size < g5
theorem abase_below {w W w' : World} {A : Option Addr} {n c g5 : Nat} {d : List (List Bool)} {r : List Value} {x : Cst} {R : List Value} {l : Array Bool}
    (h : Then (ABase w A n c g5 d r x) (fun W => At W w.heap.size 117 R) 7 l W) (hb : Below W.heap.size W w') : Then (ABase w A n c g5 d r x) (fun W => At W w.heap.size 117 R) 7 l w' := by
  obtain ⟨⟨h0, ⟨c0, c1, c2, c3, c4, c5, c6, c7, h1⟩, h2, h3, h4⟩, h5⟩ := h
  exact ⟨⟨h0.trans (hb.mono h0.size), ⟨c0, c1, c2, c3, c4, c5, c6, c7, h1.below hb h1.lt⟩, h2.below hb h2.lt, h3.below hb h3.lt, h4⟩, fun hz => (h5 hz).below hb (h5 hz).lt⟩
theorem abase_drew {w W : World} {A : Option Addr} {n c g5 : Nat} {d : List (List Bool)} {r : List Value} {x : Cst} (h : ABase w A n c g5 d r x W) : ABase w A n c g5 d r x W.drew := by
  obtain ⟨h0, h1, h2, h3, h4⟩ := h
  exact ⟨h0.drew, h1, h2, h3, h4⟩
theorem abase_put {w W : World} {A : Option Addr} {n c g5 i : Nat} {d : List (List Bool)} {r : List Value} {x : Cst} {b0 b1 b2 b3 b4 b5 b6 b7 : Bool} (hd : L8 d) (hi : d.length = i) (h : ABase w A n c g5 d r x W) :
    ABase w A n c g5 d r x (putU w.heap.size (i * 8) b0 b1 b2 b3 b4 b5 b6 b7 W) ∧ At (putU w.heap.size (i * 8) b0 b1 b2 b3 b4 b5 b6 b7 W) w.heap.size 117 (ucells d ++ (bcells [b0, b1, b2, b3, b4, b5, b6, b7] ++ r)) := by
  obtain ⟨h0, ⟨c0, c1, c2, c3, c4, c5, c6, c7, h1⟩, h2, h3, h4⟩ := h
  have := putU_at (b0 := b0) (b1 := b1) (b2 := b2) (b3 := b3) (b4 := b4) (b5 := b5) (b6 := b6) (b7 := b7) hd h1 hi
  exact ⟨⟨putU_below h0 (Nat.le_refl _), ⟨_, _, _, _, _, _, _, _, this⟩, putU_far h2 (by omega), putU_far h3 (by omega), h4⟩, this⟩

theorem abase_store {w W : World} {A : Option Addr} {n c g5 i : Nat} {d : List (List Bool)} {r : List Value} {x : Cst} {b0 b1 b2 b3 b4 b5 b6 b7 : Bool} {l : Array Bool} (hd : L8 d) (hi : d.length = i)
    (h : Then (ABase w A n c g5 d r x) (fun W => At W w.heap.size 117 (ucells d ++ (bcells [b0, b1, b2, b3, b4, b5, b6, b7] ++ r))) 7 l W) :
    Then (ABase w A n c g5 d r x) (fun W => At W w.heap.size 117 (ucells d ++ (bcells [b0, b1, b2, b3, b4, b5, b6, b7] ++ r))) 7 (l.setIfInBounds 7 true) (putU w.heap.size (i * 8) b0 b1 b2 b3 b4 b5 b6 b7 W) :=
  ⟨(abase_put hd hi h.1).1, fun _ => (abase_put hd hi h.1).2⟩

set_option maxHeartbeats 4000000 in
set_option maxRecDepth 100000 in
theorem allhold_any (A : Option Addr) (n c : Nat) (ps : List Cst) (w : World) (h : RdC w w.heap.size A n ps) (hwf : CWf ps) (hn : n ≤ 1000000) (hw : Maxed w) :
    Calls Tryz.prog 47 #[.slice A n c] w fun e w' => e = .returned (.bool ((List.range n).all fun i => holdI ps i)) ∧ Below w.heap.size w w' := by
  obtain ⟨i0, hi0, iz0, iz1, iz2⟩ := info_parts usesinfo
  have hpl := h.1
  have HR := hide h
  have HW := hide hw
  obtain ⟨D, hD⟩ : ∃ D, ((List.range n).all fun i => holdI ps i) = D := ⟨_, rfl⟩
  rw [hD]
  have HD := hide hD
  have hmk : ∀ W : World, (Instr.makeSlice 113 (.int .i64 (n : Int)) (.int .i64 (n : Int))).run Tryz.prog W = .ok (.slice (some ⟨W.heap.size, 0, none⟩) n n) (W.alloc (.cells (ucells (List.replicate n z8)).toArray 117)) := fun W => by
    have := run_make (P := Tryz.prog) W 113 117 i0 _ Tryz.underlying113 hi0 iz0 .i64 .i64 (n : Int) (n : Int) (by omega) (by omega) (by rw [iz2]; omega) (by omega)
    rw [this, iz1, Int.toNat_natCast, made_u]
  have HU : Hid (∀ (i : Nat) (W : World), i < n → Maxed W → Calls Tryz.prog 70 #[.string (strOfNums (ps.getD i noC).text)] W fun e w' => e = .returned (usesV (usesB (ps.getD i noC).text)) ∧ Below W.heap.size W w') := hide fun i W hi hW => by
    have hf : IsBytes (ps.getD i noC).text ∧ (ps.getD i noC).text.length ≤ 100000 := by
      have hg : ps.getD i noC = ps[i] := by simp [List.getD, show i < ps.length by omega]
      rw [hg]; exact hwf _ (by simp)
    have hs := str_wf hf
    have := uses_any (strOfNums (ps.getD i noC).text) W (by omega) hW
    rwa [hs.1] at this
  have HH : Hid (∀ (i : Nat) (W : World), i < n → RulesIn W A n w.heap.size ps → Calls Tryz.prog 71 #[.agg #[.slice A n c, .slice (some ⟨w.heap.size, 0, none⟩) n n], .int .i64 i] W fun e w' => e = .returned (.bool (holdI ps i)) ∧ Below W.heap.size W w') := hide fun i W hi hW => hold_any A n c w.heap.size ps i hi W hW
  clear hD hw hwf h
  go_enter Tryz.func47, Tryz.ntmps47
  go_wp2_with fail
  have hA0 : AHold w A n c ((usesOf ps).take 0 ++ List.replicate (n - 0) z8) ((w.alloc (.cells (ucells (List.replicate n z8)).toArray 117)).alloc (.cells #[.slice A n c, .slice (some ⟨w.heap.size, 0, none⟩) n n] 115)) := by
    refine ⟨by repeat (first | with_reducible exact (Below.refl _ _) | with_reducible refine Below.drew ?_ | with_reducible refine below_drewN ?_ _ | ((with_reducible refine Below.setCell ?_ ?hp _); case hp => simp) | ((with_reducible refine Below.alloc ?_ ?hp _); case hp => first | omega | (simp; done) | (simp; omega))), ?_, ?_⟩
    · have := (At.new w 117 (ucells (List.replicate n z8))).alloc (.cells #[.slice A n c, .slice (some ⟨w.heap.size, 0, none⟩) n n] 115)
      simpa using this
    · have := At.new (w.alloc (.cells (ucells (List.replicate n z8)).toArray 117)) 115 [.slice A n c, .slice (some ⟨w.heap.size, 0, none⟩) n n]
      rwa [World.size_alloc] at this
  have HA0 := hide hA0
  clear hA0 hmk
  generalize ((w.alloc (.cells (ucells (List.replicate n z8)).toArray 117)).alloc (.cells #[.slice A n c, .slice (some ⟨w.heap.size, 0, none⟩) n n] 115)) = wa at *
  go_loopw [14] (fun iv wr => ∃ i : Nat, i ≤ n ∧ iv = .int .i64 i ∧ AHold w A n c ((usesOf ps).take i ++ List.replicate (n - i) z8) wr) (fun iv _ => n - (intOf iv).toNat)
  case atStart => exact ⟨0, Nat.zero_le _, rfl, HA0.out⟩
  case round =>
    obtain ⟨i, hin, rfl, hA⟩ := hrel
    by_cases hlt : i < n
    · have hlt' : (i : Int) < (n : Int) := by omega
      have HA := hide hA
      obtain ⟨g, o, rfl, hg, c0, c1, c2, c3, c4⟩ := (HR.out.below hA.1).cells5 hlt
      have HU1 := hide (fun W => HU.out i W hlt)
      have hpn := part_new ps hpl hlt
      have hpo := part_old ps hlt
      have hE : usesE (ps.getD i noC) = if (ps.getD i noC).tag = 1 then usesB (ps.getD i noC).text else z8 := rfl
      have hAn : AHold w (some ⟨g, o, none⟩) n c ((usesOf ps).take i ++ List.replicate (n - i) z8) wr := hA
      have hti : ((usesOf ps).take i).length = i := by simp [usesOf]; omega
      have ht8 : L8 ((usesOf ps).take i) := take8 i
      clear hA HA0
      generalize ps.getD i noC = x at *
      obtain ⟨x0, x1, x2, x3, x4⟩ := x
      simp only at c0 c1 c2 c3 c4 HU1 hE
      by_cases h1 : x0 = 1
      · rw [if_pos h1] at hE
        have hb1 : (x0 == 1) = true := by simpa using h1
        have h8 := list8 (usesB x1) rfl
        rw [hE] at hpn
        generalize usesB x1 = us at *
        obtain ⟨u0, u1, u2, u3, u4, u5, u6, u7, rfl⟩ : ∃ a b c d e f g i, us = [a, b, c, d, e, f, g, i] := ⟨_, _, _, _, _, _, _, _, h8⟩
        have HU2 : Hid (∀ W, Maxed W → Calls Tryz.prog 70 #[.string (strOfNums x1)] W fun e w' => e = .returned (.agg #[.bool u0, .bool u1, .bool u2, .bool u3, .bool u4, .bool u5, .bool u6, .bool u7]) ∧ Below W.heap.size W w') := HU1
        have hB0 : ABase w (some ⟨g, o, none⟩) n c wr.heap.size ((usesOf ps).take i) (ucells (List.replicate (n - (i + 1)) z8)) ⟨x0, x1, x2, x3, x4⟩ (wr.alloc (.cells #[.int .i64 x0, .string (strOfNums x1), .int .i64 x2, .int .i64 x3, .int .i64 x4] 109)) := by
          obtain ⟨a1, a2, a3⟩ := hAn
          rw [hpo] at a2
          exact ⟨a1.alloc a1.size _, ⟨_, _, _, _, _, _, _, _, a2.alloc _⟩, a3.alloc _, At.new _ _ _, a2.lt⟩
        have HB0 := hide hB0
        have HPN := hide hpn
        have HWr := hide HW.out
        clear hB0 hpn hpo hE h8 HU1 hAn HA h1
        generalize hq : strOfNums x1 = q at *
        generalize ucells (List.replicate (n - (i + 1)) z8) = rest at *
        go_wp2_with fail
        refine wp_region_texts (Then (ABase w (some ⟨g, o, none⟩) n c wr.heap.size ((usesOf ps).take i) rest ⟨x0, x1, x2, x3, x4⟩) (fun W => At W w.heap.size 117 (ucells ((usesOf ps).take i) ++ (bcells [u0, u1, u2, u3, u4, u5, u6, u7] ++ rest))) 7) (by kernel_rfl) (by kernel_rfl) (by kernel_rfl) (Then.start (abase_drew HB0.out)) ?_
        repeat (first
          | (refine textL_value (Then.stays _ _ _) (v := ?_) (by rfl) (by rfl) ?_ ?_
             rotate_left
             · (intro l W hSw; obtain ⟨⟨_, _, hbx, hcx, _⟩, _⟩ := hSw; have k1 := hbx.cell 1; have e1 := hcx.cell 1; simp only [List.getElem?_cons_zero, List.getElem?_cons_succ] at k1 e1; rw [hq] at e1; go_simp; try with_reducible rfl)
             simp only [Act.put, List.setIfInBounds_toArray, List.set_cons_zero, List.set_cons_succ])
          | (refine textL_call (Then.stays _ _ _) (by rfl) (by rfl) ?_ (fun l W hSw => (HU2.out W (HWr.out.below hSw.1.1)).mono fun e w' hh => ⟨hh.1, abase_below hSw hh.2⟩) ?_
             · (intro l W hSw; go_simp; done)
             simp only [Act.put, List.setIfInBounds_toArray, List.set_cons_zero, List.set_cons_succ])
          | (refine textL_store (by rfl) (by rfl) (putU w.heap.size (i * 8) u0 u1 u2 u3 u4 u5 u6 u7) ?_ (fun l W hSw => abase_store ht8 hti hSw) ?_
             · (intro l W hSw
                obtain ⟨_, _, _, _, _, _, _, _, ha⟩ := hSw.1.2.1
                obtain ⟨q0, q1, q2, q3, q4, q5, q6, q7, f0, f1, f2, f3, f4, f5, f6, f7⟩ := at_cell8 ht8 ha hti
                go_simp; rfl))
          | fail)
        refine textL_end ?_
        intro W hSw
        obtain ⟨⟨hB, _, hbx, _, _⟩, hA⟩ := hSw.done (by decide)
        rw [← HPN.out] at hA
        have HN := hide (show AHold w (some ⟨g, o, none⟩) n c ((usesOf ps).take (i + 1) ++ List.replicate (n - (i + 1)) z8) W from ⟨hB, hA, hbx⟩)
        clear hSw hB hbx hA HPN HB0
        go_wp2_with fail
        go_roundw
        case rel => exact ⟨i + 1, by omega, by go_num, HN.out⟩
        case measure => simp [intOf]; omega
      · rw [if_neg h1] at hE
        rw [hE] at hpn
        have hb1 : (x0 == 1) = false := by simpa using h1
        have HN := hide (show AHold w (some ⟨g, o, none⟩) n c ((usesOf ps).take (i + 1) ++ List.replicate (n - (i + 1)) z8) (wr.alloc (.cells #[.int .i64 x0, .string (strOfNums x1), .int .i64 x2, .int .i64 x3, .int .i64 x4] 109)) from by
          obtain ⟨a1, a2, a3⟩ := hAn
          refine ⟨a1.alloc a1.size _, ?_, a3.alloc _⟩
          rw [hpn]
          rw [hpo] at a2
          exact a2.alloc _)
        clear hpn hpo hE HU1 hAn HA h1
        generalize hq : strOfNums x1 = q at *
        go_wp2_with fail
        go_roundw
        case rel => exact ⟨i + 1, by omega, by go_num, HN.out⟩
        case measure => simp [intOf]; omega
    · obtain rfl : i = n := by omega
      have hlt' : ¬ (i : Int) < (i : Int) := by omega
      have hful : (usesOf ps).take i ++ List.replicate (i - i) z8 = usesOf ps := by
        rw [Nat.sub_self, List.replicate_zero, List.append_nil, List.take_of_length_le (by simp [usesOf]; omega)]
      rw [hful] at hA
      have HA := hide hA
      clear hA HA0 hful HU
      go_wp2_with fail
      go_loopw [32] (fun iv wr => ∃ j : Nat, j ≤ i ∧ iv = .int .i64 j ∧ AHold w A i c (usesOf ps) wr ∧ ((List.range j).all fun i => holdI ps i) = true) (fun iv _ => i - (intOf iv).toNat)
      case atStart => exact ⟨0, Nat.zero_le _, rfl, HA.out, rfl⟩
      case round =>
        obtain ⟨j, hjn, rfl, hA, hall⟩ := hrel
        have HL := hide hall
        have HAj := hide hA
        obtain ⟨a1, a2, a3⟩ := hA
        clear hall HA
        by_cases hlt : j < i
        · have hlt2 : (j : Int) < (i : Int) := by omega
          have HHj := hide (HH.out j wr hlt ⟨(HR.out.below a1).mono a1.size, a2⟩)
          have k0 := a3.cell 0
          have k1 := a3.cell 1
          have hB := hide a1
          simp only [List.getElem?_cons_zero, List.getElem?_cons_succ] at k0 k1
          clear a1 a2 a3
          cases hh : holdI ps j
          · rw [hh] at HHj
            have HV : Hid (D = false) := hide (by
              rw [← HD.out, List.all_eq_false]
              exact ⟨j, by simpa using hlt, by simp [hh]⟩)
            go_wp2_with fail
            refine HHj.out.mono ?_
            rintro e w2 ⟨rfl, hb2⟩
            have hb3 := hB.out.trans (hb2.mono hB.out.size)
            have Hb3 := hide hb3
            clear hb2 hb3
            go_wp2_with fail
            go_ret
            exact ⟨by rw [HV.out]; rfl, Hb3.out⟩
          · rw [hh] at HHj
            have HL2 : Hid (((List.range (j + 1)).all fun i => holdI ps i) = true) := hide (by
              rw [List.range_succ, List.all_append, HL.out]; simp [hh])
            go_wp2_with fail
            refine HHj.out.mono ?_
            rintro e w2 ⟨rfl, hb2⟩
            have HN := hide (ahold_below HAj.out hb2)
            clear hb2
            go_wp2_with fail
            go_roundw
            case rel => exact ⟨j + 1, by omega, by go_num, HN.out, HL2.out⟩
            case measure => simp [intOf]; omega
        · obtain rfl : j = i := by omega
          have HV : Hid (D = true) := hide (by rw [← HD.out]; exact HL.out)
          have hB := hide a1
          clear a1 a2 a3
          go_wp2_with fail
          go_ret
          exact ⟨by rw [HV.out]; rfl, hB.out⟩
end Go.Proofs.YtbdbcalmjbmflaaGreatDoor
namespace Go.Proofs.YtbdbcalmjbmflaaGreatDoor
open Go.RowKit

theorem open_no {l : List Int} (h : l.head? = some 40) : field l = none := by
  cases l with
  | nil => cases h
  | cons c r =>
    simp only [List.head?_cons, Option.some.injEq] at h
    subst h
    have h1 : dimsL (40 :: r) = 0 := by simp [dimsL]
    have h2 : single (40 :: r) = none := by rw [single_cons, if_neg (by decide), if_neg (by simp)]
    unfold field front
    rw [h1, if_neg (by omega), List.drop_zero, h2]
    rfl
theorem field_sig {l : List Int} (h : (field l).isSome = true) : sig l = none := by
  by_cases h0 : l.head? = some 40
  · rw [open_no h0] at h; cases h
  · exact sig_not h0
theorem void_sig {l : List Int} (h : voidB l = true) : (sig l).isSome = true := by
  unfold voidB at h
  cases hs : sig l with
  | none => rw [hs] at h; cases h
  | some x => rfl
theorem plain_init : plainB nInit = true := by decide +kernel
theorem uses_text {p : List Cst} {i : Int} {t : List Int} (h : textAt p i = some t) : usesE (atC p i) = usesB t := by
  unfold textAt at h
  unfold usesE
  split at h
  · rename_i h1
    rw [if_pos h1]
    cases h; rfl
  · cases h
theorem uses_none {p : List Cst} {i : Int} (h : textAt p i = none) : usesE (atC p i) = [false, false, false, false, false, false, false, false] := by
  unfold textAt at h
  unfold usesE
  split at h
  · cases h
  · rename_i h1
    rw [if_neg h1]
/-- What the document asks of a reference, by its name and its descriptor. -/
def askRef (t : Int) (n d : List Int) : Bool :=
  if (field d).isSome == (t == 9) then if n = nInit then t == 10 && voidB d else t == 9 || (methodB n && n != nClinit) else false
theorem ref_eq (t : Int) (ht : t = 9 ∨ t = 10 ∨ t = 11) (n d : List Int) (h : ((field d).isSome || (sig d).isSome) = true) : refB t (usesB n) (usesB d) = askRef t n d := by
  have e3 : (usesB n).getD 3 false = (n == nInit) := rfl
  have e4 : (usesB n).getD 4 false = (methodB n && !specB n) := rfl
  have e5 : (usesB d).getD 5 false = (field d).isSome := rfl
  have e6 : (usesB d).getD 6 false = (sig d).isSome := rfl
  have e7 : (usesB d).getD 7 false = voidB d := rfl
  unfold refB askRef
  rw [e3, e4, e5, e6, e7]
  have hv := @void_sig d
  have hf := @field_sig d
  by_cases hn : n = nInit
  · subst hn
    rw [if_pos rfl, beq_self_eq_true]
    rcases ht with rfl | rfl | rfl
    · simp
    · cases q : (field d).isSome
      · simp
      · have : voidB d = false := by
          cases q2 : voidB d
          · rfl
          · have := hv q2; rw [hf q] at this; cases this
        simp [this]
    · simp
  · have hb : (n == nInit) = false := by simpa using hn
    rw [if_neg hn, hb]
    have hs : specB n = (n == nClinit) := by rw [specB, hb, Bool.false_or]
    rw [hs]
    rcases ht with rfl | rfl | rfl
    · simp
    · cases q : (field d).isSome
      · rw [q] at h
        simp only [Bool.false_or] at h
        simp [h, bne]
      · rw [hf q]; simp
    · cases q : (field d).isSome
      · rw [q] at h
        simp only [Bool.false_or] at h
        simp [h, bne]
      · rw [hf q]; simp
theorem hold_other {p : List Cst} {i : Int} (h : ¬ ((atC p i).tag = 9 ∨ (atC p i).tag = 10 ∨ (atC p i).tag = 11)) : holdI p i = holdsAt p i := by
  unfold holdI holdsAt
  simp only
  by_cases h1 : (atC p i).tag = 1
  · rw [if_pos h1, if_pos h1, usesE, if_pos h1]; rfl
  · rw [if_neg h1, if_neg h1]
    by_cases h8 : (atC p i).tag = 8
    · rw [if_pos h8, if_neg (by omega), if_pos h8]
    · rw [if_neg h8]
      by_cases h7 : (atC p i).tag = 7
      · rw [if_pos h7, if_pos h7]
        cases ht : textAt p (atC p i).a with
        | none => rw [uses_none ht]; rfl
        | some t => rw [uses_text ht]; rfl
      · rw [if_neg h7, if_neg h7, if_neg h8]
        by_cases h12 : (atC p i).tag = 12
        · rw [if_pos h12, if_pos h12]
          cases ht : textAt p (atC p i).a with
          | none => rw [uses_none ht]; rfl
          | some t =>
            rw [uses_text ht]
            have hp : (plainB t || t == nInit) = plainB t := by
              cases q : (t == nInit)
              · rw [Bool.or_false]
              · have : t = nInit := by simpa using q
                rw [this, plain_init]; rfl
            cases hd : textAt p (atC p i).b with
            | none => rw [uses_none hd]; exact Bool.and_false _
            | some d => rw [uses_text hd]; simp only [hp]; rfl
        · rw [if_neg h12, if_neg h12, if_neg h, if_neg h]
theorem holds_ref {p : List Cst} {i : Int} (h : (atC p i).tag = 9 ∨ (atC p i).tag = 10 ∨ (atC p i).tag = 11) : holdsAt p i = match memberAt p i with | some (_, n, d) => askRef (atC p i).tag n d | none => false := by
  unfold holdsAt
  simp only
  rw [if_neg (by omega), if_neg (by omega), if_neg (by omega), if_neg (by omega), if_pos h]
  cases memberAt p i with
  | none => rfl
  | some x => obtain ⟨c, n, d⟩ := x; rfl
theorem hold_ref {p : List Cst} (hall : ∀ j, (atC p j).tag = 7 ∨ (atC p j).tag = 12 → holdsAt p j = true) {i : Int} (h : (atC p i).tag = 9 ∨ (atC p i).tag = 10 ∨ (atC p i).tag = 11) : holdI p i = holdsAt p i := by
  rw [holds_ref h, member_yes h]
  unfold holdI
  simp only
  rw [if_neg (by omega), if_neg (by omega), if_neg (by omega), if_neg (by omega), if_pos h]
  by_cases h7 : (atC p (atC p i).a).tag = 7
  · have ha := hall _ (.inl h7)
    rw [holds_7 h7] at ha
    cases ht : textAt p (atC p (atC p i).a).a with
    | none => rw [ht] at ha; cases ha
    | some c =>
      have hc : classAt p (atC p i).a = some c := by unfold classAt; rw [if_pos h7, ht]
      rw [hc, Option.bind_some, show ((atC p (atC p i).a).tag == 7) = true by simpa using h7, Bool.true_and]
      by_cases h12 : (atC p (atC p i).b).tag = 12
      · have hb := hall _ (.inr h12)
        rw [if_pos h12, show ((atC p (atC p i).b).tag == 12) = true by simpa using h12, Bool.true_and]
        unfold holdsAt at hb
        simp only at hb
        rw [if_neg (by omega), if_neg (by omega), if_neg (by omega), if_pos h12] at hb
        cases hn : textAt p (atC p (atC p i).b).a with
        | none => rw [hn] at hb; cases hb
        | some n =>
          cases hd : textAt p (atC p (atC p i).b).b with
          | none => rw [hn, hd] at hb; cases hb
          | some d =>
            rw [hn, hd] at hb
            simp only [Bool.and_eq_true] at hb
            rw [uses_text hn, uses_text hd]
            exact ref_eq _ h n d hb.2
      · rw [if_neg h12, show ((atC p (atC p i).b).tag == 12) = false by simpa using h12]; rfl
  · have hc : classAt p (atC p i).a = none := by unfold classAt; rw [if_neg h7]
    rw [hc, show ((atC p (atC p i).a).tag == 7) = false by simpa using h7]; rfl
theorem hold_same {p : List Cst} (h : (∀ i, holdI p i = true) ∨ ∀ i, holdsAt p i = true) (i : Int) : holdI p i = holdsAt p i := by
  have hall : ∀ j, (atC p j).tag = 7 ∨ (atC p j).tag = 12 → holdsAt p j = true := fun j hj => by
    rcases h with h | h
    · rw [← hold_other (by omega)]; exact h j
    · exact h j
  by_cases hr : (atC p i).tag = 9 ∨ (atC p i).tag = 10 ∨ (atC p i).tag = 11
  · exact hold_ref hall hr
  · exact hold_other hr
theorem hold_nought {p : List Cst} {i : Int} (h : (atC p i).tag = 0) : holdI p i = true ∧ holdsAt p i = true := by
  rw [← hold_other (by omega)]
  refine ⟨?_, ?_⟩ <;>
  · unfold holdI
    simp only
    rw [if_neg (by omega), if_neg (by omega), if_neg (by omega), if_neg (by omega), if_neg (by omega)]
theorem all_same (es : List Cst) (n : Nat) (hn : (noC :: es).length = n) : ((List.range n).all fun i => holdI (noC :: es) i) = (List.range n).all (fun i => i == 0 || holdsAt (noC :: es) i) := by
  have h0 : ∀ i : Int, (i ≤ 0 ∨ (n : Int) ≤ i) → (atC (noC :: es) i).tag = 0 := fun i hi => by
    unfold atC
    by_cases hc : 0 ≤ i ∧ i < ((noC :: es).length : Int)
    · obtain rfl : i = 0 := by omega
      rw [if_pos hc]; rfl
    · rw [if_neg hc]; rfl
  have ha : ((List.range n).all fun i => holdI (noC :: es) i) = true ↔ ∀ i, holdI (noC :: es) i = true := by
    rw [List.all_eq_true]
    constructor
    · intro h i
      by_cases hi : i ≤ 0 ∨ (n : Int) ≤ i
      · exact (hold_nought (h0 i hi)).1
      · obtain ⟨j, rfl⟩ : ∃ j : Nat, i = j := ⟨i.toNat, by omega⟩
        exact h j (by simp; omega)
    · intro h i _; exact h i
  have hb : ((List.range n).all (fun i => i == 0 || holdsAt (noC :: es) i)) = true ↔ ∀ i, holdsAt (noC :: es) i = true := by
    rw [List.all_eq_true]
    constructor
    · intro h i
      by_cases hi : i ≤ 0 ∨ (n : Int) ≤ i
      · exact (hold_nought (h0 i hi)).2
      · obtain ⟨j, rfl⟩ : ∃ j : Nat, i = j := ⟨i.toNat, by omega⟩
        have := h j (by simp; omega)
        rw [show (j == 0) = false by simp; omega, Bool.false_or] at this
        exact this
    · intro h i _; rw [h i, Bool.or_true]
  rw [Bool.eq_iff_iff, ha, hb]
  constructor
  · intro h i; rw [← hold_same (.inl h)]; exact h i
  · intro h i; rw [hold_same (.inr h)]; exact h i
end Go.Proofs.YtbdbcalmjbmflaaGreatDoor
