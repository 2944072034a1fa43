/- A region that draws its order, where each operation gives one value in every world that meets S (a load, a test, a call by its contract): the order of the text stands for all orders. Nothing is claimed here. -/
import Derived.Test.YtlgknednfgpgfaaMem
import Derived.OrdersHeld
import Derived.Deep.RegionHeld
namespace Go.Proofs.Ytlgknednfgpgfaa
open Go.RowKit

section
variable {P : Program} {ops : Array Oper} {Q : Exit → Act → World → Prop} {md : Region.Mode} {S : World → Prop} {T : Act → Prop}

/-- What is run gives v, and leaves a world that meets S. -/
def Gives (P : Program) (S : World → Prop) (v : Value) : Result Next → Prop
  | .ok (.value u) w' => u = v ∧ S w'
  | .ok (.enter f args) w' => Calls P f args w' fun e w'' => e = .returned v ∧ S w''
  | _ => False
/-- In this state the operation gives v in every world that meets S; or its guard leaves it out. -/
def GivesIn (P : Program) (ops : Array Oper) (S : World → Prop) (o : Oper) (v : Value) (a : Act) : Prop :=
  (Region.wanted o (yielded ops a.tmps) = true ∧ ∀ w, S w → Gives P S v ((execOp a.eval o).run P w)) ∨ (Region.wanted o (yielded ops a.tmps) = false ∧ v = undef)
theorem GivesIn.of_same {o : Oper} {v : Value} {a a' : Act} (hy : GivesIn P ops S o v a) (he : execOp a'.eval o = execOp a.eval o)
    (hw : Region.wanted o (yielded ops a'.tmps) = Region.wanted o (yielded ops a.tmps)) : GivesIn P ops S o v a' := by
  unfold GivesIn at *
  rw [he, hw]
  exact hy
theorem GivesIn.wpOp {i : Nat} {o : Oper} {v : Value} {a : Act} (hi : ops[i]? = some o) (hy : GivesIn P ops S o v a) {K : Act → World → Prop} {w : World} (hS : S w)
    (h : ∀ w', S w' → K (a.put o.dst v) w') : wpOp P ops Q i K a w := by
  unfold Go.wpOp
  simp only [hi]
  rcases hy with ⟨hw, hv⟩ | ⟨hw, rfl⟩
  · simp only [hw, if_true]
    refine .inl ?_
    have h2 := hv w hS
    unfold Oper.wp
    generalize (execOp a.eval o).run P w = r at *
    cases r with
    | ok n w' =>
      cases n <;> simp only [Gives, Oper.upon] at h2 ⊢
      case value u => exact h2.1 ▸ h _ h2.2
      case enter f args =>
        refine h2.mono fun e w'' he => ?_
        obtain ⟨rfl, hs⟩ := he
        exact h _ hs
    | halt x w' => exact h2.elim
  · simp only [hw, Bool.false_eq_true, if_false]; exact h _ hS

/-- Whoever could come before number i is apart from it, or waits for it. -/
def Freed (md : Region.Mode) (ops : Array Oper) (listed : Array Bool) (i : Nat) (o : Oper) : Prop :=
  ∀ k ok, ops[k]? = some ok → k ≠ i → listed.getD k true = false → (∀ e ∈ ok.after, Region.binds md e = true → e.on ≠ i) → o.apart ops ok = true
theorem Freed.more {listed : Array Bool} {i j : Nat} {o : Oper} (h : Freed md ops listed i o) (hj : listed.getD j true = false) : Freed md ops (listed.setIfInBounds j true) i o := fun k ok hk hki hun hno => by
  refine h k ok hk hki ?_ hno
  by_cases hjk : j = k
  · subst hjk; exact hj
  · rw [getD_set_ne true hjk] at hun; exact hun

/-- One order that goes through: each operation is free where it comes. -/
def Chain (P : Program) (md : Region.Mode) (ops : Array Oper) (S : World → Prop) (T : Act → Prop) : Nat → Array Bool → Act → Prop
  | 0, listed, a => Region.ready md ops listed = [] ∧ T a
  | n + 1, listed, a => ∃ i o v, ops[i]? = some o ∧ i ∈ Region.ready md ops listed ∧ Freed md ops listed i o ∧ GivesIn P ops S o v a ∧ Chain P md ops S T n (listed.setIfInBounds i true) (a.put o.dst v)

/-- Whichever may come up can be drawn to the head. -/
theorem Chain.pull (hsel : ∀ (j : Nat) (o : Oper) cs b, ops[j]? = some o → o.op ≠ .select cs b) : ∀ (n : Nat) (listed : Array Bool) (a : Act) (j : Nat), Chain P md ops S T n listed a → j ∈ Region.ready md ops listed →
    ∃ o u m, n = m + 1 ∧ ops[j]? = some o ∧ GivesIn P ops S o u a ∧ Chain P md ops S T m (listed.setIfInBounds j true) (a.put o.dst u) := by
  intro n
  induction n with
  | zero => intro listed a j h hj; rw [h.1] at hj; cases hj
  | succ n ih =>
    intro listed a j h hj
    obtain ⟨i, oi, v, hi, hr, hf, hy, hc⟩ := h
    by_cases hji : j = i
    · subst hji; exact ⟨oi, v, n, rfl, hi, hy, hc⟩
    · obtain ⟨oj, u, m, rfl, hoj, hyj, hcj⟩ := ih _ _ j hc (ready_mono hj hji)
      obtain ⟨hjun, oj', hoj', hall⟩ := mem_ready.1 hj
      obtain rfl : oj' = oj := Option.some.inj (hoj'.symm.trans hoj)
      have hnot : ∀ e ∈ oj'.after, Region.binds md e = true → e.on ≠ i := fun e he hb heq => by
        have h1 := hall e he hb
        have h0 := (mem_ready.1 hr).1
        rw [heq] at h1
        rcases Nat.lt_or_ge i listed.size with h' | h'
        · simp [h'] at h0 h1; rw [h0] at h1; cases h1
        · simp [Array.getElem?_eq_none h'] at h1
      obtain ⟨h1, h2, h3⟩ := Oper.apart_spec (hf j oj' hoj hji hjun hnot)
      have hyj' : GivesIn P ops S oj' u a := hyj.of_same (execOp_put oj' (fun cs b => hsel j oj' cs b hoj) a oi.dst v h1).symm (wanted_put oj' a oi.dst v h1).symm
      have hyi' : GivesIn P ops S oi v (a.put oj'.dst u) := hy.of_same (execOp_put oi (fun cs b => hsel i oi cs b hi) a oj'.dst u h3) (wanted_put oi a oj'.dst u h3)
      refine ⟨oj', u, m + 1, rfl, hoj, hyj', i, oi, v, hi, ready_mono hr (Ne.symm hji), hf.more hjun, hyi', ?_⟩
      rw [Array.setIfInBounds_comm _ _ hji, ← Act.put_comm a v u h2]
      exact hcj

theorem Chain.all (hsel : ∀ (j : Nat) (o : Oper) cs b, ops[j]? = some o → o.op ≠ .select cs b) : ∀ (n : Nat) (listed : Array Bool) (a : Act),
    Chain P md ops S (fun a => ∀ w, S w → Q .normal a w) n listed a → ∀ w, S w → wpAny P md ops Q n listed a w := by
  intro n
  induction n with
  | zero => intro listed a h w hS; exact ⟨h.1, h.2 w hS⟩
  | succ n ih =>
    intro listed a h w hS
    refine ⟨fun h0 => ?_, fun j hj => ?_⟩
    · obtain ⟨i, _, _, _, hr, _⟩ := h
      rw [h0] at hr; cases hr
    · obtain ⟨o, u, m, hm, ho, hy, hc⟩ := Chain.pull hsel _ _ _ j h hj
      cases hm
      exact hy.wpOp ho hS fun w' hS' => ih _ _ hc w' hS'

/-- The first k have come. -/
def mask (n k : Nat) : Array Bool := (List.replicate k true ++ List.replicate (n - k) false).toArray
/-- In the order of the text each operation may come up and is free. -/
def textOk (ops : Array Oper) : Bool := (List.range ops.size).all fun k => (Region.ready .any ops (mask ops.size k)).contains k && Region.free .any ops (mask ops.size k) k
/-- The operations in the order of the text, each giving its value. -/
def Text (P : Program) (ops : Array Oper) (S : World → Prop) (T : Act → Prop) : List Oper → Act → Prop
  | [], a => T a
  | o :: rest, a => ∃ v, GivesIn P ops S o v a ∧ Text P ops S T rest (a.put o.dst v)
theorem mask_set (n k : Nat) (h : k < n) : (mask n k).setIfInBounds k true = mask n (k + 1) := by
  unfold mask
  apply Array.toList_inj.1
  simp only [Array.toList_setIfInBounds]
  obtain ⟨m, rfl⟩ : ∃ m, n = k + 1 + m := ⟨n - (k + 1), by omega⟩
  rw [show k + 1 + m - k = m + 1 by omega, show k + 1 + m - (k + 1) = m by omega, List.replicate_succ, List.replicate_succ']
  rw [List.set_append_right _ _ (by simp)]
  simp
theorem mask_end (n k : Nat) (h : n ≤ k) (ops : Array Oper) (hn : ops.size = n) : Region.ready .any ops (mask n k) = [] := by
  cases hr : Region.ready .any ops (mask n k) with
  | nil => rfl
  | cons j l =>
    have hj : j ∈ Region.ready .any ops (mask n k) := by rw [hr]; simp
    obtain ⟨h0, o, ho, _⟩ := mem_ready.1 hj
    have hlt : j < ops.size := (Array.getElem?_eq_some_iff.1 ho).1
    have : (mask n k).getD j true = true := by
      unfold mask
      rw [show n - k = 0 by omega]
      simp [show j < k by omega]
    rw [this] at h0; cases h0
theorem chain_of_text (hok : textOk ops = true) : ∀ (rest : List Oper) (k : Nat) (a : Act), ops.toList.drop k = rest → Text P ops S T rest a → Chain P .any ops S T rest.length (mask ops.size k) a := by
  intro rest
  induction rest with
  | nil =>
    intro k a hd h
    have : ops.size ≤ k := by simpa using hd
    exact ⟨mask_end _ _ this ops rfl, h⟩
  | cons o rest ih =>
    intro k a hd h
    obtain ⟨v, hy, hc⟩ := h
    have hk : k < ops.size := by
      rcases Nat.lt_or_ge k ops.size with h' | h'
      · exact h'
      · rw [List.drop_eq_nil_of_le (by simpa using h')] at hd; cases hd
    have hd2 := List.drop_eq_getElem_cons (l := ops.toList) (i := k) (by simpa using hk)
    rw [hd] at hd2
    injection hd2 with e1 e2
    have ho : ops[k]? = some o := by rw [Array.getElem?_eq_getElem hk, e1]; simp
    have h2 := List.all_eq_true.1 hok k (by simpa using hk)
    simp only [Bool.and_eq_true] at h2
    refine ⟨k, o, v, ho, by simpa using h2.1, fun j oj hj hne hun hno => Region.free_spec ho h2.2 j oj hj hne hun hno, hy, ?_⟩
    rw [mask_set _ _ hk]
    exact ih (k + 1) _ e2.symm hc
/-- THE LAW. -/
theorem wp_region_text {id : Nat} {a : Act} {w : World} (S : World → Prop) (hm : P.follows .mixedOrders = true) (hs : Region.noSelect ops = true) (hok : textOk ops = true) (hS : S w.drew)
    (h : Text P ops S (fun a => ∀ w, S w → Q .normal a w) ops.toList a) : (Code.region id ops true).wp P Q a w := by
  refine wp_region_any hm ?_
  have hc := chain_of_text hok ops.toList 0 a rfl h
  have h0 : mask ops.size 0 = Array.replicate ops.size false := by
    apply Array.toList_inj.1
    simp [mask]
  rw [h0, Array.length_toList] at hc
  exact Chain.all (fun j o cs b => Region.noSelect_spec hs j o cs b) _ _ _ hc _ hS

/-! ### The steps -/
theorem text_end {a : Act} (h : T a) : Text P ops S T [] a := h
theorem text_value {o : Oper} {rest : List Oper} {a : Act} {v : Value} (hw : Region.wanted o (yielded ops a.tmps) = true) (hy : ∀ w, S w → (execOp a.eval o).run P w = .ok (.value v) w)
    (h : Text P ops S T rest (a.put o.dst v)) : Text P ops S T (o :: rest) a := ⟨v, .inl ⟨hw, fun w hS => by rw [hy w hS]; exact ⟨rfl, hS⟩⟩, h⟩
theorem text_call {o : Oper} {rest : List Oper} {a : Act} {v : Value} {f : FuncId} {args : Array Value} (hw : Region.wanted o (yielded ops a.tmps) = true) (hy : ∀ w, S w → (execOp a.eval o).run P w = .ok (.enter f args) w)
    (hc : ∀ w, S w → Calls P f args w fun e w' => e = .returned v ∧ S w') (h : Text P ops S T rest (a.put o.dst v)) : Text P ops S T (o :: rest) a := ⟨v, .inl ⟨hw, fun w hS => by rw [hy w hS]; exact hc w hS⟩, h⟩
theorem text_skip {o : Oper} {rest : List Oper} {a : Act} (hw : Region.wanted o (yielded ops a.tmps) = false) (h : Text P ops S T rest (a.put o.dst undef)) : Text P ops S T (o :: rest) a := ⟨undef, .inr ⟨hw, rfl⟩, h⟩
end
end Go.Proofs.Ytlgknednfgpgfaa
