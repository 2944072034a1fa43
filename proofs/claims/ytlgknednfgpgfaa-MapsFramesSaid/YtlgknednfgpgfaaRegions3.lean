/- A region that draws its order, by what is held whatever has come: for operations that make memory, write, and call. Nothing is claimed here. -/
import Derived.Test.YtlgknednfgpgfaaRegions
namespace Go.Proofs.Ytlgknednfgpgfaa
open Go.RowKit

section
variable {P : Program} {ops : Array Oper} {Q : Exit → Act → World → Prop} {sel : Nat → Bool} {val : Nat → Value} {own : List (Option Nat)} {a0 : Act} {S : (Nat → Bool) → (Nat → Value) → World → Prop}

/-- The operation that writes a slot. -/
def owner (own : List (Option Nat)) (s : Nat) : Option Nat := own.getD s none
def fillL (sel : Nat → Bool) (val : Nat → Value) : List (Option Nat) → List Value → List Value
  | some k :: r, x :: xs => (if sel k = true then val k else x) :: fillL sel val r xs
  | none :: r, x :: xs => x :: fillL sel val r xs
  | [], xs => xs
  | _ :: _, [] => []
/-- The slots once some operations have come, each with its value. -/
def actI (own : List (Option Nat)) (a0 : Act) (sel : Nat → Bool) (val : Nat → Value) : Act := { a0 with tmps := (fillL sel val own a0.tmps.toList).toArray }
def upd (val : Nat → Value) (i : Nat) (v : Value) : Nat → Value := fun k => if k = i then v else val k
def come (l : Nat → Bool) (i : Nat) : Nat → Bool := fun k => l k || k == i
def pickI (sel : Nat → Bool) (val : Nat → Value) (o : Option Nat) (x : Value) : Value := match o with
  | some k => if sel k = true then val k else x
  | none => x
theorem fillL_at (sel : Nat → Bool) (val : Nat → Value) : ∀ (own : List (Option Nat)) (xs : List Value) (s : Nat), (fillL sel val own xs)[s]? = xs[s]?.map (pickI sel val (owner own s)) := by
  intro own
  induction own with
  | nil =>
    intro xs s
    have : pickI sel val (owner [] s) = id := by funext x; simp [pickI, owner]
    rw [this]; simp [fillL]
  | cons o r ih =>
    intro xs s
    cases xs with
    | nil => cases o <;> simp [fillL]
    | cons x xs =>
      cases o <;> cases s <;> simp [fillL, owner, pickI, ih] <;> rfl
theorem actI_at (own : List (Option Nat)) (a0 : Act) (sel : Nat → Bool) (val : Nat → Value) (s : Nat) : (actI own a0 sel val).tmps[s]? = a0.tmps[s]?.map (pickI sel val (owner own s)) := by
  simp [actI, fillL_at]
theorem act_ext {a b : Act} (h : a.defers = b.defers) (hs : ∀ s : Nat, a.tmps[s]? = b.tmps[s]?) : a = b := by
  cases a; cases b
  simp only at h hs
  subst h
  congr
  exact Array.ext_getElem? hs
theorem actI_put (i : Nat) (v : Value) (d : Option Nat) (hd : ∀ s, owner own s = some i ↔ d = some s) : (actI own a0 sel val).put d v = actI own a0 (come sel i) (upd val i v) := by
  refine act_ext (by cases d <;> rfl) fun s => ?_
  rw [actI_at]
  by_cases hs : d = some s
  · have ho := (hd s).2 hs
    subst hs
    have h1 := actI_at own a0 sel val s
    simp only [Act.put, Array.getElem?_setIfInBounds_self]
    have hz : (s < (actI own a0 sel val).tmps.size) ↔ s < a0.tmps.size := by
      rcases Nat.lt_or_ge s a0.tmps.size with h | h
      · have : a0.tmps[s]? = some a0.tmps[s] := Array.getElem?_eq_getElem h
        rw [this] at h1
        have := (Array.getElem?_eq_some_iff.1 h1).1
        exact ⟨fun _ => h, fun _ => this⟩
      · rw [Array.getElem?_eq_none h] at h1
        have := Array.getElem?_eq_none_iff.1 h1
        constructor <;> intro <;> omega
    rw [ho]
    by_cases h : s < a0.tmps.size
    · rw [if_pos (hz.2 h), Array.getElem?_eq_getElem h]
      simp [pickI, come, upd]
    · rw [if_neg (fun h' => h (hz.1 h')), Array.getElem?_eq_none (by omega)]
      rfl
  · have ho : owner own s ≠ some i := fun e => hs ((hd s).1 e)
    have h1 : ((actI own a0 sel val).put d v).tmps[s]? = (actI own a0 sel val).tmps[s]? := by
      cases d with
      | none => rfl
      | some t =>
        have : t ≠ s := fun e => hs (by rw [e])
        simp [Act.put, Array.getElem?_setIfInBounds_ne this]
    rw [h1, actI_at]
    congr 1
    funext x
    unfold pickI
    cases hk : owner own s with
    | none => rfl
    | some k =>
      have hne : k ≠ i := fun e => ho (by rw [hk, e])
      simp [come, upd, hne]

def depsOf (o : Oper) : List Nat := (o.after.toList.filter (Region.binds .any)).map (·.on)
/-- The table of the slots' writers fits, and each operation waits for those that write what it looks at. -/
def invOk (ops : Array Oper) (own : List (Option Nat)) : Bool := (List.range ops.size).all fun i => match ops[i]? with
  | some o => (List.range own.length).all (fun s => (owner own s == some i) == (o.dst == some s)) && (match o.dst with | some s => decide (s < own.length) | none => true) &&
      (o.looksAt ops).all (fun s => match owner own s with | some k => (depsOf o).contains k | none => true) && (depsOf o).all (fun k => decide (k < i))
  | none => true
theorem invOk_at (hok : invOk ops own = true) {i : Nat} {o : Oper} (ho : ops[i]? = some o) :
    (∀ s, owner own s = some i ↔ o.dst = some s) ∧ (∀ s ∈ o.looksAt ops, ∀ k, owner own s = some k → k ∈ depsOf o) ∧ ∀ k ∈ depsOf o, k < i := by
  have h := List.all_eq_true.1 hok i (by have := (Array.getElem?_eq_some_iff.1 ho).1; simpa using this)
  rw [ho] at h
  simp only [Bool.and_eq_true] at h
  obtain ⟨⟨⟨h1, h2⟩, h3⟩, h4⟩ := h
  refine ⟨fun s => ?_, fun s hs k hk => ?_, fun k hk => ?_⟩
  · by_cases hs : s < own.length
    · have := List.all_eq_true.1 h1 s (by simpa using hs)
      have h5 : (owner own s == some i) = (o.dst == some s) := by simpa using this
      constructor
      · intro e
        have : (owner own s == some i) = true := by simp [e]
        rw [h5] at this
        simpa using this
      · intro e
        have : (o.dst == some s) = true := by simp [e]
        rw [← h5] at this
        simpa using this
    · constructor
      · intro e
        unfold owner at e
        rw [List.getD_eq_getElem?_getD, List.getElem?_eq_none (by omega)] at e
        cases e
      · intro e
        rw [e] at h2
        have : s < own.length := by simpa using h2
        omega
  · have := List.all_eq_true.1 h3 s hs
    rw [hk] at this
    simpa using this
  · simpa using List.all_eq_true.1 h4 k hk

theorem evalI (sel : Nat → Bool) (o : Oper) (hs : ∀ cs b, o.op ≠ .select cs b) (hl : ∀ s ∈ o.looksAt ops, ∀ k, owner own s = some k → sel k = true) :
    execOp (actI own a0 sel val).eval o = execOp (actI own a0 (fun _ => true) val).eval o ∧
    Region.wanted o (yielded ops (actI own a0 sel val).tmps) = Region.wanted o (yielded ops (actI own a0 (fun _ => true) val).tmps) := by
  have hp : ∀ s ∈ o.looksAt ops, (actI own a0 sel val).tmps[s]? = (actI own a0 (fun _ => true) val).tmps[s]? := fun s h => by
    rw [actI_at, actI_at]
    congr 1
    funext x
    unfold pickI
    cases hk : owner own s with
    | none => rfl
    | some k => simp [hl s h k hk]
  constructor
  · refine execOp_congr o hs fun x hx => ?_
    cases x with
    | tmp s =>
      have := hp s (List.mem_append_left _ (List.mem_filterMap.2 ⟨.tmp s, by simpa using hx, rfl⟩))
      simp only [Act.eval]
      simp [this]
    | _ => rfl
  · unfold Region.wanted
    cases hg : o.guard with
    | none => rfl
    | some gw =>
      obtain ⟨g, want⟩ := gw
      have : yielded ops (actI own a0 sel val).tmps g = yielded ops (actI own a0 (fun _ => true) val).tmps g := by
        unfold yielded
        cases ht : (ops[g]?).bind (·.dst) with
        | none => rfl
        | some t =>
          have := hp t (by simp [Oper.looksAt, hg, ht])
          simp only [Option.bind_some, this]
      simp only [this]

def GivesI (P : Program) (R : Value → World → Prop) : Result Next → Prop
  | .ok (.value v) w' => R v w'
  | .ok (.enter f args) w' => Calls P f args w' fun e w'' => ∃ v, e = .returned v ∧ R v w''
  | .ok .skip w' => R undef w'
  | _ => False
/-- Operation i, once what it waits for has come, keeps what is held. -/
def StepI (P : Program) (ops : Array Oper) (own : List (Option Nat)) (a0 : Act) (S : (Nat → Bool) → (Nat → Value) → World → Prop) (i : Nat) (o : Oper) : Prop :=
  ∀ l val w, S l val w → (∀ k ∈ depsOf o, l k = true) → l i = false →
    (Region.wanted o (yielded ops (actI own a0 (fun _ => true) val).tmps) = true ∧ GivesI P (fun v w' => S (come l i) (upd val i v) w') ((execOp (actI own a0 (fun _ => true) val).eval o).run P w)) ∨
    (Region.wanted o (yielded ops (actI own a0 (fun _ => true) val).tmps) = false ∧ S (come l i) (upd val i undef) w)
def StepsI (P : Program) (ops : Array Oper) (own : List (Option Nat)) (a0 : Act) (S : (Nat → Bool) → (Nat → Value) → World → Prop) : Nat → List Oper → Prop
  | _, [] => True
  | k, o :: r => StepI P ops own a0 S k o ∧ StepsI P ops own a0 S (k + 1) r
theorem stepsI_at : ∀ (l : List Oper) (k : Nat), StepsI P ops own a0 S k l → ∀ j o, l[j]? = some o → StepI P ops own a0 S (k + j) o := by
  intro l
  induction l with
  | nil => intro k _ j o h; simp at h
  | cons x r ih =>
    intro k h j o ho
    cases j with
    | zero => simp at ho; subst ho; exact h.1
    | succ j =>
      have := ih (k + 1) h.2 j o (by simpa using ho)
      rwa [show k + 1 + j = k + (j + 1) by omega] at this

def selOf (l : Array Bool) : Nat → Bool := fun k => l.getD k false
theorem selOf_set {l : Array Bool} {i : Nat} (hi : i < l.size) : selOf (l.setIfInBounds i true) = come (selOf l) i := by
  funext k
  unfold selOf come
  by_cases h : k = i
  · subst h; simp [hi]
  · rw [getD_set_ne false (Ne.symm h)]; simp [h]
/-- How many are still to come. -/
def left (l : Array Bool) : Nat := (l.toList.filter (!·)).length
theorem left_set {l : Array Bool} {i : Nat} (hi : i < l.size) (h : l.getD i true = false) : left (l.setIfInBounds i true) + 1 = left l := by
  unfold left
  rw [Array.toList_setIfInBounds]
  have hi' : i < l.toList.length := by simpa using hi
  have hv : l.toList[i] = false := by simpa [hi] using h
  generalize l.toList = L at *
  clear h hi
  induction L generalizing i with
  | nil => simp at hi'
  | cons x r ih =>
    cases i with
    | zero => simp at hv; subst hv; simp
    | succ i =>
      have := ih (i := i) (by simpa using hi') (by simpa using hv)
      cases x <;> simp [List.set_cons_succ] at this ⊢ <;> omega
theorem left_none {l : Array Bool} (h : left l = 0) : ∀ i, i < l.size → l.getD i false = true := by
  intro i hi
  unfold left at h
  have : l.toList.filter (!·) = [] := List.eq_nil_of_length_eq_zero h
  rw [List.filter_eq_nil_iff] at this
  have h2 := this l[i] (by simp)
  simp at h2
  simp [hi, h2]

theorem invAny (hsel : ∀ (j : Nat) (o : Oper) cs b, ops[j]? = some o → o.op ≠ .select cs b) (hok : invOk ops own = true) (hstep : StepsI P ops own a0 S 0 ops.toList)
    (hend : ∀ l val w, S l val w → (∀ k, k < ops.size → l k = true) → Q .normal (actI own a0 (fun _ => true) val) w) (hown : ∀ s k, owner own s = some k → k < ops.size) :
    ∀ (n : Nat) (l : Array Bool) (val : Nat → Value) (w : World), left l ≤ n → l.size = ops.size → S (selOf l) val w → wpAny P .any ops Q n l (actI own a0 (selOf l) val) w := by
  have done : ∀ (l : Array Bool) (val : Nat → Value) (w : World), l.size = ops.size → S (selOf l) val w → (∀ i, i < l.size → l.getD i false = true) → Q .normal (actI own a0 (selOf l) val) w := fun l val w hl hS hall => by
    have h1 := hend _ _ _ hS (fun k hk => hall k (by omega))
    have h2 : actI own a0 (selOf l) val = actI own a0 (fun _ => true) val := act_ext rfl fun s => by
      rw [actI_at, actI_at]
      congr 1
      funext x
      unfold pickI
      cases hk : owner own s with
      | none => rfl
      | some k => simp [selOf, hall k (by have := hown s k hk; omega)]
    rw [h2]; exact h1
  have full : ∀ (l : Array Bool), l.size = ops.size → Region.ready .any ops l = [] → ∀ i, i < l.size → l.getD i false = true := fun l hl hr i => by
    induction i using Nat.strongRecOn with
    | _ i ih =>
      intro hi
      cases hv : l.getD i false with
      | true => rfl
      | false =>
        exfalso
        obtain ⟨o, ho⟩ : ∃ o, ops[i]? = some o := ⟨_, Array.getElem?_eq_getElem (by omega)⟩
        have h3 := (invOk_at hok ho).2.2
        have : i ∈ Region.ready .any ops l := mem_ready.2 ⟨by simpa [hi] using hv, o, ho, fun e he hb => by
          have hk : e.on ∈ depsOf o := by
            unfold depsOf
            exact List.mem_map.2 ⟨e, List.mem_filter.2 ⟨by simpa using he, hb⟩, rfl⟩
          exact ih e.on (h3 _ hk) (by have := h3 _ hk; omega)⟩
        rw [hr] at this; cases this
  intro n
  induction n with
  | zero =>
    intro l val w hn hl hS
    have hall := left_none (by omega : left l = 0)
    refine ⟨?_, done l val w hl hS hall⟩
    cases hr : Region.ready .any ops l with
    | nil => rfl
    | cons j r =>
      exfalso
      have hj : j ∈ Region.ready .any ops l := by rw [hr]; simp
      obtain ⟨h0, o, ho, _⟩ := mem_ready.1 hj
      have hlt : j < l.size := by rw [hl]; exact (Array.getElem?_eq_some_iff.1 ho).1
      have := hall j hlt
      simp [hlt] at this h0
      rw [this] at h0; cases h0
  | succ n ih =>
    intro l val w hn hl hS
    refine ⟨fun hr => done l val w hl hS (full l hl hr), fun j hj => ?_⟩
    obtain ⟨h0, o, ho, hdep⟩ := mem_ready.1 hj
    have hlt : j < l.size := by rw [hl]; exact (Array.getElem?_eq_some_iff.1 ho).1
    obtain ⟨k1, k2, k3⟩ := invOk_at hok ho
    have hdeps : ∀ k ∈ depsOf o, selOf l k = true := fun k hk => by
      obtain ⟨e, he, rfl⟩ := List.mem_map.1 hk
      obtain ⟨he1, he2⟩ := List.mem_filter.1 he
      exact hdep e (by simpa using he1) he2
    have hst := stepsI_at ops.toList 0 hstep j o (by simpa using ho)
    rw [Nat.zero_add] at hst
    have hj0 : selOf l j = false := by simpa [selOf, hlt] using h0
    obtain ⟨e1, e2⟩ := evalI (val := val) (a0 := a0) (selOf l) o (fun cs b => hsel j o cs b ho) (fun s hs k hk => hdeps k (k2 s hs k hk))
    have hnext : ∀ v w', S (come (selOf l) j) (upd val j v) w' → wpAny P .any ops Q n (l.setIfInBounds j true) ((actI own a0 (selOf l) val).put o.dst v) w' := fun v w' hS' => by
      rw [actI_put j v o.dst k1, ← selOf_set hlt]
      exact ih _ _ _ (by have := left_set hlt h0; omega) (by simpa using hl) (by rw [selOf_set hlt]; exact hS')
    unfold Go.wpOp
    simp only [ho]
    rcases hst _ val w hS hdeps hj0 with ⟨hw, hg⟩ | ⟨hw, hs⟩
    · rw [if_pos (by rw [e2]; exact hw)]
      refine .inl ?_
      unfold Oper.wp
      rw [e1]
      generalize (execOp (actI own a0 (fun _ => true) val).eval o).run P w = r at *
      cases r with
      | ok nx w' =>
        cases nx <;> simp only [GivesI, Oper.upon] at hg ⊢
        case value v => exact hnext _ _ hg
        case skip => exact hnext _ _ hg
        case enter f args =>
          refine hg.mono fun e w'' he => ?_
          obtain ⟨v, rfl, hs⟩ := he
          exact hnext _ _ hs
      | halt x w' => exact hg.elim
    · rw [if_neg (by rw [e2, hw]; decide)]
      exact hnext _ _ hs
/-- THE LAW. -/
theorem wp_region_inv {id : Nat} {w : World} (own : List (Option Nat)) (S : (Nat → Bool) → (Nat → Value) → World → Prop) (hm : P.follows .mixedOrders = true) (hs : Region.noSelect ops = true) (hok : invOk ops own = true)
    (hown : (List.range own.length).all (fun s => match owner own s with | some k => decide (k < ops.size) | none => true) = true)
    (h0 : S (fun _ => false) (fun _ => undef) w.drew) (hstep : StepsI P ops own a0 S 0 ops.toList)
    (hend : ∀ l val w, S l val w → (∀ k, k < ops.size → l k = true) → Q .normal (actI own a0 (fun _ => true) val) w) : (Code.region id ops true).wp P Q a0 w := by
  refine wp_region_any hm ?_
  have hsel : selOf (Array.replicate ops.size false) = fun _ => false := by
    funext k
    unfold selOf
    rcases Nat.lt_or_ge k ops.size with h | h
    · simp [h]
    · simp [Nat.not_lt.2 h]
  have := invAny (Q := Q) (fun j o cs b => Region.noSelect_spec hs j o cs b) hok hstep hend (fun s k hk => by
    rcases Nat.lt_or_ge s own.length with h | h
    · have := List.all_eq_true.1 hown s (by simpa using h)
      rw [hk] at this
      simpa using this
    · unfold owner at hk
      rw [List.getD_eq_getElem?_getD, List.getElem?_eq_none h] at hk; cases hk) ops.size (Array.replicate ops.size false) (fun _ => undef) w.drew (by simp [left]) (by simp) (by rw [hsel]; exact h0)
  rw [hsel] at this
  have ha : actI own a0 (fun _ => false) (fun _ => undef) = a0 := act_ext rfl fun s => by
    rw [actI_at]
    have : pickI (fun _ => false) (fun _ => undef) (owner own s) = _root_.id := by
      funext x; unfold pickI; cases owner own s <;> simp
    rw [this]; simp
  rw [ha] at this
  exact this

/-- A table of values: what has come has its value. -/
def Tab (tbl : List (Nat × Value)) (l : Nat → Bool) (val : Nat → Value) : Prop := ∀ p ∈ tbl, l p.1 = true → val p.1 = p.2
theorem Tab.put {tbl : List (Nat × Value)} {l : Nat → Bool} {val : Nat → Value} (h : Tab tbl l val) {i : Nat} {v : Value} (hv : ∀ p ∈ tbl, p.1 = i → p.2 = v) : Tab tbl (come l i) (upd val i v) := fun p hp hl => by
  unfold upd
  by_cases hi : p.1 = i
  · rw [if_pos hi, hv p hp hi]
  · rw [if_neg hi]
    refine h p hp ?_
    simpa [come, hi] using hl
theorem Tab.start (tbl : List (Nat × Value)) : Tab tbl (fun _ => false) (fun _ => undef) := fun _ _ h => by cases h

/-! ### Steps over a table and a part about the world -/
def Held2 (tbl : List (Nat × Value)) (Wd : (Nat → Bool) → (Nat → Value) → World → Prop) (l : Nat → Bool) (val : Nat → Value) (w : World) : Prop := Tab tbl l val ∧ Wd l val w
theorem stepI_value {tbl : List (Nat × Value)} {Wd : (Nat → Bool) → (Nat → Value) → World → Prop} {i : Nat} {o : Oper} (v : Value) (hv : ∀ p ∈ tbl, p.1 = i → p.2 = v) (hm : ∀ l val w, Wd l val w → Wd (come l i) (upd val i v) w)
    (hw : ∀ l val w, Tab tbl l val → Wd l val w → (∀ k ∈ depsOf o, l k = true) → Region.wanted o (yielded ops (actI own a0 (fun _ => true) val).tmps) = true ∧ (execOp (actI own a0 (fun _ => true) val).eval o).run P w = .ok (.value v) w) :
    StepI P ops own a0 (Held2 tbl Wd) i o := fun l val w hS hd _ => by
  obtain ⟨h1, h2⟩ := hw l val w hS.1 hS.2 hd
  refine .inl ⟨h1, ?_⟩
  rw [h2]
  exact ⟨hS.1.put hv, hm _ _ _ hS.2⟩
theorem stepI_call {tbl : List (Nat × Value)} {Wd : (Nat → Bool) → (Nat → Value) → World → Prop} {i : Nat} {o : Oper} (v : Value) (hv : ∀ p ∈ tbl, p.1 = i → p.2 = v) (hm : ∀ l val w, Wd l val w → Wd (come l i) (upd val i v) w) (f : FuncId) (args : Array Value)
    (hw : ∀ l val w, Tab tbl l val → Wd l val w → (∀ k ∈ depsOf o, l k = true) → Region.wanted o (yielded ops (actI own a0 (fun _ => true) val).tmps) = true ∧ (execOp (actI own a0 (fun _ => true) val).eval o).run P w = .ok (.enter f args) w)
    (hc : ∀ l val w, Wd l val w → Calls P f args w fun e w' => e = .returned v ∧ Wd l val w') :
    StepI P ops own a0 (Held2 tbl Wd) i o := fun l val w hS hd _ => by
  obtain ⟨h1, h2⟩ := hw l val w hS.1 hS.2 hd
  refine .inl ⟨h1, ?_⟩
  rw [h2]
  exact (hc l val w hS.2).mono fun e w' ⟨he, hh⟩ => ⟨v, he, hS.1.put hv, hm _ _ _ hh⟩
/-- An operation of which the table says nothing, that turns the world. -/
theorem stepI_turn {tbl : List (Nat × Value)} {Wd : (Nat → Bool) → (Nat → Value) → World → Prop} {i : Nat} {o : Oper} (hv : ∀ p ∈ tbl, p.1 ≠ i)
    (hw : ∀ l val w, Tab tbl l val → Wd l val w → (∀ k ∈ depsOf o, l k = true) → l i = false → Region.wanted o (yielded ops (actI own a0 (fun _ => true) val).tmps) = true ∧
      ((∃ v w', (execOp (actI own a0 (fun _ => true) val).eval o).run P w = .ok (.value v) w' ∧ Wd (come l i) (upd val i v) w') ∨ ∃ w', (execOp (actI own a0 (fun _ => true) val).eval o).run P w = .ok .skip w' ∧ Wd (come l i) (upd val i undef) w')) :
    StepI P ops own a0 (Held2 tbl Wd) i o := fun l val w hS hd hi => by
  obtain ⟨h1, ⟨v, w', h2, h3⟩ | ⟨w', h2, h3⟩⟩ := hw l val w hS.1 hS.2 hd hi
  · refine .inl ⟨h1, ?_⟩
    rw [h2]
    exact ⟨hS.1.put fun p hp e => absurd e (hv p hp), h3⟩
  · refine .inl ⟨h1, ?_⟩
    rw [h2]
    exact ⟨hS.1.put fun p hp e => absurd e (hv p hp), h3⟩
end
end Go.Proofs.Ytlgknednfgpgfaa
