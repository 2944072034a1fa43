/- Texts of one stage, merged. Nothing is claimed here. -/
import Derived.Test.YtbdbcalmjbmflaaGreatDoorPackF
import Derived.Test.YtbdbcalmjbmflaaGreatDoorPackA
import Derived.Test.YtbdbcalmjbmflaaGreatDoorPackE
import Derived.Test.YtbdbcalmjbmflaaGreatDoorPackG
namespace Go.Proofs.YtbdbcalmjbmflaaGreatDoor
open Go.RowKit

/-- What a reading is told as. -/
def PTold (o : Option (List Cst × Nat)) (g gb : Nat) (xs : List Int) (k : Nat) (w : World) (e : Ending) (w' : World) : Prop :=
  w.grownBy w' (some g) ∧ ((o = none ∧ ∃ v, e = .returned (.tuple #[v, .bool false])) ∨
    ∃ ps m A' c', o = some (ps, m) ∧ e = .returned (.tuple #[.slice A' ps.length c', .bool true]) ∧ RdC w' w'.heap.size A' ps.length ps ∧ Cur w' g gb xs (k + m) false ∧ CWf ps)
def ReadsPool : Prop := ∀ (g gb : Nat) (xs : List Int) (k : Nat) (w : World), Maxed w → Cur w g gb xs k false → Calls Tryz.prog 32 #[.pointer (some ⟨g, 0, none⟩)] w (PTold (pool (xs.drop k)) g gb xs k w)
def SaysText : Prop := ∀ (A : Option Addr) (n c : Nat) (ps : List Cst) (i : Int) (w : World), RdC w w.heap.size A n ps → Calls Tryz.prog 66 #[.slice A n c, .int .i64 i] w fun e w' => e = .returned (textV (textAt ps i)) ∧ Below w.heap.size w w'
def SaysClass : Prop := ∀ (A : Option Addr) (n c : Nat) (ps : List Cst) (i : Int) (w : World), RdC w w.heap.size A n ps → Calls Tryz.prog 48 #[.slice A n c, .int .i64 i] w fun e w' => e = .returned (textV (classAt ps i)) ∧ Below w.heap.size w w'
def SaysMember : Prop := ∀ (A : Option Addr) (n c : Nat) (ps : List Cst) (i : Int) (w : World), RdC w w.heap.size A n ps → Calls Tryz.prog 166 #[.slice A n c, .int .i64 i] w fun e w' => e = .returned (memberV (memberAt ps i)) ∧ Below w.heap.size w w'

theorem pool_begun : pool [0, 3, 1, 0, 1, 97, 7, 0, 1, 9] = some ([noC, ⟨1, [97], 0, 0, 0⟩, ⟨7, [], 0, 1, 0⟩], 9) := by kernel_rfl
theorem class_begun : textV (classAt [noC, ⟨1, [97], 0, 0, 0⟩, ⟨7, [], 0, 1, 0⟩] 2) = .tuple #[.string ⟨#[97]⟩, .bool true] := by kernel_rfl

end Go.Proofs.YtbdbcalmjbmflaaGreatDoor
namespace Go.Proofs.YtbdbcalmjbmflaaGreatDoor
open Go.RowKit

def itemB (i : Nat) (l : Bool) : List Int := if l then [5, 0, 0, 0, 0, 0, 0, 0, (i : Int)] else [1, 0, 1, 97 + ((i % 26 : Nat) : Int)]
def itemC (i : Nat) (l : Bool) : List Cst := if l then [⟨5, [], i, 0, 0⟩, noC] else [⟨1, [97 + ((i % 26 : Nat) : Int)], 0, 0, 0⟩]
def bodyB (i : Nat) : List Bool → List Int
  | [] => []
  | l :: r => itemB i l ++ bodyB (i + 1) r
def bodyC (i : Nat) : List Bool → List Cst
  | [] => []
  | l :: r => itemC i l ++ bodyC (i + 1) r
theorem long_entry (i : Nat) (hi : i < 256) (t : List Int) : entry1 (5 :: 0 :: 0 :: 0 :: 0 :: 0 :: 0 :: 0 :: (i : Int) :: t) = some (⟨5, [], i, 0, 0⟩, 9) := by
  rw [e5_yes _ (by simp)]
  have h : be (List.take 8 ((0 : Int) :: 0 :: 0 :: 0 :: 0 :: 0 :: 0 :: (i : Int) :: t)) = i := by simp [be]
  rw [h]
  have : sgn 64 (i : Int) = i := by unfold sgn; rw [if_neg (by omega)]
  rw [this]
theorem text_entry (c : Int) (t : List Int) : entry1 (1 :: 0 :: 1 :: c :: t) = some (⟨1, [c], 0, 0, 0⟩, 4) := by
  have h : be (List.take 2 ((0 : Int) :: 1 :: c :: t)) = 1 := by simp [be]
  rw [e1_yes _ (by simp) (by rw [h]; simp), h]
  simp
theorem body_read (bs : List Bool) : ∀ (i : Nat) (rest : List Int), i + bs.length ≤ 256 → entries (bodyC i bs).length (bodyB i bs ++ rest) = some (bodyC i bs, (bodyB i bs).length) := by
  induction bs with
  | nil => intro i rest _; exact entries_zero _
  | cons l r ih =>
    intro i rest h
    have h' : i + 1 + r.length ≤ 256 := by simp at h; omega
    have hi : i < 256 := by simp at h; omega
    have IH := ih (i + 1) rest h'
    cases l
    · show entries ((bodyC (i + 1) r).length + 1) (1 :: 0 :: 1 :: (97 + ((i % 26 : Nat) : Int)) :: (bodyB (i + 1) r ++ rest)) = _
      rw [entries_one (text_entry _ _) (by show (1 : Int) ≠ 5; decide)]
      show (entries _ (bodyB (i + 1) r ++ rest)).map _ = _
      rw [IH]
      simp [bodyC, bodyB, itemC, itemB]; omega
    · show entries ((bodyC (i + 1) r).length + 2) (5 :: 0 :: 0 :: 0 :: 0 :: 0 :: 0 :: 0 :: (i : Int) :: (bodyB (i + 1) r ++ rest)) = _
      rw [entries_long (long_entry i hi _) rfl]
      show (entries _ (bodyB (i + 1) r ++ rest)).map _ = _
      rw [IH]
      simp [bodyC, bodyB, itemC, itemB]; omega
theorem dec_letter : ∀ j : Fin 26, (dec [97 + ((j.val : Nat) : Int)]).isSome = true := by decide +kernel
theorem body_fine (bs : List Bool) : ∀ (i : Nat) (e : Cst), e ∈ bodyC i bs → e.tag = 0 ∨ e.tag = 5 ∨ (e.tag = 1 ∧ (dec e.text).isSome = true) := by
  induction bs with
  | nil => intro i e h; cases h
  | cons l r ih =>
    intro i e h
    rcases List.mem_append.1 (show e ∈ itemC i l ++ bodyC (i + 1) r from h) with h | h
    · cases l
      · obtain rfl : e = _ := by simpa [itemC] using h
        exact .inr (.inr ⟨rfl, dec_letter ⟨i % 26, Nat.mod_lt _ (by decide)⟩⟩)
      · rcases (by simpa [itemC] using h : e = _ ∨ e = _) with rfl | rfl
        · exact .inr (.inl rfl)
        · exact .inl rfl
    · exact ih (i + 1) e h
theorem atC_mem {p : List Cst} (i : Int) : atC p i = noC ∨ atC p i ∈ p := by
  unfold atC
  split
  · rename_i hi
    right
    have hj : i.toNat < p.length := by omega
    have : p.getD i.toNat noC = p[i.toNat] := by simp [List.getD, hj]
    rw [this]
    exact List.getElem_mem hj
  · exact .inl rfl
theorem fine_holds {p : List Cst} (h : ∀ e ∈ p, e.tag = 0 ∨ e.tag = 5 ∨ (e.tag = 1 ∧ (dec e.text).isSome = true)) (i : Int) : holdsAt p i = true := by
  have h1 : (atC p i).tag = 0 ∨ (atC p i).tag = 5 ∨ ((atC p i).tag = 1 ∧ (dec (atC p i).text).isSome = true) := by
    rcases atC_mem (p := p) i with e | e
    · rw [e]; exact .inl rfl
    · exact h _ e
  unfold holdsAt
  rcases h1 with h1 | h1 | ⟨h1, h2⟩
  · simp [h1]
  · simp [h1]
  · simp [h1, h2]
theorem bodyC_len (bs : List Bool) : ∀ i, (bodyC i bs).length ≤ 2 * bs.length := by
  induction bs with
  | nil => intro i; exact Nat.le_refl _
  | cons l r ih => intro i; have := ih (i + 1); cases l <;> simp [bodyC, itemC] <;> omega
theorem texts_pool (bs : List Bool) (h : bs.length ≤ 60) (n : Nat) (hn : n = (bodyC 0 bs).length + 1) :
    pool (((n / 256 : Nat) : Int) :: ((n % 256 : Nat) : Int) :: bodyB 0 bs) = some (noC :: bodyC 0 bs, 2 + (bodyB 0 bs).length) := by
  have hl := bodyC_len bs 0
  have hb : beL (List.take 2 (((n / 256 : Nat) : Int) :: ((n % 256 : Nat) : Int) :: bodyB 0 bs)) = n := by
    show be _ = _
    simp [be]; omega
  unfold pool
  rw [if_neg (by simp), hb, if_neg (by omega), Int.toNat_natCast]
  have hr := body_read bs 0 [] (by omega)
  rw [List.append_nil] at hr
  have hd : List.drop 2 (((n / 256 : Nat) : Int) :: ((n % 256 : Nat) : Int) :: bodyB 0 bs) = bodyB 0 bs := rfl
  rw [hd, show n - 1 = (bodyC 0 bs).length by omega, hr]
  have ha : (List.range n).all (fun (i : Nat) => i == 0 || holdsAt (noC :: bodyC 0 bs) i) = true := by
    rw [List.all_eq_true]
    intro i _
    rw [fine_holds (fun e he => by
      rcases List.mem_cons.1 he with rfl | he
      · exact .inl rfl
      · exact body_fine bs 0 e he) i]
    simp
  show (if (List.range n).all (fun (i : Nat) => i == 0 || holdsAt (noC :: bodyC 0 bs) i) = true then _ else _) = _
  rw [if_pos ha]
theorem bodyB_app (a : List Bool) : ∀ (i : Nat) (b : List Bool), bodyB i (a ++ b) = bodyB i a ++ bodyB (i + a.length) b := by
  induction a with
  | nil => intro i b; rfl
  | cons l r ih =>
    intro i b
    show itemB i l ++ bodyB (i + 1) (r ++ b) = itemB i l ++ bodyB (i + 1) r ++ _
    rw [ih, List.append_assoc]; simp only [List.length_cons, Nat.add_assoc, Nat.add_comm 1]
theorem bodyC_app (a : List Bool) : ∀ (i : Nat) (b : List Bool), bodyC i (a ++ b) = bodyC i a ++ bodyC (i + a.length) b := by
  induction a with
  | nil => intro i b; rfl
  | cons l r ih =>
    intro i b
    show itemC i l ++ bodyC (i + 1) (r ++ b) = itemC i l ++ bodyC (i + 1) r ++ _
    rw [ih, List.append_assoc]; simp only [List.length_cons, Nat.add_assoc, Nat.add_comm 1]
theorem bodyB_succ (g : Nat → Bool) (k : Nat) : bodyB 0 ((List.range (k + 1)).map g) = bodyB 0 ((List.range k).map g) ++ itemB k (g k) := by
  rw [List.range_succ, List.map_append, bodyB_app]; simp [bodyB]
theorem bodyC_succ (g : Nat → Bool) (k : Nat) : bodyC 0 ((List.range (k + 1)).map g) = bodyC 0 ((List.range k).map g) ++ itemC k (g k) := by
  rw [List.range_succ, List.map_append, bodyC_app]; simp [bodyC]
theorem bodyC_at (g : Nat → Bool) (n : Nat) : ∀ k, k < n → ∃ t, bodyC 0 ((List.range n).map g) = bodyC 0 ((List.range k).map g) ++ (itemC k (g k) ++ t) := by
  induction n with
  | zero => intro k h; omega
  | succ n ih =>
    intro k h
    rw [bodyC_succ]
    by_cases e : k = n
    · subst e; exact ⟨[], by rw [List.append_nil]⟩
    · obtain ⟨t, ht⟩ := ih k (by omega)
      exact ⟨t ++ itemC n (g n), by rw [ht]; simp only [List.append_assoc]⟩
theorem bodyB_len (bs : List Bool) : ∀ i, (bodyB i bs).length ≤ 9 * bs.length := by
  induction bs with
  | nil => intro i; exact Nat.le_refl _
  | cons l r ih => intro i; have := ih (i + 1); cases l <;> simp [bodyB, itemB] <;> omega
theorem bodyB_bytes (bs : List Bool) : ∀ i, i + bs.length ≤ 256 → IsBytes (bodyB i bs) := by
  induction bs with
  | nil => intro i _ x hx; cases hx
  | cons l r ih =>
    intro i h x hx
    have h' : i + 1 + r.length ≤ 256 := by simp at h; omega
    rcases List.mem_append.1 (show x ∈ itemB i l ++ bodyB (i + 1) r from hx) with hx | hx
    · cases l <;> simp [itemB] at hx <;> omega
    · exact ih (i + 1) h' x hx
end Go.Proofs.YtbdbcalmjbmflaaGreatDoor
namespace Go.Proofs.YtbdbcalmjbmflaaGreatDoor
open Go.RowKit

theorem grown_new {a w : World} {r : Option Nat} (h : a.grownBy w r) (o : Obj) : a.grownBy (w.alloc o) r := grown_trans h (grown_below ((Below.refl _ _).alloc (Nat.le_refl _) o) r)
theorem grown_drew {a w : World} {r : Option Nat} (h : a.grownBy w r) : a.grownBy w.drew r := grown_trans h (grown_below (Below.refl _ _).drew r)
theorem Cur.set {w : World} {g gb : Nat} {xs : List Int} {k : Nat} {bad : Bool} {q : Nat} {cs : List Value} (h : Cur w g gb xs k bad) (hq : At w q 109 cs) (i : Nat) (v : Value) : Cur (w.setCell ⟨q, i, none⟩ v) g gb xs k bad :=
  ⟨h.1.far (p := ⟨q, i, none⟩) (h.1.ne hq (by decide)) v, h.2.1.far (p := ⟨q, i, none⟩) (h.2.1.ne hq (by decide)) v, h.2.2⟩
/-- What one entry is told as. -/
def NTold (o : Option (Cst × Nat)) (g gb : Nat) (xs : List Int) (k : Nat) (w : World) (e : Ending) (w' : World) : Prop :=
  w.grownBy w' (some g) ∧ ((o = none ∧ ∃ x0 x1 x2 x3 x4, e = .returned (.tuple #[.agg #[.int .i64 x0, .string x1, .int .i64 x2, .int .i64 x3, .int .i64 x4], .bool false])) ∨
    ∃ x m, o = some (x, m) ∧ e = .returned (.tuple #[.agg #[.int .i64 x.tag, .string (strOfNums x.text), .int .i64 x.num, .int .i64 x.a, .int .i64 x.b], .bool true]) ∧ Cur w' g gb xs (k + m) false)
theorem c5_of {w : World} {g : Nat} {t : TypeId} {a b c d e : Value} (hh : At w g t [a, b, c, d, e]) : w.cell? ⟨g, 0, none⟩ = some a ∧ w.cell? ⟨g, 1, none⟩ = some b ∧ w.cell? ⟨g, 2, none⟩ = some c ∧ w.cell? ⟨g, 3, none⟩ = some d ∧ w.cell? ⟨g, 4, none⟩ = some e ∧
    w.frozen? ⟨g, 0, none⟩ = false ∧ w.frozen? ⟨g, 1, none⟩ = false ∧ w.frozen? ⟨g, 2, none⟩ = false ∧ w.frozen? ⟨g, 3, none⟩ = false ∧ w.frozen? ⟨g, 4, none⟩ = false :=
  ⟨hh.cell 0, hh.cell 1, hh.cell 2, hh.cell 3, hh.cell 4, hh.free 0, hh.free 1, hh.free 2, hh.free 3, hh.free 4⟩
def put5 (g : Nat) (a b c d e : Value) (W : World) : World := ((((W.setCell ⟨g, 0, none⟩ a).setCell ⟨g, 1, none⟩ b).setCell ⟨g, 2, none⟩ c).setCell ⟨g, 3, none⟩ d).setCell ⟨g, 4, none⟩ e
theorem put5_at {w : World} {g : Nat} {t : TypeId} {a b c d e a' b' c' d' e' : Value} (h : At w g t [a, b, c, d, e]) : At (put5 g a' b' c' d' e' w) g t [a', b', c', d', e'] := ((((h.set 0 a').set 1 b').set 2 c').set 3 d').set 4 e'
theorem put5_grown {a0 w : World} {r g : Nat} {a b c d e : Value} (h : a0.grownBy w (some r)) (hg : a0.heap.size ≤ g) : a0.grownBy (put5 g a b c d e w) (some r) :=
  grown_set (grown_set (grown_set (grown_set (grown_set h hg 0 a) hg 1 b) hg 2 c) hg 3 d) hg 4 e
theorem put5_cur {w : World} {g gb : Nat} {xs : List Int} {k : Nat} {bad : Bool} {q : Nat} {a b c d e a' b' c' d' e' : Value} (h : Cur w g gb xs k bad) (hq : At w q 109 [a, b, c, d, e]) : Cur (put5 q a' b' c' d' e' w) g gb xs k bad := by
  have h0 := h.set hq 0 a'
  have q0 := hq.set 0 a'
  have h1 := h0.set q0 1 b'
  have q1 := q0.set 1 b'
  have h2 := h1.set q1 2 c'
  have q2 := q1.set 2 c'
  have h3 := h2.set q2 3 d'
  have q3 := q2.set 3 d'
  exact h3.set q3 4 e'
/-- The last region: the entry is put out, and whether all reads were good. -/
def NBase (w : World) (g gb g2 g4 : Nat) (xs : List Int) (k : Nat) (bad : Bool) (x0 : Int) (x1 : ByteArray) (x2 x3 x4 : Int) (W : World) : Prop :=
  Cur W g gb xs k bad ∧ At W g4 109 [.int .i64 x0, .string x1, .int .i64 x2, .int .i64 x3, .int .i64 x4] ∧ (∃ a b c d e, At W g2 109 [a, b, c, d, e]) ∧ w.grownBy W (some g) ∧ w.heap.size ≤ g2 ∧ g2 ≠ g4
theorem nbase_put {w W : World} {g gb g2 g4 : Nat} {xs : List Int} {k : Nat} {bad : Bool} {x0 : Int} {x1 : ByteArray} {x2 x3 x4 : Int} {a b c d e : Value} (h : NBase w g gb g2 g4 xs k bad x0 x1 x2 x3 x4 W) :
    NBase w g gb g2 g4 xs k bad x0 x1 x2 x3 x4 (put5 g2 a b c d e W) ∧ At (put5 g2 a b c d e W) g2 109 [a, b, c, d, e] := by
  obtain ⟨h0, h1, ⟨_, _, _, _, _, h2⟩, h3, h4, h5⟩ := h
  refine ⟨⟨put5_cur h0 h2, ?_, ⟨_, _, _, _, _, put5_at h2⟩, put5_grown h3 h4, h4, h5⟩, put5_at h2⟩
  exact ((((h1.far (p := ⟨g2, 0, none⟩) (Ne.symm h5) a).far (p := ⟨g2, 1, none⟩) (Ne.symm h5) b).far (p := ⟨g2, 2, none⟩) (Ne.symm h5) c).far (p := ⟨g2, 3, none⟩) (Ne.symm h5) d).far (p := ⟨g2, 4, none⟩) (Ne.symm h5) e
theorem nbase_drew {w W : World} {g gb g2 g4 : Nat} {xs : List Int} {k : Nat} {bad : Bool} {x0 : Int} {x1 : ByteArray} {x2 x3 x4 : Int} (h : NBase w g gb g2 g4 xs k bad x0 x1 x2 x3 x4 W) : NBase w g gb g2 g4 xs k bad x0 x1 x2 x3 x4 W.drew := by
  obtain ⟨h0, h1, h2, h3, h4, h5⟩ := h
  exact ⟨h0, h1, h2, grown_drew h3, h4, h5⟩
section
variable {w W w' : World} {g gb g2 g4 : Nat} {xs : List Int} {k k' : Nat} {bad bad' : Bool} {x0 : Int} {x1 : ByteArray} {x2 x3 x4 : Int}
theorem nbase_call (h : NBase w g gb g2 g4 xs k bad x0 x1 x2 x3 x4 W) (hc : Cur w' g gb xs k' bad') (hg : W.grownBy w' (some g)) : NBase w g gb g2 g4 xs k' bad' x0 x1 x2 x3 x4 w' := by
  obtain ⟨h0, h1, ⟨a, b, c, d, e, h2⟩, h3, h4, h5⟩ := h
  have n1 : g4 ≠ g := Ne.symm (h0.1.ne h1 (by decide))
  have n2 : g2 ≠ g := Ne.symm (h0.1.ne h2 (by decide))
  exact ⟨hc, h1.grown hg (by simpa using n1), ⟨a, b, c, d, e, h2.grown hg (by simpa using n2)⟩, grown_trans h3 hg, h4, h5⟩
theorem nbase_set (h : NBase w g gb g2 g4 xs k bad x0 x1 x2 x3 x4 W) (hz : w.heap.size ≤ g4) (i : Nat) (v : Value) {y0 : Int} {y1 : ByteArray} {y2 y3 y4 : Int}
    (he : [Value.int .i64 x0, .string x1, .int .i64 x2, .int .i64 x3, .int .i64 x4].set i v = [.int .i64 y0, .string y1, .int .i64 y2, .int .i64 y3, .int .i64 y4]) : NBase w g gb g2 g4 xs k bad y0 y1 y2 y3 y4 (W.setCell ⟨g4, i, none⟩ v) := by
  obtain ⟨h0, h1, ⟨a, b, c, d, e, h2⟩, h3, h4, h5⟩ := h
  have := h1.set i v
  rw [he] at this
  exact ⟨h0.set h1 i v, this, ⟨a, b, c, d, e, h2.far (p := ⟨g4, i, none⟩) h5 v⟩, grown_set h3 hz i v, h4, h5⟩
end
/-- What an arm comes to. -/
def NFin (D : Option (Cst × Nat)) (k K : Nat) (bad : Bool) (x0 : Int) (x1 : ByteArray) (x2 x3 x4 : Int) : Prop := (bad = true → D = none) ∧ (bad = false → ∃ txt m, D = some (⟨x0, txt, x2, x3, x4⟩, m) ∧ K = k + m ∧ x1 = strOfNums txt)
theorem nfin_told {D : Option (Cst × Nat)} {k K : Nat} {bad : Bool} {x0 : Int} {x1 : ByteArray} {x2 x3 x4 : Int} {g gb : Nat} {xs : List Int} {w w' : World} (h : NFin D k K bad x0 x1 x2 x3 x4) (hg : w.grownBy w' (some g)) (hc : Cur w' g gb xs K bad) :
    NTold D g gb xs k w (.returned (.tuple #[.agg #[.int .i64 x0, .string x1, .int .i64 x2, .int .i64 x3, .int .i64 x4], .bool (!bad)])) w' := by
  refine ⟨hg, ?_⟩
  cases bad with
  | true => exact .inl ⟨h.1 rfl, _, _, _, _, _, rfl⟩
  | false =>
    obtain ⟨txt, m, hD, rfl, rfl⟩ := h.2 rfl
    exact .inr ⟨_, m, hD, rfl, hc⟩
theorem rd_no {xs : List Int} {k n : Nat} (h : ¬ k + n ≤ xs.length) : okd xs k false n = false ∧ got xs k false n = [] ∧ went xs k false n = k := by
  have := okd_no (m := n) h
  exact ⟨this, by unfold got; rw [this]; rfl, by unfold went; rw [this]; rfl⟩
theorem rd_bad (xs : List Int) (k : Nat) (n : Int) : okd xs k true n = false ∧ got xs k true n = [] ∧ went xs k true n = k := by
  have : okd xs k true n = false := by simp [okd]
  exact ⟨this, by unfold got; rw [this]; rfl, by unfold went; rw [this]; rfl⟩
theorem rd_yes {xs : List Int} {k n : Nat} (h : k + n ≤ xs.length) : okd xs k false n = true ∧ got xs k false n = (xs.drop k).take n ∧ went xs k false n = k + n := ⟨okd_of h, got_of h, went_of h⟩
theorem fin_num (xs : List Int) (k : Nat) (m : Int) (K : Nat) (b : Bool) (hm : be (got xs (k + 1) false 4) = m) (hK : went xs (k + 1) false 4 = K) (hb : (!okd xs (k + 1) false 4) = b) :
    NFin (entry1 (3 :: xs.drop (k + 1))) k K b 3 ⟨#[]⟩ (sgn 32 m) 0 0 := by
  have hl : (xs.drop (k + 1)).length = xs.length - (k + 1) := List.length_drop
  by_cases h : k + 1 + 4 ≤ xs.length
  · obtain ⟨a1, a2, a3⟩ := rd_yes (n := 4) h
    rw [show ((4 : Nat) : Int) = 4 from rfl] at a1 a2 a3
    rw [a2] at hm; rw [a3] at hK; rw [a1] at hb
    subst hm; subst hK; subst hb
    exact ⟨fun h => (by cases h), fun _ => ⟨[], 5, e3_yes _ (by omega), by omega, rfl⟩⟩
  · obtain ⟨a1, a2, a3⟩ := rd_no (n := 4) h
    rw [show ((4 : Nat) : Int) = 4 from rfl] at a1 a2 a3
    rw [a1] at hb; subst hb
    exact ⟨fun _ => e3_lack _ (by omega), fun h => (by cases h)⟩
theorem got4 (xs : List Int) (k : Nat) (bad : Bool) (n : Int) (h : n ≤ 4) : (got xs k bad n).length ≤ 4 := by
  unfold got; split
  · simp; omega
  · simp
theorem or_high (m m' : Int) (h0 : 0 ≤ m) (h1 : m < 4294967296) (h2 : 0 ≤ m') (h3 : m' < 4294967296) : bits .or .i64 (wrap64 (m * 4294967296)) m' = sgn 64 (m * 4294967296 + m') := by
  obtain ⟨a, rfl⟩ := Int.eq_ofNat_of_zero_le h0
  obtain ⟨b, rfl⟩ := Int.eq_ofNat_of_zero_le h2
  have e1 : (BitVec.ofInt 64 (wrap64 ((a : Int) * 4294967296))).toNat = a * 4294967296 := by
    rw [BitVec.toNat_ofInt]; unfold wrap64; omega
  have e2 : (BitVec.ofInt 64 (b : Int)).toNat = b := by
    rw [BitVec.ofInt_natCast, BitVec.toNat_ofNat]; exact Nat.mod_eq_of_lt (by omega)
  show IntKind.i64.wrap ((BitVec.ofInt 64 (wrap64 ((a : Int) * 4294967296)) ||| BitVec.ofInt 64 (b : Int)).toNat : Int) = _
  have e3 : (a * 4294967296) ||| b = a * 4294967296 + b := by
    have := Nat.two_pow_add_eq_or_of_lt (i := 32) (show b < 2 ^ 32 by omega) a
    rw [Nat.mul_comm a]; exact this.symm
  rw [BitVec.toNat_or, e1, e2, e3, IntKind.wrap_i64]
  unfold sgn
  split <;> omega
theorem be_eight (l : List Int) (h : 8 ≤ l.length) : be (l.take 8) = be (l.take 4) * 4294967296 + be ((l.drop 4).take 4) := by
  match l, h with
  | a :: b :: c :: d :: e :: f :: g :: i :: r, _ => simp [be]; omega
theorem rd_fit {xs : List Int} {k : Nat} (n : Nat) (i : Int) (hi : i = n) : (k + n ≤ xs.length ∧ okd xs k false i = true ∧ got xs k false i = (xs.drop k).take n ∧ went xs k false i = k + n) ∨ (¬ k + n ≤ xs.length ∧ okd xs k false i = false ∧ got xs k false i = [] ∧ went xs k false i = k) := by
  subst hi
  by_cases h : k + n ≤ xs.length
  · exact .inl ⟨h, rd_yes h⟩
  · exact .inr ⟨h, rd_no h⟩
theorem fin_long (xs : List Int) (k : Nat) (m m' : Int) (K K' : Nat) (b b' : Bool) (hm : be (got xs (k + 1) false 4) = m) (hK : went xs (k + 1) false 4 = K) (hb : (!okd xs (k + 1) false 4) = b)
    (hm' : be (got xs K b 4) = m') (hK' : went xs K b 4 = K') (hb' : (!okd xs K b 4) = b') : NFin (entry1 (5 :: xs.drop (k + 1))) k K' b' 5 ⟨#[]⟩ (sgn 64 (m * 4294967296 + m')) 0 0 := by
  have hl : (xs.drop (k + 1)).length = xs.length - (k + 1) := List.length_drop
  rcases rd_fit (xs := xs) (k := k + 1) 4 4 rfl with ⟨h, a1, a2, a3⟩ | ⟨h, a1, a2, a3⟩
  · rw [a2] at hm; rw [a3] at hK; rw [a1] at hb
    subst hm; subst hK; subst hb
    rcases rd_fit (xs := xs) (k := k + 1 + 4) 4 4 rfl with ⟨g, c1, c2, c3⟩ | ⟨g, c1, c2, c3⟩
    · rw [Bool.not_true] at hm' hK' hb'
      rw [c2] at hm'; rw [c3] at hK'; rw [c1] at hb'
      subst hm'; subst hK'; subst hb'
      refine ⟨fun h => (by cases h), fun _ => ⟨[], 9, ?_, by omega, rfl⟩⟩
      rw [e5_yes _ (by omega), be_eight _ (by omega), List.drop_drop]
    · rw [Bool.not_true] at hb'
      rw [c1] at hb'; subst hb'
      exact ⟨fun _ => e5_lack _ (by omega), fun h => (by cases h)⟩
  · rw [a1] at hb; subst hb
    rw [Bool.not_false] at hb'
    rw [(rd_bad xs K 4).1] at hb'; subst hb'
    exact ⟨fun _ => e5_lack _ (by omega), fun h => (by cases h)⟩
theorem fin_one (t : Int) (ht : t = 7 ∨ t = 8) (xs : List Int) (k : Nat) (m : Int) (K : Nat) (b : Bool) (hm : be (got xs (k + 1) false 2) = m) (hK : went xs (k + 1) false 2 = K) (hb : (!okd xs (k + 1) false 2) = b) :
    NFin (entry1 (t :: xs.drop (k + 1))) k K b t ⟨#[]⟩ 0 m 0 := by
  have hl : (xs.drop (k + 1)).length = xs.length - (k + 1) := List.length_drop
  rcases rd_fit (xs := xs) (k := k + 1) 2 2 rfl with ⟨h, a1, a2, a3⟩ | ⟨h, a1, a2, a3⟩
  · rw [a2] at hm; rw [a3] at hK; rw [a1] at hb
    subst hm; subst hK; subst hb
    exact ⟨fun h => (by cases h), fun _ => ⟨[], 3, e7_yes t ht _ (by omega), by omega, rfl⟩⟩
  · rw [a1] at hb; subst hb
    exact ⟨fun _ => e7_lack t ht _ (by omega), fun h => (by cases h)⟩
theorem fin_two (t : Int) (ht : t = 9 ∨ t = 10 ∨ t = 11 ∨ t = 12) (xs : List Int) (k : Nat) (m m' : Int) (K K' : Nat) (b b' : Bool) (hm : be (got xs (k + 1) false 2) = m) (hK : went xs (k + 1) false 2 = K) (hb : (!okd xs (k + 1) false 2) = b)
    (hm' : be (got xs K b 2) = m') (hK' : went xs K b 2 = K') (hb' : (!okd xs K b 2) = b') : NFin (entry1 (t :: xs.drop (k + 1))) k K' b' t ⟨#[]⟩ 0 m m' := by
  have hl : (xs.drop (k + 1)).length = xs.length - (k + 1) := List.length_drop
  rcases rd_fit (xs := xs) (k := k + 1) 2 2 rfl with ⟨h, a1, a2, a3⟩ | ⟨h, a1, a2, a3⟩
  · rw [a2] at hm; rw [a3] at hK; rw [a1] at hb
    subst hm; subst hK; subst hb
    rcases rd_fit (xs := xs) (k := k + 1 + 2) 2 2 rfl with ⟨g, c1, c2, c3⟩ | ⟨g, c1, c2, c3⟩
    · rw [Bool.not_true] at hm' hK' hb'
      rw [c2] at hm'; rw [c3] at hK'; rw [c1] at hb'
      subst hm'; subst hK'; subst hb'
      refine ⟨fun h => (by cases h), fun _ => ⟨[], 5, ?_, by omega, rfl⟩⟩
      rw [e9_yes t ht _ (by omega), List.drop_drop]
    · rw [Bool.not_true] at hb'
      rw [c1] at hb'; subst hb'
      exact ⟨fun _ => e9_lack t ht _ (by omega), fun h => (by cases h)⟩
  · rw [a1] at hb; subst hb
    rw [Bool.not_false] at hb'
    rw [(rd_bad xs K 2).1] at hb'; subst hb'
    exact ⟨fun _ => e9_lack t ht _ (by omega), fun h => (by cases h)⟩
theorem fin_text (xs : List Int) (hx : IsBytes xs) (k : Nat) (m : Int) (K K' : Nat) (b b' : Bool) (zs : List Int) (hm : be (got xs (k + 1) false 2) = m) (hK : went xs (k + 1) false 2 = K) (hb : (!okd xs (k + 1) false 2) = b)
    (hz : got xs K b m = zs) (hK' : went xs K b m = K') (hb' : (!okd xs K b m) = b') : NFin (entry1 (1 :: xs.drop (k + 1))) k K' b' 1 (strOfNums zs) 0 0 0 := by
  have hl : (xs.drop (k + 1)).length = xs.length - (k + 1) := List.length_drop
  rcases rd_fit (xs := xs) (k := k + 1) 2 2 rfl with ⟨h, a1, a2, a3⟩ | ⟨h, a1, a2, a3⟩
  · rw [a2] at hm; rw [a3] at hK; rw [a1] at hb
    subst hK; subst hb
    have hr := be2_range (xs.drop (k + 1)) (hx.drop _)
    rw [hm] at hr
    rcases rd_fit (xs := xs) (k := k + 1 + 2) m.toNat m (by omega) with ⟨g, c1, c2, c3⟩ | ⟨g, c1, c2, c3⟩
    · rw [Bool.not_true] at hz hK' hb'
      rw [c2] at hz; rw [c3] at hK'; rw [c1] at hb'
      subst hz; subst hK'; subst hb'
      refine ⟨fun h => (by cases h), fun _ => ⟨_, 3 + m.toNat, ?_, by omega, rfl⟩⟩
      rw [e1_yes _ (by omega) (by rw [hm]; omega), hm, List.drop_drop]
    · rw [Bool.not_true] at hb'
      rw [c1] at hb'; subst hb'
      exact ⟨fun _ => e1_lack _ (by omega) (by rw [hm]; omega), fun h => (by cases h)⟩
  · rw [a1] at hb; subst hb
    rw [Bool.not_false] at hb'
    rw [(rd_bad xs K m).1] at hb'; subst hb'
    exact ⟨fun _ => e1_short _ (by omega), fun h => (by cases h)⟩
end Go.Proofs.YtbdbcalmjbmflaaGreatDoor
namespace Go.Proofs.YtbdbcalmjbmflaaGreatDoor
open Go.RowKit

set_option maxHeartbeats 4000000 in
set_option maxRecDepth 100000 in
theorem next_any (g gb : Nat) (xs : List Int) (k : Nat) (w : World) (h : Cur w g gb xs k false) : Calls Tryz.prog 68 #[.pointer (some ⟨g, 0, none⟩)] w (NTold (entry1 (xs.drop k)) g gb xs k w) := by
  have hkl := h.2.2.1
  have hxb := h.2.2.2.1
  have hgw := h.1.lt
  obtain ⟨D, hD⟩ : ∃ D, entry1 (xs.drop k) = D := ⟨_, rfl⟩
  rw [hD]
  have HU2 : Hid (∀ k bad W, Cur W g gb xs k bad → Calls Tryz.prog 23 #[.pointer (some ⟨g, 0, none⟩)] W fun e w' => e = .returned (.int .i64 (be (got xs k bad 2))) ∧ Cur w' g gb xs (went xs k bad 2) (!okd xs k bad 2) ∧ W.grownBy w' (some g)) := hide fun k bad W hc => u2_any g gb xs k bad W hc _ _ _ rfl rfl rfl
  have HU4 : Hid (∀ k bad W, Cur W g gb xs k bad → Calls Tryz.prog 22 #[.pointer (some ⟨g, 0, none⟩)] W fun e w' => e = .returned (.int .i64 (be (got xs k bad 4))) ∧ Cur w' g gb xs (went xs k bad 4) (!okd xs k bad 4) ∧ W.grownBy w' (some g)) := hide fun k bad W hc => u4_any g gb xs k bad W hc _ _ _ rfl rfl rfl
  have HBy : Hid (∀ (n : Int) k bad W, Cur W g gb xs k bad → Calls Tryz.prog 67 #[.pointer (some ⟨g, 0, none⟩), .int .i64 n] W (Copied W g gb xs k bad n)) := hide fun n k bad W hc => bytes_any g gb xs k n bad W hc
  have HOK : Hid (∀ k bad W, Cur W g gb xs k bad → Calls Tryz.prog 20 #[.pointer (some ⟨g, 0, none⟩)] W fun e w' => e = .returned (.bool (!bad)) ∧ W = w') := hide fun k bad W hc => ok_any g gb xs k bad W hc
  have H0 := hide h
  by_cases h1 : k + 1 ≤ xs.length
  · obtain ⟨t, ht1, ht2⟩ := drop_one (xs := xs) (k := k) (by omega)
    rw [ht1] at hD
    have ht3 : 0 ≤ t ∧ t < 256 := hxb t (List.mem_of_mem_drop (i := k) (by rw [ht1]; simp))
    have hrl : (xs.drop (k + 1)).length = xs.length - (k + 1) := List.length_drop
    have HC1 : Hid (∀ W, Cur W g gb xs k false → Calls Tryz.prog 86 #[.pointer (some ⟨g, 0, none⟩)] W fun e w' => e = .returned (.int .i64 t) ∧ Cur w' g gb xs (k + 1) false ∧ W.grownBy w' (some g)) := hide fun W hc => u1_any g gb xs k false W hc _ _ _ (by rw [show (1 : Int) = ((1 : Nat) : Int) from rfl, got_of h1, ht2]) (by rw [show (1 : Int) = ((1 : Nat) : Int) from rfl, went_of h1]) (by rw [show (1 : Int) = ((1 : Nat) : Int) from rfl, okd_of h1]; rfl)
    clear ht1 ht2 h
    by_cases t1 : t = 1
    · subst t1
      obtain ⟨m, hm⟩ : ∃ x, be (got xs (k + 1) false 2) = x := ⟨_, rfl⟩
      obtain ⟨K, hK⟩ : ∃ x, went xs (k + 1) false 2 = x := ⟨_, rfl⟩
      obtain ⟨b, hb⟩ : ∃ x, (!okd xs (k + 1) false 2) = x := ⟨_, rfl⟩
      obtain ⟨zs, hz⟩ : ∃ x, got xs K b m = x := ⟨_, rfl⟩
      obtain ⟨K', hK'⟩ : ∃ x, went xs K b m = x := ⟨_, rfl⟩
      obtain ⟨b', hb'⟩ : ∃ x, (!okd xs K b m) = x := ⟨_, rfl⟩
      have HR := hide (HU2.out (k + 1) false)
      rw [hm, hK, hb] at HR
      have HR' := hide (HBy.out m K b)
      unfold Copied at HR'
      rw [hz, hK', hb'] at HR'
      have HD : Hid (NFin D k K' b' 1 (strOfNums zs) 0 0 0) := hide (by rw [← hD]; exact fin_text xs hxb k m K K' b b' zs hm hK hb hz hK' hb')
      clear hD hm hK hb hz hK' hb' HU2 HU4 HBy
      go_enter Tryz.func68, Tryz.ntmps68
      go_wp2_with fail
      refine (HC1.out _ (H0.out.grown (World.grownBy_alloc w _ none) (by simp) (by simp))).mono ?_
      rintro e w1 ⟨rfl, hc1, hg1⟩
      have s1 : w.heap.size + 1 ≤ w1.heap.size := by have := hg1.size; simpa using this
      have N1 : Hid (NBase w g gb w.heap.size w1.heap.size xs (k + 1) false 1 ⟨#[]⟩ 0 0 0 (w1.alloc (.cells #[.int .i64 1, .string ⟨#[]⟩, .int .i64 0, .int .i64 0, .int .i64 0] 109))) := hide
        ⟨hc1.grown (World.grownBy_alloc w1 _ none) (by simp) (by simp), At.new _ _ _, ⟨_, _, _, _, _, ((At.new w 109 [.int .i64 0, .string ⟨#[]⟩, .int .i64 0, .int .i64 0, .int .i64 0]).grown hg1 (by simp; omega)).alloc _⟩,
          grown_new (grown_trans (grown_new (grown_refl w (some g)) _) hg1) _, Nat.le_refl _, by omega⟩
      have hz4 : w.heap.size ≤ w1.heap.size := by omega
      clear hc1 hg1
      go_wp2_with fail
      refine (HR.out _ N1.out.1).mono ?_
      rintro e w2 ⟨rfl, hc, hg⟩
      have N2 := hide (nbase_call N1.out hc hg)
      obtain ⟨p0, p1, p2, p3, p4, f0, f1, f2, f3, f4⟩ := c5_of N2.out.2.1
      clear hc hg
      go_wp2_with fail
      refine (HR'.out _ N2.out.1).mono ?_
      rintro e w3 ⟨q, rfl, _, hq, hc, hg⟩
      have N3 := hide (nbase_call N2.out hc hg)
      obtain ⟨p0, p1, p2, p3, p4, f0, f1, f2, f3, f4⟩ := c5_of N3.out.2.1
      have hq2 := hq.rd 0 zs.length (by rw [bys_len]; omega)
      have hs := str_of (c := zs.length) (show Rd w3 w3.heap.size (some ⟨q, 0, none⟩) zs.length (cells .u8 zs) by
        have : bys zs = cells .u8 zs := rfl
        rw [this] at hq2
        simpa [List.take_of_length_le (Nat.le_of_eq (cells_len .u8 zs))] using hq2)
      clear hc hg hq hq2
      generalize strOfNums zs = sq at *
      have N4 := hide (nbase_set N3.out hz4 1 (.string sq) (y0 := 1) (y1 := sq) (y2 := 0) (y3 := 0) (y4 := 0) rfl)
      go_wp2_with fail
      refine wp_region_texts (Then (NBase w g gb w.heap.size w1.heap.size xs K' b' (1) (sq) (0) (0) (0)) (fun W => At W w.heap.size 109 [.int .i64 (1), .string (sq), .int .i64 (0), .int .i64 (0), .int .i64 (0)]) 3) (by kernel_rfl) (by kernel_rfl) (by kernel_rfl) (Then.start (nbase_drew N4.out)) ?_
      repeat (first
        | (refine textL_value (Then.stays _ _ _) (v := ?_) (by rfl) (by rfl) ?_ ?_
           rotate_left
           · (intro l W hSw; obtain ⟨p0, p1, p2, p3, p4, _⟩ := c5_of hSw.1.2.1; go_simp; try with_reducible rfl)
           simp only [Act.put, List.setIfInBounds_toArray, List.set_cons_zero, List.set_cons_succ])
        | (refine textL_call (Then.stays _ _ _) (by rfl) (by rfl) ?_ (fun l W hSw => (HOK.out _ _ W hSw.1.1).mono fun e w' hh => ⟨hh.1, hh.2 ▸ hSw⟩) ?_
           · (intro l W hSw; go_simp; done)
           simp only [Act.put, List.setIfInBounds_toArray, List.set_cons_zero, List.set_cons_succ])
        | (refine textL_store (by rfl) (by rfl) (put5 w.heap.size (.int .i64 (1)) (.string (sq)) (.int .i64 (0)) (.int .i64 (0)) (.int .i64 (0))) ?_ (fun l W hSw => ⟨(nbase_put hSw.1).1, fun _ => (nbase_put hSw.1).2⟩) ?_
           · (intro l W hSw
              obtain ⟨_, _, _, _, _, hq⟩ := hSw.1.2.2.1
              obtain ⟨p0, p1, p2, p3, p4, f0, f1, f2, f3, f4⟩ := c5_of hq
              go_simp; rfl))
        | fail)
      refine textL_end ?_
      intro W hSw
      obtain ⟨hN, hA⟩ := hSw.done (by decide)
      obtain ⟨p0, p1, p2, p3, p4, _⟩ := c5_of hA
      have hT := nfin_told HD.out hN.2.2.2.1 hN.1
      go_wp2_with fail
      refine bodyPost_ret (v := .tuple #[.agg #[.int .i64 (1), .string (sq), .int .i64 (0), .int .i64 (0), .int .i64 (0)], .bool (!b')]) ?_ rfl hT
      simp [results, Tryz.results68, go_sem, p0, p1, p2, p3, p4]
    by_cases t3 : t = 3
    · subst t3
      obtain ⟨m, hm⟩ : ∃ x, be (got xs (k + 1) false 4) = x := ⟨_, rfl⟩
      obtain ⟨K, hK⟩ : ∃ x, went xs (k + 1) false 4 = x := ⟨_, rfl⟩
      obtain ⟨b, hb⟩ : ∃ x, (!okd xs (k + 1) false 4) = x := ⟨_, rfl⟩
      have hmr := be_bound (got xs (k + 1) false 4) (got_bytes hxb _ _ _) (got4 _ _ _ _ (by decide))
      rw [hm] at hmr
      have hw1 := wrap32_sgn m (by omega) (by omega)
      have hw2 := wrap64_sgn m (by omega) (by omega)
      have HD : Hid (NFin D k K b 3 ⟨#[]⟩ (sgn 32 m) 0 0) := hide (by rw [← hD]; exact fin_num xs k m K b hm hK hb)
      have HR := hide (HU4.out (k + 1) false)
      rw [hm, hK, hb] at HR
      clear hD hm hK hb HU2 HU4 HBy
      go_enter Tryz.func68, Tryz.ntmps68
      go_wp2_with fail
      refine (HC1.out _ (H0.out.grown (World.grownBy_alloc w _ none) (by simp) (by simp))).mono ?_
      rintro e w1 ⟨rfl, hc1, hg1⟩
      have s1 : w.heap.size + 1 ≤ w1.heap.size := by have := hg1.size; simpa using this
      have N1 : Hid (NBase w g gb w.heap.size w1.heap.size xs (k + 1) false 3 ⟨#[]⟩ 0 0 0 (w1.alloc (.cells #[.int .i64 3, .string ⟨#[]⟩, .int .i64 0, .int .i64 0, .int .i64 0] 109))) := hide
        ⟨hc1.grown (World.grownBy_alloc w1 _ none) (by simp) (by simp), At.new _ _ _, ⟨_, _, _, _, _, ((At.new w 109 [.int .i64 0, .string ⟨#[]⟩, .int .i64 0, .int .i64 0, .int .i64 0]).grown hg1 (by simp; omega)).alloc _⟩,
          grown_new (grown_trans (grown_new (grown_refl w (some g)) _) hg1) _, Nat.le_refl _, by omega⟩
      have hz4 : w.heap.size ≤ w1.heap.size := by omega
      clear hc1 hg1
      go_wp2_with fail
      refine (HR.out _ N1.out.1).mono ?_
      rintro e w2 ⟨rfl, hc, hg⟩
      have N2 := hide (nbase_call N1.out hc hg)
      obtain ⟨p0, p1, p2, p3, p4, f0, f1, f2, f3, f4⟩ := c5_of N2.out.2.1
      clear hc hg
      have N3 := hide (nbase_set N2.out hz4 2 (.int .i64 (sgn 32 m)) (y0 := 3) (y1 := ⟨#[]⟩) (y2 := sgn 32 m) (y3 := 0) (y4 := 0) rfl)
      go_wp2_with fail
      refine wp_region_texts (Then (NBase w g gb w.heap.size w1.heap.size xs K b (3) (⟨#[]⟩) (sgn 32 m) (0) (0)) (fun W => At W w.heap.size 109 [.int .i64 (3), .string (⟨#[]⟩), .int .i64 (sgn 32 m), .int .i64 (0), .int .i64 (0)]) 3) (by kernel_rfl) (by kernel_rfl) (by kernel_rfl) (Then.start (nbase_drew N3.out)) ?_
      repeat (first
        | (refine textL_value (Then.stays _ _ _) (v := ?_) (by rfl) (by rfl) ?_ ?_
           rotate_left
           · (intro l W hSw; obtain ⟨p0, p1, p2, p3, p4, _⟩ := c5_of hSw.1.2.1; go_simp; try with_reducible rfl)
           simp only [Act.put, List.setIfInBounds_toArray, List.set_cons_zero, List.set_cons_succ])
        | (refine textL_call (Then.stays _ _ _) (by rfl) (by rfl) ?_ (fun l W hSw => (HOK.out _ _ W hSw.1.1).mono fun e w' hh => ⟨hh.1, hh.2 ▸ hSw⟩) ?_
           · (intro l W hSw; go_simp; done)
           simp only [Act.put, List.setIfInBounds_toArray, List.set_cons_zero, List.set_cons_succ])
        | (refine textL_store (by rfl) (by rfl) (put5 w.heap.size (.int .i64 (3)) (.string (⟨#[]⟩)) (.int .i64 (sgn 32 m)) (.int .i64 (0)) (.int .i64 (0))) ?_ (fun l W hSw => ⟨(nbase_put hSw.1).1, fun _ => (nbase_put hSw.1).2⟩) ?_
           · (intro l W hSw
              obtain ⟨_, _, _, _, _, hq⟩ := hSw.1.2.2.1
              obtain ⟨p0, p1, p2, p3, p4, f0, f1, f2, f3, f4⟩ := c5_of hq
              go_simp; rfl))
        | fail)
      refine textL_end ?_
      intro W hSw
      obtain ⟨hN, hA⟩ := hSw.done (by decide)
      obtain ⟨p0, p1, p2, p3, p4, _⟩ := c5_of hA
      have hT := nfin_told HD.out hN.2.2.2.1 hN.1
      go_wp2_with fail
      refine bodyPost_ret (v := .tuple #[.agg #[.int .i64 (3), .string (⟨#[]⟩), .int .i64 (sgn 32 m), .int .i64 (0), .int .i64 (0)], .bool (!b)]) ?_ rfl hT
      simp [results, Tryz.results68, go_sem, p0, p1, p2, p3, p4]
    by_cases t5 : t = 5
    · subst t5
      obtain ⟨m, hm⟩ : ∃ x, be (got xs (k + 1) false 4) = x := ⟨_, rfl⟩
      obtain ⟨K, hK⟩ : ∃ x, went xs (k + 1) false 4 = x := ⟨_, rfl⟩
      obtain ⟨b, hb⟩ : ∃ x, (!okd xs (k + 1) false 4) = x := ⟨_, rfl⟩
      obtain ⟨m', hm'⟩ : ∃ x, be (got xs K b 4) = x := ⟨_, rfl⟩
      obtain ⟨K', hK'⟩ : ∃ x, went xs K b 4 = x := ⟨_, rfl⟩
      obtain ⟨b', hb'⟩ : ∃ x, (!okd xs K b 4) = x := ⟨_, rfl⟩
      have hmr := be_bound (got xs (k + 1) false 4) (got_bytes hxb _ _ _) (got4 _ _ _ _ (by decide))
      have hmr' := be_bound (got xs K b 4) (got_bytes hxb _ _ _) (got4 _ _ _ _ (by decide))
      have HR := hide (HU4.out (k + 1) false)
      rw [hm, hK, hb] at HR
      have HR' := hide (HU4.out K b)
      rw [hm', hK', hb'] at HR'
      rw [hm] at hmr
      rw [hm'] at hmr'
      have ho := or_high m m' hmr.1 hmr.2 hmr'.1 hmr'.2
      have HD : Hid (NFin D k K' b' 5 ⟨#[]⟩ (sgn 64 (m * 4294967296 + m')) 0 0) := hide (by rw [← hD]; exact fin_long xs k m m' K K' b b' hm hK hb hm' hK' hb')
      clear hD hm hK hb hm' hK' hb' HU2 HU4 HBy
      go_enter Tryz.func68, Tryz.ntmps68
      go_wp2_with fail
      refine (HC1.out _ (H0.out.grown (World.grownBy_alloc w _ none) (by simp) (by simp))).mono ?_
      rintro e w1 ⟨rfl, hc1, hg1⟩
      have s1 : w.heap.size + 1 ≤ w1.heap.size := by have := hg1.size; simpa using this
      have N1 : Hid (NBase w g gb w.heap.size w1.heap.size xs (k + 1) false 5 ⟨#[]⟩ 0 0 0 (w1.alloc (.cells #[.int .i64 5, .string ⟨#[]⟩, .int .i64 0, .int .i64 0, .int .i64 0] 109))) := hide
        ⟨hc1.grown (World.grownBy_alloc w1 _ none) (by simp) (by simp), At.new _ _ _, ⟨_, _, _, _, _, ((At.new w 109 [.int .i64 0, .string ⟨#[]⟩, .int .i64 0, .int .i64 0, .int .i64 0]).grown hg1 (by simp; omega)).alloc _⟩,
          grown_new (grown_trans (grown_new (grown_refl w (some g)) _) hg1) _, Nat.le_refl _, by omega⟩
      have hz4 : w.heap.size ≤ w1.heap.size := by omega
      clear hc1 hg1
      go_wp2_with fail
      refine (HR.out _ N1.out.1).mono ?_
      rintro e w2 ⟨rfl, hc, hg⟩
      have N2 := hide (nbase_call N1.out hc hg)
      obtain ⟨p0, p1, p2, p3, p4, f0, f1, f2, f3, f4⟩ := c5_of N2.out.2.1
      clear hc hg
      go_wp2_with fail
      refine (HR'.out _ N2.out.1).mono ?_
      rintro e w3 ⟨rfl, hc, hg⟩
      have N3 := hide (nbase_call N2.out hc hg)
      obtain ⟨p0, p1, p2, p3, p4, f0, f1, f2, f3, f4⟩ := c5_of N3.out.2.1
      clear hc hg
      have N4 := hide (nbase_set N3.out hz4 2 (.int .i64 (sgn 64 (m * 4294967296 + m'))) (y0 := 5) (y1 := ⟨#[]⟩) (y2 := sgn 64 (m * 4294967296 + m')) (y3 := 0) (y4 := 0) rfl)
      go_wp2_with fail
      refine wp_region_texts (Then (NBase w g gb w.heap.size w1.heap.size xs K' b' (5) (⟨#[]⟩) (sgn 64 (m * 4294967296 + m')) (0) (0)) (fun W => At W w.heap.size 109 [.int .i64 (5), .string (⟨#[]⟩), .int .i64 (sgn 64 (m * 4294967296 + m')), .int .i64 (0), .int .i64 (0)]) 3) (by kernel_rfl) (by kernel_rfl) (by kernel_rfl) (Then.start (nbase_drew N4.out)) ?_
      repeat (first
        | (refine textL_value (Then.stays _ _ _) (v := ?_) (by rfl) (by rfl) ?_ ?_
           rotate_left
           · (intro l W hSw; obtain ⟨p0, p1, p2, p3, p4, _⟩ := c5_of hSw.1.2.1; go_simp; try with_reducible rfl)
           simp only [Act.put, List.setIfInBounds_toArray, List.set_cons_zero, List.set_cons_succ])
        | (refine textL_call (Then.stays _ _ _) (by rfl) (by rfl) ?_ (fun l W hSw => (HOK.out _ _ W hSw.1.1).mono fun e w' hh => ⟨hh.1, hh.2 ▸ hSw⟩) ?_
           · (intro l W hSw; go_simp; done)
           simp only [Act.put, List.setIfInBounds_toArray, List.set_cons_zero, List.set_cons_succ])
        | (refine textL_store (by rfl) (by rfl) (put5 w.heap.size (.int .i64 (5)) (.string (⟨#[]⟩)) (.int .i64 (sgn 64 (m * 4294967296 + m'))) (.int .i64 (0)) (.int .i64 (0))) ?_ (fun l W hSw => ⟨(nbase_put hSw.1).1, fun _ => (nbase_put hSw.1).2⟩) ?_
           · (intro l W hSw
              obtain ⟨_, _, _, _, _, hq⟩ := hSw.1.2.2.1
              obtain ⟨p0, p1, p2, p3, p4, f0, f1, f2, f3, f4⟩ := c5_of hq
              go_simp; rfl))
        | fail)
      refine textL_end ?_
      intro W hSw
      obtain ⟨hN, hA⟩ := hSw.done (by decide)
      obtain ⟨p0, p1, p2, p3, p4, _⟩ := c5_of hA
      have hT := nfin_told HD.out hN.2.2.2.1 hN.1
      go_wp2_with fail
      refine bodyPost_ret (v := .tuple #[.agg #[.int .i64 (5), .string (⟨#[]⟩), .int .i64 (sgn 64 (m * 4294967296 + m')), .int .i64 (0), .int .i64 (0)], .bool (!b')]) ?_ rfl hT
      simp [results, Tryz.results68, go_sem, p0, p1, p2, p3, p4]
    by_cases t7 : t = 7 ∨ t = 8
    · have d1 : (t == 1) = false := by simpa using t1
      have d3 : (t == 3) = false := by simpa using t3
      have d5 : (t == 5) = false := by simpa using t5
      obtain ⟨m, hm⟩ : ∃ x, be (got xs (k + 1) false 2) = x := ⟨_, rfl⟩
      obtain ⟨K, hK⟩ : ∃ x, went xs (k + 1) false 2 = x := ⟨_, rfl⟩
      obtain ⟨b, hb⟩ : ∃ x, (!okd xs (k + 1) false 2) = x := ⟨_, rfl⟩
      have HR := hide (HU2.out (k + 1) false)
      rw [hm, hK, hb] at HR
      have HD : Hid (NFin D k K b t ⟨#[]⟩ 0 m 0) := hide (by rw [← hD]; exact fin_one t t7 xs k m K b hm hK hb)
      have tb : (t == 7) = true ∨ ((t == 7) = false ∧ (t == 8) = true) := by simp only [beq_iff_eq, beq_eq_false_iff_ne]; omega
      clear hD hm hK hb HU2 HU4 HBy t7
      rcases tb with d7 | ⟨d7, d8⟩
      all_goals
        go_enter Tryz.func68, Tryz.ntmps68
        go_wp2_with fail
        refine (HC1.out _ (H0.out.grown (World.grownBy_alloc w _ none) (by simp) (by simp))).mono ?_
        rintro e w1 ⟨rfl, hc1, hg1⟩
        have s1 : w.heap.size + 1 ≤ w1.heap.size := by have := hg1.size; simpa using this
        have N1 : Hid (NBase w g gb w.heap.size w1.heap.size xs (k + 1) false t ⟨#[]⟩ 0 0 0 (w1.alloc (.cells #[.int .i64 t, .string ⟨#[]⟩, .int .i64 0, .int .i64 0, .int .i64 0] 109))) := hide
          ⟨hc1.grown (World.grownBy_alloc w1 _ none) (by simp) (by simp), At.new _ _ _, ⟨_, _, _, _, _, ((At.new w 109 [.int .i64 0, .string ⟨#[]⟩, .int .i64 0, .int .i64 0, .int .i64 0]).grown hg1 (by simp; omega)).alloc _⟩,
            grown_new (grown_trans (grown_new (grown_refl w (some g)) _) hg1) _, Nat.le_refl _, by omega⟩
        have hz4 : w.heap.size ≤ w1.heap.size := by omega
        clear hc1 hg1
        go_wp2_with fail
        refine (HR.out _ N1.out.1).mono ?_
        rintro e w2 ⟨rfl, hc, hg⟩
        have N2 := hide (nbase_call N1.out hc hg)
        obtain ⟨p0, p1, p2, p3, p4, f0, f1, f2, f3, f4⟩ := c5_of N2.out.2.1
        clear hc hg
        have N3 := hide (nbase_set N2.out hz4 3 (.int .i64 m) (y0 := t) (y1 := ⟨#[]⟩) (y2 := 0) (y3 := m) (y4 := 0) rfl)
        go_wp2_with fail
        refine wp_region_texts (Then (NBase w g gb w.heap.size w1.heap.size xs K b (t) (⟨#[]⟩) (0) (m) (0)) (fun W => At W w.heap.size 109 [.int .i64 (t), .string (⟨#[]⟩), .int .i64 (0), .int .i64 (m), .int .i64 (0)]) 3) (by kernel_rfl) (by kernel_rfl) (by kernel_rfl) (Then.start (nbase_drew N3.out)) ?_
        repeat (first
          | (refine textL_value (Then.stays _ _ _) (v := ?_) (by rfl) (by rfl) ?_ ?_
             rotate_left
             · (intro l W hSw; obtain ⟨p0, p1, p2, p3, p4, _⟩ := c5_of hSw.1.2.1; go_simp; try with_reducible rfl)
             simp only [Act.put, List.setIfInBounds_toArray, List.set_cons_zero, List.set_cons_succ])
          | (refine textL_call (Then.stays _ _ _) (by rfl) (by rfl) ?_ (fun l W hSw => (HOK.out _ _ W hSw.1.1).mono fun e w' hh => ⟨hh.1, hh.2 ▸ hSw⟩) ?_
             · (intro l W hSw; go_simp; done)
             simp only [Act.put, List.setIfInBounds_toArray, List.set_cons_zero, List.set_cons_succ])
          | (refine textL_store (by rfl) (by rfl) (put5 w.heap.size (.int .i64 (t)) (.string (⟨#[]⟩)) (.int .i64 (0)) (.int .i64 (m)) (.int .i64 (0))) ?_ (fun l W hSw => ⟨(nbase_put hSw.1).1, fun _ => (nbase_put hSw.1).2⟩) ?_
             · (intro l W hSw
                obtain ⟨_, _, _, _, _, hq⟩ := hSw.1.2.2.1
                obtain ⟨p0, p1, p2, p3, p4, f0, f1, f2, f3, f4⟩ := c5_of hq
                go_simp; rfl))
          | fail)
        refine textL_end ?_
        intro W hSw
        obtain ⟨hN, hA⟩ := hSw.done (by decide)
        obtain ⟨p0, p1, p2, p3, p4, _⟩ := c5_of hA
        have hT := nfin_told HD.out hN.2.2.2.1 hN.1
        go_wp2_with fail
        refine bodyPost_ret (v := .tuple #[.agg #[.int .i64 (t), .string (⟨#[]⟩), .int .i64 (0), .int .i64 (m), .int .i64 (0)], .bool (!b)]) ?_ rfl hT
        simp [results, Tryz.results68, go_sem, p0, p1, p2, p3, p4]
    have t7 : t ≠ 7 ∧ t ≠ 8 := by omega
    by_cases t9 : t = 9 ∨ t = 10 ∨ t = 11 ∨ t = 12
    · have d1 : (t == 1) = false := by simpa using t1
      have d3 : (t == 3) = false := by simpa using t3
      have d5 : (t == 5) = false := by simpa using t5
      obtain ⟨m, hm⟩ : ∃ x, be (got xs (k + 1) false 2) = x := ⟨_, rfl⟩
      obtain ⟨K, hK⟩ : ∃ x, went xs (k + 1) false 2 = x := ⟨_, rfl⟩
      obtain ⟨b, hb⟩ : ∃ x, (!okd xs (k + 1) false 2) = x := ⟨_, rfl⟩
      obtain ⟨m', hm'⟩ : ∃ x, be (got xs K b 2) = x := ⟨_, rfl⟩
      obtain ⟨K', hK'⟩ : ∃ x, went xs K b 2 = x := ⟨_, rfl⟩
      obtain ⟨b', hb'⟩ : ∃ x, (!okd xs K b 2) = x := ⟨_, rfl⟩
      have HR := hide (HU2.out (k + 1) false)
      rw [hm, hK, hb] at HR
      have HR' := hide (HU2.out K b)
      rw [hm', hK', hb'] at HR'
      have HD : Hid (NFin D k K' b' t ⟨#[]⟩ 0 m m') := hide (by rw [← hD]; exact fin_two t t9 xs k m m' K K' b b' hm hK hb hm' hK' hb')
      have d7 : (t == 7) = false := by simpa using t7.1
      have d8 : (t == 8) = false := by simpa using t7.2
      have tb : (t == 9) = true ∨ ((t == 9) = false ∧ (t == 10) = true) ∨ ((t == 9) = false ∧ (t == 10) = false ∧ (t == 11) = true) ∨ ((t == 9) = false ∧ (t == 10) = false ∧ (t == 11) = false ∧ (t == 12) = true) := by simp only [beq_iff_eq, beq_eq_false_iff_ne]; omega
      clear hD hm hK hb hm' hK' hb' HU2 HU4 HBy t9 t7
      rcases tb with d9 | ⟨d9, d10⟩ | ⟨d9, d10, d11⟩ | ⟨d9, d10, d11, d12⟩
      all_goals
        go_enter Tryz.func68, Tryz.ntmps68
        go_wp2_with fail
        refine (HC1.out _ (H0.out.grown (World.grownBy_alloc w _ none) (by simp) (by simp))).mono ?_
        rintro e w1 ⟨rfl, hc1, hg1⟩
        have s1 : w.heap.size + 1 ≤ w1.heap.size := by have := hg1.size; simpa using this
        have N1 : Hid (NBase w g gb w.heap.size w1.heap.size xs (k + 1) false t ⟨#[]⟩ 0 0 0 (w1.alloc (.cells #[.int .i64 t, .string ⟨#[]⟩, .int .i64 0, .int .i64 0, .int .i64 0] 109))) := hide
          ⟨hc1.grown (World.grownBy_alloc w1 _ none) (by simp) (by simp), At.new _ _ _, ⟨_, _, _, _, _, ((At.new w 109 [.int .i64 0, .string ⟨#[]⟩, .int .i64 0, .int .i64 0, .int .i64 0]).grown hg1 (by simp; omega)).alloc _⟩,
            grown_new (grown_trans (grown_new (grown_refl w (some g)) _) hg1) _, Nat.le_refl _, by omega⟩
        have hz4 : w.heap.size ≤ w1.heap.size := by omega
        clear hc1 hg1
        go_wp2_with fail
        refine (HR.out _ N1.out.1).mono ?_
        rintro e w2 ⟨rfl, hc, hg⟩
        have N2 := hide (nbase_call N1.out hc hg)
        obtain ⟨p0, p1, p2, p3, p4, f0, f1, f2, f3, f4⟩ := c5_of N2.out.2.1
        clear hc hg
        have N3 := hide (nbase_set N2.out hz4 3 (.int .i64 m) (y0 := t) (y1 := ⟨#[]⟩) (y2 := 0) (y3 := m) (y4 := 0) rfl)
        go_wp2_with fail
        refine (HR'.out _ N3.out.1).mono ?_
        rintro e w3 ⟨rfl, hc, hg⟩
        have N4 := hide (nbase_call N3.out hc hg)
        obtain ⟨p0, p1, p2, p3, p4, f0, f1, f2, f3, f4⟩ := c5_of N4.out.2.1
        clear hc hg
        have N5 := hide (nbase_set N4.out hz4 4 (.int .i64 m') (y0 := t) (y1 := ⟨#[]⟩) (y2 := 0) (y3 := m) (y4 := m') rfl)
        go_wp2_with fail
        refine wp_region_texts (Then (NBase w g gb w.heap.size w1.heap.size xs K' b' (t) (⟨#[]⟩) (0) (m) (m')) (fun W => At W w.heap.size 109 [.int .i64 (t), .string (⟨#[]⟩), .int .i64 (0), .int .i64 (m), .int .i64 (m')]) 3) (by kernel_rfl) (by kernel_rfl) (by kernel_rfl) (Then.start (nbase_drew N5.out)) ?_
        repeat (first
          | (refine textL_value (Then.stays _ _ _) (v := ?_) (by rfl) (by rfl) ?_ ?_
             rotate_left
             · (intro l W hSw; obtain ⟨p0, p1, p2, p3, p4, _⟩ := c5_of hSw.1.2.1; go_simp; try with_reducible rfl)
             simp only [Act.put, List.setIfInBounds_toArray, List.set_cons_zero, List.set_cons_succ])
          | (refine textL_call (Then.stays _ _ _) (by rfl) (by rfl) ?_ (fun l W hSw => (HOK.out _ _ W hSw.1.1).mono fun e w' hh => ⟨hh.1, hh.2 ▸ hSw⟩) ?_
             · (intro l W hSw; go_simp; done)
             simp only [Act.put, List.setIfInBounds_toArray, List.set_cons_zero, List.set_cons_succ])
          | (refine textL_store (by rfl) (by rfl) (put5 w.heap.size (.int .i64 (t)) (.string (⟨#[]⟩)) (.int .i64 (0)) (.int .i64 (m)) (.int .i64 (m'))) ?_ (fun l W hSw => ⟨(nbase_put hSw.1).1, fun _ => (nbase_put hSw.1).2⟩) ?_
             · (intro l W hSw
                obtain ⟨_, _, _, _, _, hq⟩ := hSw.1.2.2.1
                obtain ⟨p0, p1, p2, p3, p4, f0, f1, f2, f3, f4⟩ := c5_of hq
                go_simp; rfl))
          | fail)
        refine textL_end ?_
        intro W hSw
        obtain ⟨hN, hA⟩ := hSw.done (by decide)
        obtain ⟨p0, p1, p2, p3, p4, _⟩ := c5_of hA
        have hT := nfin_told HD.out hN.2.2.2.1 hN.1
        go_wp2_with fail
        refine bodyPost_ret (v := .tuple #[.agg #[.int .i64 (t), .string (⟨#[]⟩), .int .i64 (0), .int .i64 (m), .int .i64 (m')], .bool (!b')]) ?_ rfl hT
        simp [results, Tryz.results68, go_sem, p0, p1, p2, p3, p4]
    have HD : Hid (D = none) := hide (by rw [← hD]; exact e0_none t (by omega) _)
    have d1 : (t == 1) = false := by simpa using t1
    have d3 : (t == 3) = false := by simpa using t3
    have d5 : (t == 5) = false := by simpa using t5
    have d7 : (t == 7) = false := by simpa using t7.1
    have d8 : (t == 8) = false := by simpa using t7.2
    have d9 : (t == 9) = false := by simp; omega
    have d10 : (t == 10) = false := by simp; omega
    have d11 : (t == 11) = false := by simp; omega
    have d12 : (t == 12) = false := by simp; omega
    clear hD HU2 HU4 HBy
    go_enter Tryz.func68, Tryz.ntmps68
    go_wp2_with fail
    refine (HC1.out _ (H0.out.grown (World.grownBy_alloc w _ none) (by simp) (by simp))).mono ?_
    rintro e w1 ⟨rfl, hc1, hg1⟩
    have s1 : w.heap.size + 1 ≤ w1.heap.size := by have := hg1.size; simpa using this
    have N1 : Hid (NBase w g gb w.heap.size w1.heap.size xs (k + 1) false t ⟨#[]⟩ 0 0 0 (w1.alloc (.cells #[.int .i64 t, .string ⟨#[]⟩, .int .i64 0, .int .i64 0, .int .i64 0] 109))) := hide
      ⟨hc1.grown (World.grownBy_alloc w1 _ none) (by simp) (by simp), At.new _ _ _, ⟨_, _, _, _, _, ((At.new w 109 [.int .i64 0, .string ⟨#[]⟩, .int .i64 0, .int .i64 0, .int .i64 0]).grown hg1 (by simp; omega)).alloc _⟩,
        grown_new (grown_trans (grown_new (grown_refl w (some g)) _) hg1) _, Nat.le_refl _, by omega⟩
    have hz4 : w.heap.size ≤ w1.heap.size := by omega
    clear hc1 hg1
    obtain ⟨_, _, _, _, _, hq⟩ := N1.out.2.2.1
    obtain ⟨p0, p1, p2, p3, p4, f0, f1, f2, f3, f4⟩ := c5_of hq
    obtain ⟨W, hW⟩ : ∃ W, put5 w.heap.size (.int .i64 0) (.string ⟨#[]⟩) (.int .i64 0) (.int .i64 0) (.int .i64 0) (w1.alloc (.cells #[.int .i64 t, .string ⟨#[]⟩, .int .i64 0, .int .i64 0, .int .i64 0] 109)) = W := ⟨_, rfl⟩
    have hN := nbase_put (a := .int .i64 0) (b := .string ⟨#[]⟩) (c := .int .i64 0) (d := .int .i64 0) (e := .int .i64 0) N1.out
    rw [hW] at hN
    have HN := hide hN
    have HW := hide hW
    clear hN hW hq
    go_wp2_with fail
    have hW := HW.out
    unfold put5 at hW
    rw [hW]
    obtain ⟨p0, p1, p2, p3, p4, _⟩ := c5_of HN.out.2
    refine bodyPost_ret (v := .tuple #[.agg #[.int .i64 0, .string ⟨#[]⟩, .int .i64 0, .int .i64 0, .int .i64 0], .bool false]) ?_ rfl ⟨HN.out.1.2.2.2.1, .inl ⟨HD.out, _, _, _, _, _, rfl⟩⟩
    simp [results, Tryz.results68, go_sem, p0, p1, p2, p3, p4]
  · have hlen : xs.drop k = [] := List.drop_eq_nil_of_le (by omega)
    rw [hlen] at hD
    have HD : Hid (D = none) := hide hD.symm
    obtain ⟨a1, a2, a3⟩ := rd_no (xs := xs) (k := k) (n := 1) h1
    have HC1 : Hid (∀ W, Cur W g gb xs k false → Calls Tryz.prog 86 #[.pointer (some ⟨g, 0, none⟩)] W fun e w' => e = .returned (.int .i64 0) ∧ Cur w' g gb xs k true ∧ W.grownBy w' (some g)) := hide fun W hc => u1_any g gb xs k false W hc _ _ _ (by rw [show (1 : Int) = ((1 : Nat) : Int) from rfl, a2]; rfl) (by rw [show (1 : Int) = ((1 : Nat) : Int) from rfl, a3]) (by rw [show (1 : Int) = ((1 : Nat) : Int) from rfl, a1]; rfl)
    clear hD HU2 HU4 HBy h hlen a1 a2 a3
    go_enter Tryz.func68, Tryz.ntmps68
    go_wp2_with fail
    refine (HC1.out _ (H0.out.grown (World.grownBy_alloc w _ none) (by simp) (by simp))).mono ?_
    rintro e w1 ⟨rfl, hc1, hg1⟩
    have s1 : w.heap.size + 1 ≤ w1.heap.size := by have := hg1.size; simpa using this
    have N1 : Hid (NBase w g gb w.heap.size w1.heap.size xs k true 0 ⟨#[]⟩ 0 0 0 (w1.alloc (.cells #[.int .i64 0, .string ⟨#[]⟩, .int .i64 0, .int .i64 0, .int .i64 0] 109))) := hide
      ⟨hc1.grown (World.grownBy_alloc w1 _ none) (by simp) (by simp), At.new _ _ _, ⟨_, _, _, _, _, ((At.new w 109 [.int .i64 0, .string ⟨#[]⟩, .int .i64 0, .int .i64 0, .int .i64 0]).grown hg1 (by simp; omega)).alloc _⟩,
        grown_new (grown_trans (grown_new (grown_refl w (some g)) _) hg1) _, Nat.le_refl _, by omega⟩
    have hz4 : w.heap.size ≤ w1.heap.size := by omega
    clear hc1 hg1
    obtain ⟨_, _, _, _, _, hq⟩ := N1.out.2.2.1
    obtain ⟨p0, p1, p2, p3, p4, f0, f1, f2, f3, f4⟩ := c5_of hq
    obtain ⟨W, hW⟩ : ∃ W, put5 w.heap.size (.int .i64 0) (.string ⟨#[]⟩) (.int .i64 0) (.int .i64 0) (.int .i64 0) (w1.alloc (.cells #[.int .i64 0, .string ⟨#[]⟩, .int .i64 0, .int .i64 0, .int .i64 0] 109)) = W := ⟨_, rfl⟩
    have hN := nbase_put (a := .int .i64 0) (b := .string ⟨#[]⟩) (c := .int .i64 0) (d := .int .i64 0) (e := .int .i64 0) N1.out
    rw [hW] at hN
    have HN := hide hN
    have HW := hide hW
    clear hN hW hq
    go_wp2_with fail
    have hW := HW.out
    unfold put5 at hW
    rw [hW]
    obtain ⟨p0, p1, p2, p3, p4, _⟩ := c5_of HN.out.2
    refine bodyPost_ret (v := .tuple #[.agg #[.int .i64 0, .string ⟨#[]⟩, .int .i64 0, .int .i64 0, .int .i64 0], .bool false]) ?_ rfl ⟨HN.out.1.2.2.2.1, .inl ⟨HD.out, _, _, _, _, _, rfl⟩⟩
    simp [results, Tryz.results68, go_sem, p0, p1, p2, p3, p4]
end Go.Proofs.YtbdbcalmjbmflaaGreatDoor
namespace Go.Proofs.YtbdbcalmjbmflaaGreatDoor
open Go.RowKit

theorem places_is (t : Int) (w : World) : Calls Tryz.prog 69 #[.int .i64 t] w fun e w' => e = .returned (.int .i64 (if t = 5 then 2 else 1)) ∧ w = w' := by
  by_cases h : t = 5
  · subst h
    go_enter Tryz.func69, Tryz.ntmps69
    go_wp2_with fail
    go_ret
    exact ⟨rfl, rfl⟩
  · rw [if_neg h]
    have hb : (t == 5) = false := by simpa using h
    go_enter Tryz.func69, Tryz.ntmps69
    go_wp2_with fail
    go_ret
    exact ⟨rfl, rfl⟩

/-- A pool's entries as they stand, whatever they say. -/
def raw (l : List Int) : Option (List Cst × Nat) :=
  if l.length < 2 then none else if beL (l.take 2) < 1 ∨ 1000 < beL (l.take 2) then none else (entries ((beL (l.take 2)).toNat - 1) (l.drop 2)).map fun x => (noC :: x.1, 2 + x.2)
/-- What they are told as. -/
def ETold (o : Option (List Cst × Nat)) (g gb : Nat) (xs : List Int) (k : Nat) (w : World) (e : Ending) (w' : World) : Prop :=
  w.grownBy w' (some g) ∧ ((o = none ∧ ∃ v, e = .returned (.tuple #[v, .bool false])) ∨
    ∃ ps m A', o = some (ps, m) ∧ e = .returned (.tuple #[.slice A' ps.length ps.length, .bool true]) ∧ RdC w' w'.heap.size A' ps.length ps ∧ Cur w' g gb xs (k + m) false ∧ CWf ps)
/-- Where the loop stands. -/
def ERel (w : World) (g gb : Nat) (xs : List Int) (k n gp : Nat) (iv : Value) (wr : World) : Prop :=
  (∃ (i kk : Nat) (d : List Cst), 1 ≤ i ∧ i ≤ n ∧ iv = .int .i64 i ∧ d.length = i ∧ k + 2 ≤ kk ∧ At wr gp 109 (ccells (d ++ List.replicate (n - i) noC)) ∧ Cur wr g gb xs kk false ∧ w.grownBy wr (some g) ∧
    entries (n - 1) (xs.drop (k + 2)) = (entries (n - i) (xs.drop kk)).map (fun x => (d.drop 1 ++ x.1, (kk - (k + 2)) + x.2)) ∧ d.take 1 = [noC]) ∨
  (iv = .int .i64 ((n + 1 : Nat) : Int) ∧ entries (n - 1) (xs.drop (k + 2)) = none ∧ w.grownBy wr (some g))
theorem erel_one {w W : World} {g gb : Nat} {xs : List Int} {k n gp i kk sz : Nat} {d : List Cst} {e : Cst} {iv : Value} (hiv : iv = .int .i64 ((i + 1 : Nat) : Int)) (hi1 : 1 ≤ i) (hlt : i < n) (hdl : d.length = i) (hkk : k + 2 ≤ kk)
    (hA : At W gp 109 (ccells d ++ (.int .i64 e.tag :: .string (strOfNums e.text) :: .int .i64 e.num :: .int .i64 e.a :: .int .i64 e.b :: ccells (List.replicate (n - (i + 1)) noC)))) (hR : Cur W g gb xs (kk + sz) false) (hG : w.grownBy W (some g))
    (hr : entries (n - 1) (xs.drop (k + 2)) = (entries (n - i) (xs.drop kk)).map fun x => (d.drop 1 ++ x.1, (kk - (k + 2)) + x.2)) (he : entry1 (xs.drop kk) = some (e, sz)) (h5 : e.tag ≠ 5) (hd0 : d.take 1 = [noC]) : ERel w g gb xs k n gp iv W :=
  .inl ⟨i + 1, kk + sz, d ++ [e], by omega, by omega, hiv, by simp [hdl], by omega, by rw [← join_c]; exact hA, hR, hG, by
    rw [List.drop_append_of_le_length (by omega)]; exact rel_one hlt hkk hr he h5, by rw [List.take_append_of_le_length (by omega)]; exact hd0⟩
theorem erel_long {w W : World} {g gb : Nat} {xs : List Int} {k n gp i kk sz : Nat} {d : List Cst} {e : Cst} {iv : Value} (hiv : iv = .int .i64 ((i + 2 : Nat) : Int)) (hi1 : 1 ≤ i) (hlt : i < n) (hdl : d.length = i) (hkk : k + 2 ≤ kk)
    (hA : At W gp 109 (ccells d ++ (.int .i64 e.tag :: .string (strOfNums e.text) :: .int .i64 e.num :: .int .i64 e.a :: .int .i64 e.b :: ccells (List.replicate (n - (i + 1)) noC)))) (hR : Cur W g gb xs (kk + sz) false) (hG : w.grownBy W (some g))
    (hr : entries (n - 1) (xs.drop (k + 2)) = (entries (n - i) (xs.drop kk)).map fun x => (d.drop 1 ++ x.1, (kk - (k + 2)) + x.2)) (he : entry1 (xs.drop kk) = some (e, sz)) (h5 : e.tag = 5) (hd0 : d.take 1 = [noC]) : ERel w g gb xs k n gp iv W := by
  by_cases hl : i + 1 < n
  · exact .inl ⟨i + 2, kk + sz, d ++ [e, noC], by omega, by omega, hiv, by simp [hdl], by omega, by rw [← join_l d e hl]; exact hA, hR, hG, by
      rw [List.drop_append_of_le_length (by omega)]; exact rel_long hl hkk hr he h5, by rw [List.take_append_of_le_length (by omega)]; exact hd0⟩
  · exact .inr ⟨by rw [hiv]; congr 2; omega, rel_last hlt (by omega) hr he h5, hG⟩
/-- One entry put into the pool's block. -/
def putC (g o : Nat) (e : Cst) (W : World) : World := ((((W.setCell ⟨g, o, none⟩ (.int .i64 e.tag)).setCell ⟨g, o + 1, none⟩ (.string (strOfNums e.text))).setCell ⟨g, o + 2, none⟩ (.int .i64 e.num)).setCell ⟨g, o + 3, none⟩ (.int .i64 e.a)).setCell ⟨g, o + 4, none⟩ (.int .i64 e.b)
theorem putC_at {w : World} {g : Nat} {t : TypeId} {a : List Cst} {c0 c1 c2 c3 c4 : Value} {b : List Value} (h : At w g t (ccells a ++ c0 :: c1 :: c2 :: c3 :: c4 :: b)) {i : Nat} (hi : a.length = i) (e : Cst) :
    At (putC g (i * 5) e w) g t (ccells a ++ .int .i64 e.tag :: .string (strOfNums e.text) :: .int .i64 e.num :: .int .i64 e.a :: .int .i64 e.b :: b) :=
  at_put (at_put (at_put (at_put (at_put0 h hi _) hi 1 _) hi 2 _) hi 3 _) hi 4 _
theorem putC_cur {w : World} {g gb : Nat} {xs : List Int} {k : Nat} {bad : Bool} {q : Nat} {cs : List Value} (h : Cur w g gb xs k bad) (hq : At w q 109 cs) (o : Nat) (e : Cst) : Cur (putC q o e w) g gb xs k bad := by
  have h0 := h.set hq o (.int .i64 e.tag)
  have q0 := hq.set o (.int .i64 e.tag)
  have h1 := h0.set q0 (o + 1) (.string (strOfNums e.text))
  have q1 := q0.set (o + 1) (.string (strOfNums e.text))
  have h2 := h1.set q1 (o + 2) (.int .i64 e.num)
  have q2 := q1.set (o + 2) (.int .i64 e.num)
  have h3 := h2.set q2 (o + 3) (.int .i64 e.a)
  have q3 := q2.set (o + 3) (.int .i64 e.a)
  exact h3.set q3 (o + 4) (.int .i64 e.b)
theorem putC_grown {a0 w : World} {r g : Nat} {e : Cst} {o : Nat} (h : a0.grownBy w (some r)) (hg : a0.heap.size ≤ g) : a0.grownBy (putC g o e w) (some r) :=
  grown_set (grown_set (grown_set (grown_set (grown_set h hg _ _) hg _ _) hg _ _) hg _ _) hg _ _
theorem putC_far {w : World} {g g' : Nat} {t : TypeId} {cs : List Value} {e : Cst} {o : Nat} (h : At w g' t cs) (hg : g' ≠ g) : At (putC g o e w) g' t cs :=
  ((((h.far (p := ⟨g, o, none⟩) hg _).far (p := ⟨g, o + 1, none⟩) hg _).far (p := ⟨g, o + 2, none⟩) hg _).far (p := ⟨g, o + 3, none⟩) hg _).far (p := ⟨g, o + 4, none⟩) hg _

set_option maxHeartbeats 4000000 in
set_option maxRecDepth 100000 in
theorem ents_any (g gb : Nat) (xs : List Int) (k : Nat) (w : World) (h : Cur w g gb xs k false) : Calls Tryz.prog 46 #[.pointer (some ⟨g, 0, none⟩)] w (ETold (raw (xs.drop k)) g gb xs k w) := by
  obtain ⟨i0, hi0, iz0, iz1, iz2⟩ := info_parts constinfo
  have hkl := h.2.2.1
  have hxb := h.2.2.2.1
  have hxl := h.2.2.2.2
  have hgw := h.1.lt
  obtain ⟨D, hD⟩ : ∃ D, raw (xs.drop k) = D := ⟨_, rfl⟩
  rw [hD]
  have hdl : (xs.drop k).length = xs.length - k := List.length_drop
  obtain ⟨n', hn'⟩ : ∃ n', be (got xs k false 2) = n' := ⟨_, rfl⟩
  obtain ⟨K, hK⟩ : ∃ K, went xs k false 2 = K := ⟨_, rfl⟩
  obtain ⟨b, hb⟩ : ∃ b, (!okd xs k false 2) = b := ⟨_, rfl⟩
  have HU : Hid (Calls Tryz.prog 23 #[.pointer (some ⟨g, 0, none⟩)] w fun e w' => e = .returned (.int .i64 n') ∧ Cur w' g gb xs K b ∧ w.grownBy w' (some g)) := hide (u2_any g gb xs k false w h n' K b hn' hK hb)
  have hP : D = if k + 2 ≤ xs.length ∧ ¬ (n' < 1 ∨ 1000 < n') then (entries (n'.toNat - 1) (xs.drop (k + 2))).map (fun x => (noC :: x.1, 2 + x.2)) else none := by
    rw [← hD]
    unfold raw
    rcases rd_fit (xs := xs) (k := k) 2 2 rfl with ⟨h2, a1, a2, a3⟩ | ⟨h2, a1, a2, a3⟩
    · rw [a2] at hn'
      rw [if_neg (by omega), beL_be, hn']
      by_cases hn : n' < 1 ∨ 1000 < n'
      · rw [if_pos hn, if_neg (fun h => h.2 hn)]
      · rw [if_neg hn, if_pos ⟨h2, hn⟩, List.drop_drop]
    · rw [if_pos (by omega), if_neg (fun h => h2 h.1)]
  by_cases hn1 : n' < 1 ∨ 1000 < n'
  · have HV : Hid (D = none) := hide (by rw [hP, if_neg (fun h => h.2 hn1)])
    clear hD hP hn' hK hb
    rcases (by omega : n' < 1 ∨ (¬ n' < 1 ∧ 1000 < n')) with hn1 | ⟨hn1, hn2⟩
    all_goals
      go_enter Tryz.func46, Tryz.ntmps46
      go_wp2_with fail
      refine HU.out.mono ?_
      rintro e w1 ⟨rfl, _, g1⟩
      have G1 := hide g1
      clear g1
      go_wp2_with fail
      go_ret2
      exact ⟨G1.out, .inl ⟨HV.out, _, rfl⟩⟩
  · have h2 : k + 2 ≤ xs.length := by
      rcases rd_fit (xs := xs) (k := k) 2 2 rfl with ⟨h2, _⟩ | ⟨_, _, a2, _⟩
      · exact h2
      · rw [a2] at hn'
        have : n' = 0 := hn'.symm
        omega
    obtain ⟨_, a1, a2, a3⟩ | ⟨h3, _⟩ := rd_fit (xs := xs) (k := k) 2 2 rfl
    · rw [a3] at hK; rw [a1] at hb
      subst hK; subst hb
      rw [if_pos ⟨h2, hn1⟩] at hP
      obtain ⟨n, rfl⟩ : ∃ n : Nat, n' = n := ⟨n'.toNat, by omega⟩
      rw [Int.toNat_natCast] at hP
      have hn2 : ¬ (n : Int) < 1 := by omega
      have hn3 : ¬ (1000 : Int) < n := by omega
      have HD := hide hP
      clear hD hP hn1 hdl hn' a1 a2 a3
      have hmk : ∀ W : World, (Instr.makeSlice 35 (.int .i64 (n : Int)) (.int .i64 (n : Int))).run Tryz.prog W = .ok (.slice (some ⟨W.heap.size, 0, none⟩) n n) (W.alloc (.cells (ccells (List.replicate n noC)).toArray 109)) := fun W => by
        have := run_make (P := Tryz.prog) W 35 109 i0 _ Tryz.underlying35 hi0 iz0 .i64 .i64 (n : Int) (n : Int) (by omega) (by omega) (by rw [iz2]; omega) (by omega)
        rw [this, iz1, Int.toNat_natCast, made_c]
      have HNx : Hid (∀ kk W, Cur W g gb xs kk false → Calls Tryz.prog 68 #[.pointer (some ⟨g, 0, none⟩)] W (NTold (entry1 (xs.drop kk)) g gb xs kk W)) := hide fun kk W hc => next_any g gb xs kk W hc
      go_enter Tryz.func46, Tryz.ntmps46
      go_wp2_with fail
      refine HU.out.mono ?_
      rintro e w1 ⟨rfl, c1, g1⟩
      have C1 := hide c1
      have G1 := hide g1
      have hz1 := g1.size
      clear c1 g1 HU
      go_wp2_with fail
      have hgn : w1.heap.size ≠ g := by omega
      have RA := hide (Cur.grown C1.out (World.grownBy_alloc w1 (.cells (ccells (List.replicate n noC)).toArray 109) none) (by simp) (by simp))
      have AA : Hid (At (w1.alloc (.cells (ccells (List.replicate n noC)).toArray 109)) w1.heap.size 109 (ccells ([noC] ++ List.replicate (n - 1) noC))) := hide (by
        have e : [noC] ++ List.replicate (n - 1) noC = List.replicate n noC := by
          show noC :: List.replicate (n - 1) noC = _
          rw [← List.replicate_succ]; congr 1; omega
        rw [e]; exact At.new _ _ _)
      have GA := hide (grown_new G1.out (.cells (ccells (List.replicate n noC)).toArray 109))
      have hD0 : Hid (entries (n - 1) (xs.drop (k + 2)) = none → D = none) := hide (fun e => by have := HD.out; rw [e] at this; exact this)
      clear C1 G1 hmk
      generalize w1.alloc (.cells (ccells (List.replicate n noC)).toArray 109) = wa at *
      have hz2 : w.heap.size ≤ w1.heap.size := hz1
      generalize w1.heap.size = gp at *
      have Hx := hide h
      clear h hz1
      go_loopw [6] (fun iv wr => ERel w g gb xs k n gp iv wr) (fun iv _ => n + 1 - (intOf iv).toNat)
      case atStart => exact .inl ⟨1, k + 2, [noC], Nat.le_refl _, by omega, rfl, rfl, Nat.le_refl _, AA.out, RA.out, GA.out, by simp, rfl⟩
      case round =>
        rcases hrel with ⟨i, kk, d, hi1, hin, rfl, hdl, hkk, hat, hR, hg, hrel, hd0⟩ | ⟨rfl, hno, hg⟩
        · by_cases hlt : i < n
          · rw [cut_c d hlt] at hat
            have HA := hide hat
            have HR := hide hR
            have HG := hide hg
            have HL := hide hrel
            have hgp := hat.lt
            clear hat hR hg hrel AA RA GA
            have hlt' : (i : Int) < (n : Int) := by omega
            go_wp2_with fail
            refine (HNx.out kk wr HR.out).mono ?_
            rintro e w2 ⟨g2, ⟨he, x0, x1, x2, x3, x4, rfl⟩ | ⟨x, m, he, rfl, c2⟩⟩
            · have G2 := hide (grown_trans HG.out g2)
              have HV : Hid (D = none) := hide (hD0.out (rel_none hlt HL.out he))
              clear g2 he
              go_wp2_with fail
              go_ret2
              exact ⟨grown_new G2.out _, .inl ⟨HV.out, _, rfl⟩⟩
            · have G2 := hide (grown_trans HG.out g2)
              have A2 := HA.out.grown g2 (by simpa using hgn)
              have gp2 := g2.size
              have C2 := hide c2
              have HE := hide he
              have A3 := A2.alloc (.cells #[.int .i64 x.tag, .string (strOfNums x.text), .int .i64 x.num, .int .i64 x.a, .int .i64 x.b] 109)
              obtain ⟨q0, q1, q2, q3, q4, f0, f1, f2, f3, f4⟩ := at_cell A3 hdl
              have A4 := hide (putC_at A3 hdl x)
              have C4 := hide (putC_cur (C2.out.grown (World.grownBy_alloc w2 (.cells #[.int .i64 x.tag, .string (strOfNums x.text), .int .i64 x.num, .int .i64 x.a, .int .i64 x.b] 109) none) (by simp) (by simp)) A3 (i * 5) x)
              have G4 := hide (putC_grown (e := x) (o := i * 5) (grown_new G2.out (.cells #[.int .i64 x.tag, .string (strOfNums x.text), .int .i64 x.num, .int .i64 x.a, .int .i64 x.b] 109)) hz2)
              have B4 := putC_far (e := x) (o := i * 5) (At.new w2 109 [.int .i64 x.tag, .string (strOfNums x.text), .int .i64 x.num, .int .i64 x.a, .int .i64 x.b]) (g := gp) (by omega)
              have b40 := B4.cell 0
              simp only [List.getElem?_cons_zero] at b40
              have HPl := hide (places_is x.tag)
              clear g2 c2 he A2 A3 HA HR HG B4 C2 G2
              unfold putC at A4 C4 G4 b40
              obtain ⟨xt, xx, xn, xa, xb⟩ := x
              simp only at *
              go_wp2_with fail
              refine (HPl.out _).mono ?_
              rintro e w3 ⟨rfl, rfl⟩
              by_cases h5 : xt = 5
              · subst h5
                rw [if_pos rfl]
                go_wp2_with fail
                go_roundw
                case rel => exact erel_long (e := ⟨5, xx, xn, xa, xb⟩) (by go_num) hi1 hlt hdl hkk A4.out C4.out G4.out HL.out HE.out rfl hd0
                case measure => simp [intOf]; omega
              · rw [if_neg h5]
                go_wp2_with fail
                go_roundw
                case rel => exact erel_one (e := ⟨xt, xx, xn, xa, xb⟩) (by go_num) hi1 hlt hdl hkk A4.out C4.out G4.out HL.out HE.out h5 hd0
                case measure => simp [intOf]; omega
          · obtain rfl : i = n := by omega
            have hb1 : ((i : Int) == (i : Int)) = true := beq_self_eq_true _
            have hlt' : ¬ (i : Int) < (i : Int) := by omega
            rw [Nat.sub_self, entries_zero] at hrel
            simp only [Option.map_some, List.append_nil, Nat.add_zero] at hrel
            rw [Nat.sub_self, List.replicate_zero, List.append_nil] at hat
            have hdd : noC :: d.drop 1 = d := by
              cases d with
              | nil => simp at hd0
              | cons y r =>
                simp only [List.take_succ_cons, List.take_zero] at hd0
                injection hd0 with e1 _
                rw [e1]; rfl
            have hwf := (entries_wf (i - 1) (i - 1) (xs.drop (k + 2)) _ _ (Nat.le_refl _) (hxb.drop _) hrel).1
            have HV : Hid (D = some (d, 2 + (kk - (k + 2)))) := hide (by rw [HD.out, hrel, Option.map_some, hdd])
            have HA := hide hat
            have HR := hide hR
            have HG := hide hg
            have HWF : Hid (CWf d) := hide (by
              rw [← hdd]
              intro x hx
              rcases List.mem_cons.1 hx with rfl | hx
              · exact ⟨fun x hx => (by cases hx), Nat.zero_le _⟩
              · exact hwf x hx)
            clear hat hR hg hrel hwf hdd AA RA GA
            go_wp2_with fail
            go_ret2
            refine ⟨HG.out, .inr ⟨d, 2 + (kk - (k + 2)), some ⟨gp, 0, none⟩, HV.out, by rw [hdl]; rfl, ⟨rfl, fun _ => ⟨gp, 0, rfl, HA.out.lt, fun j u hu => by rw [Nat.zero_add, HA.out.cell]; exact hu⟩⟩, ?_, HWF.out⟩⟩
            rw [show k + (2 + (kk - (k + 2))) = kk by omega]; exact HR.out
        · have HV : Hid (D = none) := hide (hD0.out hno)
          have HG := hide hg
          have hb1 : ((n : Int) + 1 == (n : Int)) = false := by simp; omega
          have hlt' : ¬ (n : Int) + 1 < (n : Int) := by omega
          clear hg hno AA RA GA
          go_wp2_with fail
          go_ret2
          exact ⟨HG.out, .inl ⟨HV.out, _, rfl⟩⟩
    · exact absurd h2 h3
end Go.Proofs.YtbdbcalmjbmflaaGreatDoor
namespace Go.Proofs.YtbdbcalmjbmflaaGreatDoor
open Go.RowKit

theorem pool_raw (l : List Int) : pool l = match raw l with
    | none => none
    | some (ps, k) => if ((List.range ps.length).all fun i => holdI ps i) = true then some (ps, k) else none := by
  unfold pool raw
  by_cases h1 : l.length < 2
  · rw [if_pos h1, if_pos h1]
  · rw [if_neg h1, if_neg h1]
    by_cases h2 : beL (l.take 2) < 1 ∨ 1000 < beL (l.take 2)
    · rw [if_pos h2, if_pos h2]
    · rw [if_neg h2, if_neg h2]
      cases he : entries ((beL (l.take 2)).toNat - 1) (l.drop 2) with
      | none => rfl
      | some x =>
        obtain ⟨es, k⟩ := x
        have hl := entries_len _ _ _ _ _ (Nat.le_refl _) he
        have hn : (noC :: es).length = (beL (l.take 2)).toNat := by simp [hl]; omega
        simp only [Option.map_some]
        rw [hn, all_same es _ hn]
theorem raw_len {l : List Int} {ps : List Cst} {m : Nat} (h : raw l = some (ps, m)) : ps.length ≤ 1000 := by
  unfold raw at h
  split at h
  · cases h
  · split at h
    · cases h
    · rename_i h2
      cases he : entries ((beL (l.take 2)).toNat - 1) (l.drop 2) with
      | none => rw [he] at h; cases h
      | some x =>
        obtain ⟨es, k⟩ := x
        have hl := entries_len _ _ _ _ _ (Nat.le_refl _) he
        rw [he] at h
        simp only [Option.map_some, Option.some.injEq, Prod.mk.injEq] at h
        rw [← h.1]
        simp [hl]; omega
theorem maxed_grown {w w' : World} {g : Nat} {t : TypeId} {cs : List Value} (h : Maxed w) (hg : w.grownBy w' (some g)) (hc : At w g t cs) (hn : cs[0]? ≠ none → ∀ m, cs[0]? ≠ some (.int .i64 m)) : Maxed w' := by
  obtain ⟨m, hm⟩ := h
  by_cases e : g = 2
  · exfalso
    subst e
    have := hc.cell 0
    rw [hm] at this
    exact hn (by rw [← this]; simp) m this.symm
  · exact ⟨m, by
      have hb := World.block_lt_of_cell? w _ hm
      have := hg.block 2 hb (by simpa using fun h => e h.symm)
      unfold World.cell? at hm ⊢
      simpa [this] using hm⟩

set_option maxHeartbeats 400000 in
set_option maxRecDepth 100000 in
theorem reads_pool : ReadsPool := by
  intro g gb xs k w hw h
  have HE : Hid (Calls Tryz.prog 46 #[.pointer (some ⟨g, 0, none⟩)] w (ETold (raw (xs.drop k)) g gb xs k w)) := hide (ents_any g gb xs k w h)
  have HM : Hid (∀ w', w.grownBy w' (some g) → Maxed w') := hide fun w' hg => maxed_grown hw hg h.1 (fun _ m e => by cases e)
  have hp := pool_raw (xs.drop k)
  have hlen : ∀ (ps : List Cst) (m : Nat), raw (xs.drop k) = some (ps, m) → ps.length ≤ 1000 := fun ps m h => raw_len h
  obtain ⟨D, hD⟩ : ∃ D, pool (xs.drop k) = D := ⟨_, rfl⟩
  rw [hD] at hp ⊢
  have hgw := h.1.lt
  have hgb := h.2.1.lt
  generalize raw (xs.drop k) = o at *
  have HP := hide hp
  have HLn := hide hlen
  clear hD h hp hlen hw
  go_enter Tryz.func32, Tryz.ntmps32
  go_wp2_with fail
  refine HE.out.mono ?_
  rintro e w1 ⟨g1, ⟨rfl, v, rfl⟩ | ⟨ps, m, A, rfl, rfl, hrd, hc, hwf⟩⟩
  · have G1 := hide g1
    clear g1
    go_wp2_with fail
    go_ret2
    exact ⟨G1.out, .inl ⟨HP.out, _, rfl⟩⟩
  · have hl := HLn.out ps m rfl
    have hp := HP.out
    clear HP HLn
    have HA := hide (allhold_any A ps.length ps.length ps w1 hrd hwf (by omega) (HM.out w1 g1))
    have G1 := hide g1
    have R1 := hide hrd
    have C1 := hide hc
    have W1 := hide hwf
    have hs1 := g1.size
    simp only at hp
    clear g1 hrd hc hwf
    cases ha : ((List.range ps.length).all fun i => holdI ps i)
    · rw [ha] at HA hp
      have HV : Hid (D = none) := hide (by simpa using hp)
      clear hp ha
      go_wp2_with fail
      refine HA.out.mono ?_
      rintro e w2 ⟨rfl, hb⟩
      have G2 := hide (grown_trans G1.out (grown_below hb (some g)))
      clear hb
      go_wp2_with fail
      go_ret2
      exact ⟨G2.out, .inl ⟨HV.out, _, rfl⟩⟩
    · rw [ha] at HA hp
      have HV : Hid (D = some (ps, m)) := hide (by simpa using hp)
      clear hp ha
      go_wp2_with fail
      refine HA.out.mono ?_
      rintro e w2 ⟨rfl, hb⟩
      have G2 := hide (grown_trans G1.out (grown_below hb (some g)))
      have R2 := hide ((R1.out.below hb).mono hb.size)
      have C2 := hide (C1.out.grown (grown_below hb none) (by simp) (by simp))
      clear hb
      go_wp2_with fail
      go_ret2
      exact ⟨G2.out, .inr ⟨ps, m, A, _, HV.out, rfl, R2.out, C2.out, W1.out⟩⟩
theorem says_text : SaysText := fun A n c ps i w h => text_is A n c ps i w h
theorem says_class : SaysClass := fun A n c ps i w h => class_is A n c ps i w h
theorem says_member : SaysMember := fun A n c ps i w h => member_is A n c ps i w h
end Go.Proofs.YtbdbcalmjbmflaaGreatDoor
