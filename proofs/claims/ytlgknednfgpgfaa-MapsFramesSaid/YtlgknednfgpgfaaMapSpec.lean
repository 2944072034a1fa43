/- Stated frames as plain lists: what the document says of them, read by a reader that stands somewhere. Nothing is claimed here. -/
import Derived.Test.YtlgknednfgpgfaaPoolSpec
import Derived.Test.YtlgknednfgpgfaaAllReads
namespace Go.Proofs.Ytlgknednfgpgfaa
open Go.RowKit

/-- A type of the checker, as it is stated. -/
structure VT where
  kind : Int
  num : Int
deriving DecidableEq
def VT.cells (v : VT) : List Value := [.int .i64 v.kind, .string ⟨#[]⟩, .int .i64 v.num]
def vcells (l : List VT) : List Value := l.flatMap VT.cells
/-- Where a reader stands; whether a read was refused. -/
abbrev St := Nat × Bool
def rdN (xs : List Int) (s : St) (n : Int) : Int := be (got xs s.1 s.2 n)
def rdS (xs : List Int) (s : St) (n : Int) : St := (went xs s.1 s.2 n, !okd xs s.1 s.2 n)
/-- One type. -/
def nextS (xs : List Int) (ps : List Cst) (s : St) : Option VT × St :=
  let t := rdN xs s 1
  let s1 := rdS xs s 1
  if t = 0 ∨ t = 1 ∨ t = 4 ∨ t = 5 ∨ t = 6 then (if s1.2 then none else some ⟨t, 0⟩, s1)
  else if t = 7 then
    (if (rdS xs s1 2).2 || (classAt ps (rdN xs s1 2)).isNone then none else some ⟨7, rdN xs s1 2⟩, rdS xs s1 2)
  else if t = 8 then (if (rdS xs s1 2).2 then none else some ⟨8, rdN xs s1 2⟩, rdS xs s1 2)
  else (none, s1)
/-- So many types. -/
def typesS (xs : List Int) (ps : List Cst) : Nat → St → Option (List VT) × St
  | 0, s => (some [], s)
  | n + 1, s => match nextS xs ps s with
    | (none, s') => (none, s')
    | (some v, s') => match typesS xs ps n s' with
      | (none, s'') => (none, s'')
      | (some l, s'') => (some (v :: l), s'')
/-- An entry. -/
structure Mp where
  tag : Int
  delta : Int
  locals : List VT
  stack : List VT
deriving DecidableEq
def deltaS (xs : List Int) (t : Int) (s : St) : Int × St := if t ≤ 63 then (t, s) else if t ≤ 127 then (t - 64, s) else (rdN xs s 2, rdS xs s 2)
def localsS (xs : List Int) (t : Int) (s : St) : Int × St := if 252 ≤ t ∧ t ≤ 254 then (t - 251, s) else if t = 255 then (rdN xs s 2, rdS xs s 2) else (0, s)
def operandsS (xs : List Int) (t : Int) (s : St) : Int × St := if (63 < t ∧ t ≤ 127) ∨ t = 247 then (1, s) else if t = 255 then (rdN xs s 2, rdS xs s 2) else (0, s)
def entryS (xs : List Int) (ps : List Cst) (s : St) : Option Mp × St :=
  let t := rdN xs s 1
  let s1 := rdS xs s 1
  if 127 < t ∧ t < 247 then (none, s1) else
  let d := deltaS xs t s1
  let l := localsS xs t d.2
  let L := typesS xs ps l.1.toNat l.2
  let o := operandsS xs t L.2
  let O := typesS xs ps o.1.toNat o.2
  (match L.1, O.1 with
    | some a, some b => if O.2.2 then none else some ⟨t, d.1, a, b⟩
    | _, _ => none, O.2)
def entriesS (xs : List Int) (ps : List Cst) : Nat → St → Option (List Mp) × St
  | 0, s => (some [], s)
  | n + 1, s => match entryS xs ps s with
    | (none, s') => (none, s')
    | (some v, s') => match entriesS xs ps n s' with
      | (none, s'') => (none, s'')
      | (some l, s'') => (some (v :: l), s'')
/-- What the attribute holds. -/
def mapsI (xs : List Int) (ps : List Cst) : Option (List Mp) :=
  let n := rdN xs (0, false) 2
  let s := rdS xs (0, false) 2
  if 4096 < n then none else
  match entriesS xs ps n.toNat s with
  | (some l, s') => if s'.2 || s'.1 < xs.length then none else some l
  | (none, _) => none

theorem rdN_bd {xs : List Int} (hb : IsBytes xs) (s : St) (n : Int) (h : n ≤ 4) : 0 ≤ rdN xs s n ∧ rdN xs s n < 256 ^ n.toNat := by
  have h1 := be_bound (got xs s.1 s.2 n) (got_bytes hb _ _ _) (by
    unfold got; split
    · rw [List.length_take]; omega
    · exact Nat.zero_le _)
  refine ⟨h1.1, ?_⟩
  unfold rdN got at *
  split
  · have h2 : IsBytes ((xs.drop s.1).take n.toNat) := (hb.drop _).take _
    have hl : ((xs.drop s.1).take n.toNat).length ≤ n.toNat := by rw [List.length_take]; omega
    generalize (xs.drop s.1).take n.toNat = l at *
    have hn : n.toNat ≤ 4 := by omega
    generalize n.toNat = m at *
    have h3 : be l < 256 ^ l.length := by
      match l, hl with
      | [], _ => simp [be]
      | [a], _ => have := h2 a (by simp); simp [be]; omega
      | [a, b], _ => have := h2 a (by simp); have := h2 b (by simp); simp [be]; omega
      | [a, b, c], _ => have := h2 a (by simp); have := h2 b (by simp); have := h2 c (by simp); simp [be]; omega
      | [a, b, c, d], _ => have := h2 a (by simp); have := h2 b (by simp); have := h2 c (by simp); have := h2 d (by simp); simp [be]; omega
      | a :: b :: c :: d :: e :: r, h => simp at h; omega
    refine Int.lt_of_lt_of_le h3 ?_
    have : (256 : Nat) ^ l.length ≤ 256 ^ m := Nat.pow_le_pow_right (by decide) hl
    have h5 : ((256 ^ l.length : Nat) : Int) ≤ ((256 ^ m : Nat) : Int) := Int.ofNat_le.2 this
    rwa [Int.natCast_pow, Int.natCast_pow] at h5
  · exact Int.pow_pos (by decide)
theorem rd1_bd {xs : List Int} (hb : IsBytes xs) (s : St) : 0 ≤ rdN xs s 1 ∧ rdN xs s 1 < 256 := by have := rdN_bd hb s 1 (by decide); simpa using this
theorem rd2_bd {xs : List Int} (hb : IsBytes xs) (s : St) : 0 ≤ rdN xs s 2 ∧ rdN xs s 2 < 65536 := by have := rdN_bd hb s 2 (by decide); simpa using this
theorem vcells_len (l : List VT) : (vcells l).length = l.length * 3 := by
  induction l with
  | nil => rfl
  | cons t r ih => simp only [vcells, List.flatMap_cons, List.length_append] at ih ⊢; rw [ih]; simp [VT.cells]; omega
theorem typesS_snoc (xs : List Int) (ps : List Cst) : ∀ (n : Nat) (s : St) (l : List VT) (s' : St), typesS xs ps n s = (some l, s') → l.length = n := by
  intro n
  induction n with
  | zero => intro s l s' h; cases h; rfl
  | succ n ih =>
    intro s l s' h
    unfold typesS at h
    split at h
    · cases h
    · split at h
      · cases h
      · rename_i h2
        cases h
        simpa using ih _ _ _ h2
end Go.Proofs.Ytlgknednfgpgfaa
