/- CursorReads: any reads of any bytes, beside the reader of the documents' answers. -/
import Derived.Test.YtlgknednfgpgfaaRef
namespace Go.Proofs.Ytlgknednfgpgfaa
open Go.RowKit

theorem rn_is (r base : Nat) (A : Option Addr) (c : Nat) (xs : List Int) (k : Nat) (n : Int) (bad : Bool) (w : World) (h : Ref w r base A c xs k bad) (h0 : 0 ≤ n) (h4 : n ≤ 4) :
    Calls Try.prog 19 #[.pointer (some ⟨r, 0, none⟩), .int .i64 n] w fun e w' => e = .returned (.int .i64 (be (got xs k bad n))) ∧ Ref w' r base A c xs (went xs k bad n) (!okd xs k bad n) ∧ w.grownBy w' (some r) := by
  unfold got went
  cases ho : okd xs k bad n
  · exact rn_none r base A c xs k n bad w h (by rcases okd_false ho with a | a | a; (exact .inl a); (omega); (exact .inr a))
  · obtain ⟨rfl, h0, hn⟩ := okd_true ho
    exact rn_some r base A c xs k n w h h0 hn h4

/-- What Some gives. -/
def Somes (w : World) (r base : Nat) (A : Option Addr) (c : Nat) (xs : List Int) (k : Nat) (bad : Bool) (n : Int) (e : Ending) (w' : World) : Prop :=
  ∃ B d, e = .returned (.slice B (got xs k bad n).length d) ∧ Rd w' w'.heap.size B (got xs k bad n).length (bys (got xs k bad n)) ∧ Ref w' r base A c xs (went xs k bad n) (!okd xs k bad n) ∧ w.grownBy w' (some r)
/-- A cursor and a reader over the same bytes, at the same place; and the bytes themselves. -/
structure Both (B : Nat) (w : World) (g gb r : Nat) (A1 A2 : Option Addr) (c2 : Nat) (xs : List Int) (k : Nat) (bad : Bool) (k2 : Nat) (bad2 : Bool) : Prop where
  c : Cur w g gb xs k bad
  f : Ref w r B A2 c2 xs k2 bad2
  b : Src w B 5 A1 xs.length (bys xs)
  lg : B ≤ g
  lr : B ≤ r

theorem Src.far {w w' : World} {base : Nat} {e : TypeId} {A : Option Addr} {n : Nat} {xs : List Value} {g : Nat} {t : TypeId} {cs : List Value} (h : Src w base e A n xs) (hg : At w g t cs) (ht : t ≠ e) (hb : w.grownBy w' (some g)) : Src w' base e A n xs := by
  rcases h with h | ⟨g', ex, rfl, hb', hl, ha⟩
  · exact .inl h
  · exact .inr ⟨g', ex, rfl, hb', hl, ha.grown hb (by simpa using (hg.ne ha ht).symm)⟩
theorem Src.new {w w' : World} {base : Nat} {e : TypeId} {A : Option Addr} {n : Nat} {xs : List Value} (h : Src w base e A n xs) {row : Option Nat} (hb : w.grownBy w' row) (hr : ∀ q, row = some q → w.heap.size ≤ q) : Src w' base e A n xs := by
  rcases h with h | ⟨g', ex, rfl, hb', hl, ha⟩
  · exact .inl h
  · exact .inr ⟨g', ex, rfl, hb', hl, ha.grown hb (fun e => by have := hr g' e.symm; have := ha.lt; omega)⟩

section
variable {B : Nat} {w w' : World} {g gb r : Nat} {A1 A2 : Option Addr} {c2 : Nat} {xs : List Int} {k k2 k' : Nat} {bad bad2 bad' : Bool}
theorem Both.ne (h : Both B w g gb r A1 A2 c2 xs k bad k2 bad2) : g ≠ r := h.c.1.ne h.f.1 (by decide)
theorem Both.turnC (h : Both B w g gb r A1 A2 c2 xs k bad k2 bad2) (hc : Cur w' g gb xs k' bad') (hg : w.grownBy w' (some g)) : Both B w' g gb r A1 A2 c2 xs k' bad' k2 bad2 :=
  ⟨hc, ⟨h.f.1.grown hg (by simpa using h.ne.symm), h.f.2.1.far h.c.1 (by decide) hg, h.f.2.2⟩, h.b.far h.c.1 (by decide) hg, h.lg, h.lr⟩
theorem Both.turnR (h : Both B w g gb r A1 A2 c2 xs k bad k2 bad2) (hc : Ref w' r B A2 c2 xs k' bad') (hg : w.grownBy w' (some r)) : Both B w' g gb r A1 A2 c2 xs k bad k' bad' :=
  ⟨h.c.grown hg (by simpa using h.ne) (by simpa using (h.f.1.ne h.c.2.1 (by decide)).symm), hc, h.b.far h.f.1 (by decide) hg, h.lg, h.lr⟩
theorem Both.new (h : Both B w g gb r A1 A2 c2 xs k bad k2 bad2) {row : Option Nat} (hg : w.grownBy w' row) (hr : ∀ q, row = some q → w.heap.size ≤ q) : Both B w' g gb r A1 A2 c2 xs k bad k2 bad2 := by
  have n1 : ∀ b, b < w.heap.size → some b ≠ row := fun b hb e => by have := hr b e.symm; omega
  exact ⟨h.c.grown hg (n1 _ h.c.1.lt) (n1 _ h.c.2.1.lt), ⟨h.f.1.grown hg (n1 _ h.f.1.lt), h.f.2.1.new hg hr, h.f.2.2⟩, h.b.new hg hr, h.lg, h.lr⟩
theorem Both.drewN (h : Both B w g gb r A1 A2 c2 xs k bad k2 bad2) (n : Nat) : Both B (w.drewN n) g gb r A1 A2 c2 xs k bad k2 bad2 := ⟨h.c, h.f, h.b, h.lg, h.lr⟩
end

theorem ok_q {g gb : Nat} {xs : List Int} {k : Nat} {bad : Bool} {w : World} (h : Cur w g gb xs k bad) (x : Nat) :
    Calls Try.prog 17 #[.pointer (some ⟨g, 0, none⟩)] (w.drewN x) fun e w' => e = .returned (.bool (!bad)) ∧ ∃ n, w' = w.drewN n :=
  (ok_any g gb xs k bad (w.drewN x) h).mono fun _ _ ⟨a, b⟩ => ⟨a, x, b.symm⟩
theorem left_q {g gb : Nat} {xs : List Int} {k : Nat} {bad : Bool} {w : World} (h : Cur w g gb xs k bad) (x : Nat) (l : Nat) (hl : xs.length = l) :
    Calls Try.prog 18 #[.pointer (some ⟨g, 0, none⟩)] (w.drewN x) fun e w' => e = .returned (.int .i64 ((l : Int) - k)) ∧ ∃ n, w' = w.drewN n :=
  (left_any g gb xs k bad (w.drewN x) h).mono fun _ _ ⟨a, m, b⟩ => ⟨by rw [a, hl], x + m, by rw [b, World.drewN_drewN]⟩
theorem rleft_q {r base : Nat} {A : Option Addr} {c : Nat} {xs : List Int} {k : Nat} {bad : Bool} {w : World} (h : Ref w r base A c xs k bad) (x : Nat) (l : Nat) (hl : xs.length = l) :
    Calls Try.prog 21 #[.pointer (some ⟨r, 0, none⟩)] (w.drewN x) fun e w' => e = .returned (.int .i64 ((l : Int) - k)) ∧ ∃ n, w' = w.drewN n :=
  (rleft_any r base A c xs k bad (w.drewN x) h).mono fun _ _ ⟨a, m, b⟩ => ⟨by rw [a, hl], x + m, by rw [b, World.drewN_drewN]⟩

end Go.Proofs.Ytlgknednfgpgfaa
