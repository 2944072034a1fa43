/- How package stackmap reads an entry. Nothing is claimed here. -/
import Derived.Test.YtlgknednfgpgfaaMapTypes
import Derived.Deep.RegionHeld3
namespace Go.Proofs.Ytlgknednfgpgfaa
open Go.RowKit

theorem orow_set {w : World} {base : Nat} {e : TypeId} {v : Value} {n size : Nat} {xs : List Value} (h : w.ownsRow base e size v n xs) {q : Nat} {t : TypeId} {cs : List Value} (hA : At w q t cs) (hne : t ≠ e) (i : Nat) (u : Value) :
    (w.setCell ⟨q, i, none⟩ u).ownsRow base e size v n xs := h.kept (only_set u) (.inr (orow_type h hA hne).symm)
theorem c4_is {w : World} {g : Nat} {t : TypeId} {a b c d : Value} (hh : At w g t [a, b, c, d]) : (w.cell? ⟨g, 0, none⟩ = some a ∧ w.cell? ⟨g, 1, none⟩ = some b ∧ w.cell? ⟨g, 2, none⟩ = some c ∧ w.cell? ⟨g, 3, none⟩ = some d) ∧
    w.frozen? ⟨g, 0, none⟩ = false ∧ w.frozen? ⟨g, 1, none⟩ = false ∧ w.frozen? ⟨g, 2, none⟩ = false ∧ w.frozen? ⟨g, 3, none⟩ = false := ⟨⟨hh.cell 0, hh.cell 1, hh.cell 2, hh.cell 3⟩, hh.free 0, hh.free 1, hh.free 2, hh.free 3⟩
abbrev put4 (g : Nat) (a b c d : Value) (W : World) : World := (((W.setCell ⟨g, 0, none⟩ a).setCell ⟨g, 1, none⟩ b).setCell ⟨g, 2, none⟩ c).setCell ⟨g, 3, none⟩ d
def nilV : Value := .slice none 0 0
/-- What is told of an entry that was read. -/
def EntryR (r : Option Mp × St) (g gb : Nat) (xs : List Int) (w : World) (e : Ending) (w' : World) : Prop :=
  w.grownBy w' (some g) ∧ Cur w' g gb xs r.2.1 r.2.2 ∧
    ((∃ M a l k a' l' k', r.1 = some M ∧ e = .returned (.tuple #[.agg #[.int .i64 M.tag, .int .i64 M.delta, .slice a l k, .slice a' l' k'], .bool true]) ∧
        w'.ownsRow w.heap.size 37 3 (.slice a l k) M.locals.length (vcells M.locals) ∧ w'.ownsRow w.heap.size 37 3 (.slice a' l' k') M.stack.length (vcells M.stack)) ∨
      (r.1 = none ∧ e = .returned (.tuple #[.agg #[.int .i64 0, .int .i64 0, .slice none 0 0, .slice none 0 0], .bool false])))
/-- Where an entry's reading stands. -/
structure EB (w W : World) (B g gb : Nat) (A : Option Addr) (n c : Nat) (xs : List Int) (ps : List Cst) (bt : Nat) (t d : Int) (s : St) : Prop where
  rd : Rdr W B g gb A n c xs ps s
  gr : w.grownBy W (some g)
  bx : At W w.heap.size 53 [.pointer (some ⟨g, 0, none⟩), .slice A n c]
  rs : At W (w.heap.size + 1) 32 [.int .i64 0, .int .i64 0, .slice none 0 0, .slice none 0 0]
  tb : At W bt 32 [.int .i64 t, .int .i64 d, .slice none 0 0, .slice none 0 0]
  lt : w.heap.size + 2 ≤ bt
  hg : g < w.heap.size
section
variable {w W w' : World} {B g gb : Nat} {A : Option Addr} {n c : Nat} {xs : List Int} {ps : List Cst} {bt : Nat} {t d : Int} {s s' : St}
theorem EB.step (h : EB w W B g gb A n c xs ps bt t d s) (hc : Cur w' g gb xs s'.1 s'.2) (hg : W.grownBy w' (some g)) : EB w w' B g gb A n c xs ps bt t d s' :=
  ⟨h.rd.step hc hg, grown_trans h.gr hg, h.bx.grown hg (by have := h.hg; simp; omega), h.rs.grown hg (by have := h.hg; simp; omega), h.tb.grown hg (by have := h.hg; have := h.lt; simp; omega), h.lt, h.hg⟩
theorem EB.below (h : EB w W B g gb A n c xs ps bt t d s) (hb : Below W.heap.size W w') : EB w w' B g gb A n c xs ps bt t d s :=
  ⟨h.rd.below hb, grown_more h.gr hb, h.bx.below hb h.bx.lt, h.rs.below hb h.rs.lt, h.tb.below hb h.tb.lt, h.lt, h.hg⟩
theorem EB.drewN (h : EB w W B g gb A n c xs ps bt t d s) (k : Nat) : EB w (W.drewN k) B g gb A n c xs ps bt t d s := h.below (below_drewN (Below.refl _ _) k)
/-- The offset is put in. -/
theorem EB.delta (h : EB w W B g gb A n c xs ps bt t d s) (d' : Int) : EB w (W.setCell ⟨bt, 1, none⟩ (.int .i64 d')) B g gb A n c xs ps bt t d' s := by
  have n1 : g ≠ bt := by have := h.hg; have := h.lt; omega
  have n2 : gb ≠ bt := h.rd.cur.2.1.ne h.tb (by decide)
  have hl := h.lt
  have hB : B ≤ bt := by have := h.rd.hB; have := h.hg; omega
  refine ⟨⟨h.rd.cur.far n1 n2 1 _, h.rd.pool.below ?_, h.rd.hB⟩, grow_set h.gr (by omega) 1 _, h.bx.far (p := ⟨bt, 1, none⟩) (by simp; omega) _, h.rs.far (p := ⟨bt, 1, none⟩) (by simp; omega) _, h.tb.set 1 _, h.lt, h.hg⟩
  exact (Below.refl _ _).setCell hB _
end
/-- What is told of types, as the walk of an entry wants it. -/
def TypesH (r : Option (List VT) × St) (base : Nat) (w' : World) (a : Option Addr) (l k : Nat) (b : Bool) : Prop :=
  (b = true ∧ ∃ L, r.1 = some L ∧ w'.ownsRow base 37 3 (.slice a l k) L.length (vcells L)) ∨ (b = false ∧ r.1 = none)
theorem orow_shape {w : World} {base : Nat} {e : TypeId} {v : Value} {n size : Nat} {xs : List Value} (h : w.ownsRow base e size v n xs) : ∃ a k, v = .slice a n k := by
  obtain ⟨_, ⟨rfl, rfl⟩ | ⟨g, cap, cur, rfl, _⟩⟩ := h
  · exact ⟨_, _, rfl⟩
  · exact ⟨_, _, rfl⟩
theorem smtypes_h {g gb B : Nat} {A : Option Addr} {n c m : Nat} (hm : m ≤ 65536) {xs : List Int} {ps : List Cst} {s : St} {w W : World} {bt : Nat} {t d : Int} (h : EB w W B g gb A n c xs ps bt t d s) :
    Calls Try.prog 35 #[.agg #[.pointer (some ⟨g, 0, none⟩), .slice A n c], .int .i64 m] W fun e w' => ∃ a l k b, e = .returned (.tuple #[.slice a l k, .bool b]) ∧ Hid (W.grownBy w' (some g) ∧ EB w w' B g gb A n c xs ps bt t d (typesS xs ps m s).2 ∧ TypesH (typesS xs ps m s) w.heap.size w' a l k b) := by
  refine (smtypes_any g gb B A n c m hm xs ps s W h.rd).mono fun e w' hh => ?_
  obtain ⟨hg, hc, ⟨l, V, h1, rfl, h2⟩ | ⟨h1, rfl⟩⟩ := hh
  · obtain ⟨a, k, rfl⟩ := orow_shape h2
    exact ⟨a, _, k, true, rfl, hide ⟨hg, h.step hc hg, .inl ⟨rfl, l, h1, orow_mono h2 h.gr.size⟩⟩⟩
  · exact ⟨none, 0, 0, false, rfl, hide ⟨hg, h.step hc hg, .inr ⟨rfl, h1⟩⟩⟩
theorem TypesH.kept {r : Option (List VT) × St} {base g : Nat} {w w' : World} {a : Option Addr} {l k : Nat} {b : Bool} (h : TypesH r base w a l k b) (hg : w.grownBy w' (some g)) (hlt : g < base) : TypesH r base w' a l k b := by
  rcases h with ⟨h1, L, h2, h3⟩ | h
  · exact .inl ⟨h1, L, h2, orow_kept h3 hg hlt⟩
  · exact .inr h
theorem localsS_nat {xs : List Int} (hx : IsBytes xs) (t : Int) (s : St) : ∃ m : Nat, (localsS xs t s).1 = m ∧ m ≤ 65536 := by
  have := rd2_bd hx s
  unfold localsS
  split
  · exact ⟨(t - 251).toNat, by simp only; omega, by omega⟩
  · split
    · exact ⟨(rdN xs s 2).toNat, by simp only; omega, by omega⟩
    · exact ⟨0, rfl, by omega⟩
theorem operandsS_nat {xs : List Int} (hx : IsBytes xs) (t : Int) (s : St) : ∃ m : Nat, (operandsS xs t s).1 = m ∧ m ≤ 65536 := by
  have := rd2_bd hx s
  unfold operandsS
  split
  · exact ⟨1, rfl, by omega⟩
  · split
    · exact ⟨(rdN xs s 2).toNat, by simp only; omega, by omega⟩
    · exact ⟨0, rfl, by omega⟩
theorem num_h {f : FuncId} {r : Int × St} {g gb B : Nat} {A : Option Addr} {n c : Nat} {xs : List Int} {ps : List Cst} {s : St} {w W : World} {bt : Nat} {t d : Int} {args : Array Value} (h : EB w W B g gb A n c xs ps bt t d s) (hc : Calls Try.prog f args W (NumR r g gb xs W)) :
    Calls Try.prog f args W fun e w' => e = .returned (.int .i64 r.1) ∧ Hid (W.grownBy w' (some g) ∧ EB w w' B g gb A n c xs ps bt t d r.2) :=
  hc.mono fun _ _ ⟨hg, hc, he⟩ => ⟨he, hide ⟨hg, h.step hc hg⟩⟩

theorem EB.facts {w W : World} {B g gb : Nat} {A : Option Addr} {n c : Nat} {xs : List Int} {ps : List Cst} {bt : Nat} {t d : Int} {s : St} (h : EB w W B g gb A n c xs ps bt t d s) :
    (W.cell? ⟨w.heap.size, 0, none⟩ = some (.pointer (some ⟨g, 0, none⟩)) ∧ W.cell? ⟨w.heap.size, 1, none⟩ = some (.slice A n c)) ∧
    (W.cell? ⟨bt, 0, none⟩ = some (.int .i64 t) ∧ W.cell? ⟨bt, 1, none⟩ = some (.int .i64 d) ∧ W.cell? ⟨bt, 2, none⟩ = some (.slice none 0 0) ∧ W.cell? ⟨bt, 3, none⟩ = some (.slice none 0 0)) ∧
    (W.frozen? ⟨bt, 0, none⟩ = false ∧ W.frozen? ⟨bt, 1, none⟩ = false ∧ W.frozen? ⟨bt, 2, none⟩ = false ∧ W.frozen? ⟨bt, 3, none⟩ = false) ∧
    (W.cell? ⟨w.heap.size + 1, 0, none⟩ = some (.int .i64 0) ∧ W.cell? ⟨w.heap.size + 1, 1, none⟩ = some (.int .i64 0) ∧ W.cell? ⟨w.heap.size + 1, 2, none⟩ = some (.slice none 0 0) ∧ W.cell? ⟨w.heap.size + 1, 3, none⟩ = some (.slice none 0 0)) ∧
    (W.frozen? ⟨w.heap.size + 1, 0, none⟩ = false ∧ W.frozen? ⟨w.heap.size + 1, 1, none⟩ = false ∧ W.frozen? ⟨w.heap.size + 1, 2, none⟩ = false ∧ W.frozen? ⟨w.heap.size + 1, 3, none⟩ = false) :=
  ⟨c2_of h.bx, (c4_is h.tb).1, (c4_is h.tb).2, (c4_is h.rs).1, (c4_is h.rs).2⟩
theorem EB.begin {w w1 : World} {B g gb : Nat} {A : Option Addr} {n c : Nat} {xs : List Int} {ps : List Cst} {t : Int} {s s1 : St} (h : Rdr w B g gb A n c xs ps s) (hc : Cur w1 g gb xs s1.1 s1.2)
    (hg : ((w.alloc (.cells #[.pointer (some ⟨g, 0, none⟩), .slice A n c] 53)).alloc (.cells #[.int .i64 0, .int .i64 0, .slice none 0 0, .slice none 0 0] 32)).grownBy w1 (some g)) :
    EB w (w1.alloc (.cells #[.int .i64 t, .int .i64 0, .slice none 0 0, .slice none 0 0] 32)) B g gb A n c xs ps w1.heap.size t 0 s1 := by
  have hgw := h.cur.1.lt
  have hz := hg.size
  simp at hz
  have hb : Below w.heap.size w ((w.alloc (.cells #[.pointer (some ⟨g, 0, none⟩), .slice A n c] 53)).alloc (.cells #[.int .i64 0, .int .i64 0, .slice none 0 0, .slice none 0 0] 32)) := by repeat (first | with_reducible exact Below.refl _ _ | with_reducible refine Below.drew ?_ | with_reducible refine below_drewN ?_ _ | ((with_reducible refine Below.setCell ?_ ?hp _); case hp => simp) | ((with_reducible refine Below.alloc ?_ ?hp _); case hp => first | omega | (simp; done) | (simp; omega)))
  have hb1 : Below w1.heap.size w1 (w1.alloc (.cells #[.int .i64 t, .int .i64 0, .slice none 0 0, .slice none 0 0] 32)) := (Below.refl _ _).alloc (Nat.le_refl _) _
  have A0 := ((At.new w 53 [.pointer (some ⟨g, 0, none⟩), .slice A n c]).alloc (.cells #[.int .i64 0, .int .i64 0, .slice none 0 0, .slice none 0 0] 32)).grown hg (by simp; omega)
  have A1 := (At.new (w.alloc (.cells #[.pointer (some ⟨g, 0, none⟩), .slice A n c] 53)) 32 [.int .i64 0, .int .i64 0, .slice none 0 0, .slice none 0 0]).grown hg (by simp; omega)
  simp only [World.size_alloc] at A1
  exact ⟨((h.below hb).step hc hg).below hb1, grown_more (grown_trans (grown_below hb _) hg) hb1, A0.below hb1 A0.lt, A1.below hb1 A1.lt, At.new _ _ _, by omega, hgw⟩
/-- The result's block is put, where nothing was read. -/
theorem EB.put {w W : World} {B g gb : Nat} {A : Option Addr} {n c : Nat} {xs : List Int} {ps : List Cst} {bt : Nat} {t d : Int} {s : St} (h : EB w W B g gb A n c xs ps bt t d s) (a b x y : Value) :
    w.grownBy (put4 (w.heap.size + 1) a b x y W) (some g) ∧ Cur (put4 (w.heap.size + 1) a b x y W) g gb xs s.1 s.2 ∧ At (put4 (w.heap.size + 1) a b x y W) (w.heap.size + 1) 32 [a, b, x, y] := by
  have n1 : g ≠ w.heap.size + 1 := by have := h.hg; omega
  have n2 : gb ≠ w.heap.size + 1 := h.rd.cur.2.1.ne h.rs (by decide)
  exact ⟨grow_set (grow_set (grow_set (grow_set h.gr (by omega) 0 a) (by omega) 1 b) (by omega) 2 x) (by omega) 3 y,
    (((h.rd.cur.far n1 n2 0 a).far n1 n2 1 b).far n1 n2 2 x).far n1 n2 3 y, (((h.rs.set 0 a).set 1 b).set 2 x).set 3 y⟩

/-- All is put. -/
theorem EB.fin {w W : World} {B g gb : Nat} {A : Option Addr} {n c : Nat} {xs : List Int} {ps : List Cst} {bt : Nat} {t d : Int} {s : St} (h : EB w W B g gb A n c xs ps bt t d s) (x y : Value) :
    w.grownBy (put4 (w.heap.size + 1) (.int .i64 t) (.int .i64 d) x y ((W.setCell ⟨bt, 2, none⟩ x).setCell ⟨bt, 3, none⟩ y)) (some g) ∧
    Cur (put4 (w.heap.size + 1) (.int .i64 t) (.int .i64 d) x y ((W.setCell ⟨bt, 2, none⟩ x).setCell ⟨bt, 3, none⟩ y)) g gb xs s.1 s.2 ∧
    At (put4 (w.heap.size + 1) (.int .i64 t) (.int .i64 d) x y ((W.setCell ⟨bt, 2, none⟩ x).setCell ⟨bt, 3, none⟩ y)) (w.heap.size + 1) 32 [.int .i64 t, .int .i64 d, x, y] ∧
    ∀ v m zs, W.ownsRow w.heap.size 37 3 v m zs → (put4 (w.heap.size + 1) (.int .i64 t) (.int .i64 d) x y ((W.setCell ⟨bt, 2, none⟩ x).setCell ⟨bt, 3, none⟩ y)).ownsRow w.heap.size 37 3 v m zs := by
  have n1 : g ≠ w.heap.size + 1 := by have := h.hg; omega
  have n2 : gb ≠ w.heap.size + 1 := h.rd.cur.2.1.ne h.rs (by decide)
  have n3 : g ≠ bt := by have := h.hg; have := h.lt; omega
  have n4 : gb ≠ bt := h.rd.cur.2.1.ne h.tb (by decide)
  have hl := h.lt
  have n5 : w.heap.size + 1 ≠ bt := by omega
  have r2 := (h.rs.far (p := ⟨bt, 2, none⟩) n5 x).far (p := ⟨bt, 3, none⟩) n5 y
  have b2 := h.tb.set 2 x
  refine ⟨grow_set (grow_set (grow_set (grow_set (grow_set (grow_set h.gr (by omega) 2 x) (by omega) 3 y) (by omega) 0 _) (by omega) 1 _) (by omega) 2 x) (by omega) 3 y,
    (((((h.rd.cur.far n3 n4 2 x).far n3 n4 3 y).far n1 n2 0 _).far n1 n2 1 _).far n1 n2 2 x).far n1 n2 3 y, (((r2.set 0 _).set 1 _).set 2 x).set 3 y, fun v m zs ho => ?_⟩
  have o2 := orow_set (orow_set ho h.tb (by decide) 2 x) b2 (by decide) 3 y
  have q0 := r2.set 0 (.int .i64 t)
  have q1 := q0.set 1 (.int .i64 d)
  have q2 := q1.set 2 x
  exact orow_set (orow_set (orow_set (orow_set o2 r2 (by decide) 0 _) q0 (by decide) 1 _) q1 (by decide) 2 x) q2 (by decide) 3 y

set_option maxHeartbeats 4000000 in
set_option maxRecDepth 100000 in
theorem smentry_any (g gb B : Nat) (A : Option Addr) (n c : Nat) (xs : List Int) (hxb : IsBytes xs) (ps : List Cst) (s : St) (w : World) (h : Rdr w B g gb A n c xs ps s) :
    Calls Try.prog 16 #[.agg #[.pointer (some ⟨g, 0, none⟩), .slice A n c]] w (EntryR (entryS xs ps s) g gb xs w) := by
  have HU : Hid (∀ W, Below w.heap.size w W → Calls Try.prog 33 #[.pointer (some ⟨g, 0, none⟩)] W fun e w' => e = .returned (.int .i64 (rdN xs s 1)) ∧ Cur w' g gb xs (rdS xs s 1).1 (rdS xs s 1).2 ∧ W.grownBy w' (some g)) := hide fun W hW => u1_s (h.cur.below hW)
  have hgw := h.cur.1.lt
  have ht := rd1_bd hxb s
  obtain ⟨R, hR⟩ : ∃ R, entryS xs ps s = R := ⟨_, rfl⟩
  rw [hR]
  unfold entryS at hR
  simp only at hR
  generalize rdN xs s 1 = t at *
  generalize rdS xs s 1 = s1 at *
  have HR := hide hR
  have HH := hide h
  clear hR h
  by_cases hno : 127 < t ∧ t < 247
  · have HRR : Hid (R = (none, s1)) := hide (by rw [← HR.out, if_pos hno])
    obtain ⟨no1, no2⟩ := hno
    clear HR
    go_enter Try.func16, Try.ntmps16
    go_wp2_with fail
    refine (HU.out _ ?_).mono ?_
    · repeat (first | with_reducible exact Below.refl _ _ | with_reducible refine Below.drew ?_ | with_reducible refine below_drewN ?_ _ | ((with_reducible refine Below.setCell ?_ ?hp _); case hp => simp) | ((with_reducible refine Below.alloc ?_ ?hp _); case hp => first | omega | (simp; done) | (simp; omega)))
    rintro e w1 ⟨rfl, hc1, hg1⟩
    have HE := hide (EB.begin (t := t) HH.out hc1 hg1)
    obtain ⟨⟨a0, a1⟩, ⟨t0, t1, t2, t3⟩, ⟨ft0, ft1, ft2, ft3⟩, ⟨r0, r1, r2, r3⟩, ⟨fr0, fr1, fr2, fr3⟩⟩ := HE.out.facts
    have HC1 := hide hc1
    clear hc1 hg1
    go_wp2_with fail
    have HF := HE.out.put (.int .i64 0) (.int .i64 0) (.slice none 0 0) (.slice none 0 0)
    dsimp only [put4] at HF
    clear HE a0 a1 t0 t1 t2 t3 ft0 ft1 ft2 ft3 r0 r1 r2 r3 fr0 fr1 fr2 fr3
    generalize World.setCell (World.setCell (World.setCell (World.setCell _ _ _) _ _) _ _) _ _ = w3 at *
    obtain ⟨⟨q0, q1, q2, q3⟩, -⟩ := c4_is HF.2.2
    refine bodyPost_ret (v := .tuple #[.agg #[.int .i64 0, .int .i64 0, .slice none 0 0, .slice none 0 0], .bool false]) ?_ rfl ?_
    · simp [results, Try.results16, go_sem, q0, q1, q2, q3]
      done
    · have hR := HRR.out
      subst hR
      exact ⟨HF.1, HF.2.1, .inr ⟨rfl, rfl⟩⟩
  · rw [if_neg hno] at HR
    obtain ⟨D, hD⟩ : ∃ D, deltaS xs t s1 = D := ⟨_, rfl⟩
    rw [hD] at HR
    obtain ⟨LS, hLS⟩ : ∃ LS, localsS xs t D.2 = LS := ⟨_, rfl⟩
    obtain ⟨m1, hm1, hm1'⟩ := localsS_nat hxb t D.2
    rw [hLS] at HR hm1
    obtain ⟨T1, hT1⟩ : ∃ T1, typesS xs ps m1 LS.2 = T1 := ⟨_, rfl⟩
    rw [hm1, Int.toNat_natCast, hT1] at HR
    obtain ⟨OS, hOS⟩ : ∃ OS, operandsS xs t T1.2 = OS := ⟨_, rfl⟩
    obtain ⟨m2, hm2, hm2'⟩ := operandsS_nat hxb t T1.2
    rw [hOS] at HR hm2
    obtain ⟨T2, hT2⟩ : ∃ T2, typesS xs ps m2 OS.2 = T2 := ⟨_, rfl⟩
    rw [hm2, Int.toNat_natCast, hT2] at HR
    have HO : Hid (∀ W bt, EB w W B g gb A n c xs ps bt t 0 s1 → Calls Try.prog 34 #[.agg #[.pointer (some ⟨g, 0, none⟩), .slice A n c], .int .i64 t] W fun e w' => e = .returned (.int .i64 D.1) ∧ Hid (W.grownBy w' (some g) ∧ EB w w' B g gb A n c xs ps bt t 0 D.2)) := hide fun W bt hW => by
      have := num_h hW (smoffset_any g gb B A n c xs ps s1 t ht W hW.rd)
      rwa [hD] at this
    have HL : Hid (∀ W bt, EB w W B g gb A n c xs ps bt t D.1 D.2 → Calls Try.prog 36 #[.agg #[.pointer (some ⟨g, 0, none⟩), .slice A n c], .int .i64 t] W fun e w' => e = .returned (.int .i64 m1) ∧ Hid (W.grownBy w' (some g) ∧ EB w w' B g gb A n c xs ps bt t D.1 LS.2)) := hide fun W bt hW => by
      have := num_h hW (smlocals_any g gb B A n c xs ps D.2 t ht W hW.rd)
      rwa [hLS, hm1] at this
    have HP : Hid (∀ W bt, EB w W B g gb A n c xs ps bt t D.1 T1.2 → Calls Try.prog 37 #[.agg #[.pointer (some ⟨g, 0, none⟩), .slice A n c], .int .i64 t] W fun e w' => e = .returned (.int .i64 m2) ∧ Hid (W.grownBy w' (some g) ∧ EB w w' B g gb A n c xs ps bt t D.1 OS.2)) := hide fun W bt hW => by
      have := num_h hW (smoperands_any g gb B A n c xs ps T1.2 t ht W hW.rd)
      rwa [hOS, hm2] at this
    have HT1 : Hid (∀ W bt, EB w W B g gb A n c xs ps bt t D.1 LS.2 → Calls Try.prog 35 #[.agg #[.pointer (some ⟨g, 0, none⟩), .slice A n c], .int .i64 m1] W fun e w' => ∃ a l k b, e = .returned (.tuple #[.slice a l k, .bool b]) ∧ Hid (W.grownBy w' (some g) ∧ EB w w' B g gb A n c xs ps bt t D.1 T1.2 ∧ TypesH T1 w.heap.size w' a l k b)) := hide fun W bt hW => by
      have := smtypes_h hm1' hW
      rwa [hT1] at this
    have HT2 : Hid (∀ W bt, EB w W B g gb A n c xs ps bt t D.1 OS.2 → Calls Try.prog 35 #[.agg #[.pointer (some ⟨g, 0, none⟩), .slice A n c], .int .i64 m2] W fun e w' => ∃ a l k b, e = .returned (.tuple #[.slice a l k, .bool b]) ∧ Hid (W.grownBy w' (some g) ∧ EB w w' B g gb A n c xs ps bt t D.1 T2.2 ∧ TypesH T2 w.heap.size w' a l k b)) := hide fun W bt hW => by
      have := smtypes_h hm2' hW
      rwa [hT2] at this
    have HNO := hide hno
    clear hLS hm1 hm1' hT1 hOS hm2 hm2' hT2 hD hno
    go_enter Try.func16, Try.ntmps16
    go_wp2_with fail
    refine (HU.out _ ?_).mono ?_
    · repeat (first | with_reducible exact Below.refl _ _ | with_reducible refine Below.drew ?_ | with_reducible refine below_drewN ?_ _ | ((with_reducible refine Below.setCell ?_ ?hp _); case hp => simp) | ((with_reducible refine Below.alloc ?_ ?hp _); case hp => first | omega | (simp; done) | (simp; omega)))
    rintro e w1 ⟨rfl, hc1, hg1⟩
    have HE := hide (EB.begin (t := t) HH.out hc1 hg1)
    obtain ⟨⟨a0, a1⟩, ⟨t0, t1, t2, t3⟩, ⟨ft0, ft1, ft2, ft3⟩, ⟨r0, r1, r2, r3⟩, ⟨fr0, fr1, fr2, fr3⟩⟩ := HE.out.facts
    clear hc1 hg1
    have h247' : (127 < t ∧ ¬ t < 247) ∨ ¬ 127 < t := by have := HNO.out; omega
    rcases h247' with ⟨h127, h247⟩ | h127
    · go_wp2_with fail
      generalize w1.alloc (.cells #[.int .i64 t, .int .i64 0, .slice none 0 0, .slice none 0 0] 32) = wa at *
      generalize w1.heap.size = bt at *
      clear a0 a1 t0 t1 t2 t3 ft0 ft1 ft2 ft3 r0 r1 r2 r3 fr0 fr1 fr2 fr3
      refine (HO.out _ _ HE.out).mono ?_
      rintro e w2 ⟨rfl, H2⟩
      have HE2 := hide H2.out.2
      obtain ⟨⟨a0, a1⟩, ⟨t0, t1, t2, t3⟩, ⟨ft0, ft1, ft2, ft3⟩, ⟨r0, r1, r2, r3⟩, ⟨fr0, fr1, fr2, fr3⟩⟩ := HE2.out.facts
      have HE3 := hide (HE2.out.delta D.1)
      clear HE H2 HU HO HH HE2
      go_wp2_with fail
      clear a0 a1 t0 t1 t2 t3 ft0 ft1 ft2 ft3 r0 r1 r2 r3 fr0 fr1 fr2 fr3
      generalize w2.setCell ⟨bt, 1, none⟩ (.int .i64 D.1) = w3 at *
      obtain ⟨⟨a0, a1⟩, ⟨t0, t1, t2, t3⟩, ⟨ft0, ft1, ft2, ft3⟩, ⟨r0, r1, r2, r3⟩, ⟨fr0, fr1, fr2, fr3⟩⟩ := HE3.out.facts
      go_region_held3 (fun W => W.cell? ⟨w.heap.size, 0, none⟩ = some (.pointer (some ⟨g, 0, none⟩)) ∧ W.cell? ⟨w.heap.size, 1, none⟩ = some (.slice A n c) ∧ W.cell? ⟨bt, 0, none⟩ = some (.int .i64 t)) (go_keep) (first
        | (go_at_call 36; refine (HL.out _ bt (by first | exact HE3.out.drewN _ | exact HE3.out)).mono ?_; rintro e w5 ⟨rfl, h5⟩; obtain ⟨⟨b0, b1⟩, ⟨b2, -, -, -⟩, -⟩ := h5.out.2.facts)
        | (go_at_call 35; refine (HT1.out _ bt (by first | exact h5.out.2 | exact h5.out.2.drewN _)).mono ?_; rintro e w6 ⟨la, ll, lk, lb, rfl, h6⟩; obtain ⟨⟨b3, b4⟩, ⟨b5, -, -, -⟩, -⟩ := h6.out.2.1.facts))
      go_wp2_with fail
      clear a0 a1 t0 t1 t2 t3 ft0 ft1 ft2 ft3 r0 r1 r2 r3 fr0 fr1 fr2 fr3
      have K6 := hide h6.out.2.1
      have hz6 := h5.out.2.gr.size
      go_region_held3 (fun W => W.cell? ⟨w.heap.size, 0, none⟩ = some (.pointer (some ⟨g, 0, none⟩)) ∧ W.cell? ⟨w.heap.size, 1, none⟩ = some (.slice A n c) ∧ W.cell? ⟨bt, 0, none⟩ = some (.int .i64 t)) (go_keep) (first
        | (go_at_call 37; refine (HP.out _ bt (by first | exact K6.out.drewN _ | exact K6.out)).mono ?_; rintro e w7 ⟨rfl, h7⟩; obtain ⟨⟨d0, d1⟩, ⟨d2, -, -, -⟩, -⟩ := h7.out.2.facts)
        | (go_at_call 35; refine (HT2.out _ bt (by first | exact h7.out.2 | exact h7.out.2.drewN _)).mono ?_; rintro e w8 ⟨sa, sl, sk, sb, rfl, h8⟩; obtain ⟨⟨d3, d4⟩, ⟨d5, -, -, -⟩, -⟩ := h8.out.2.1.facts))
      have HTa : Hid (TypesH T1 w.heap.size w8 la ll lk lb) := hide ((h6.out.2.2.kept (w' := w7) (grown_trans (grown_below (below_drewN (Below.refl _ _) 1) _) h7.out.1) K6.out.hg).kept h8.out.1 K6.out.hg)
      have HTb : Hid (TypesH T2 w.heap.size w8 sa sl sk sb) := hide h8.out.2.2
      have HE8 := hide h8.out.2.1
      clear h5 h6 h7 h8 K6 b0 b1 b2 b3 b4 b5 d0 d1 d2 d3 d4 d5 HE3 HL HP HT1 HT2 hz6
      obtain ⟨⟨a0, a1⟩, ⟨t0, t1, t2, t3⟩, ⟨ft0, ft1, ft2, ft3⟩, ⟨r0, r1, r2, r3⟩, ⟨fr0, fr1, fr2, fr3⟩⟩ := HE8.out.facts
      have HOK : Hid (∀ W, EB w W B g gb A n c xs ps bt t D.1 T2.2 → Calls Try.prog 17 #[.pointer (some ⟨g, 0, none⟩)] W fun e w' => e = .returned (.bool (!T2.2.2)) ∧ W = w') := hide fun W hW => ok_any g gb xs _ _ _ hW.rd.cur
      cases lb
      · have HRn : Hid (R = (none, T2.2)) := hide (by
          rcases HTa.out with ⟨h1, _⟩ | ⟨_, h2⟩
          · cases h1
          · rw [← HR.out, h2])
        go_wp2_with fail
        have HF := HE8.out.put (.int .i64 0) (.int .i64 0) (.slice none 0 0) (.slice none 0 0)
        dsimp only [put4] at HF
        clear HE8 HOK a0 a1 t0 t1 t2 t3 ft0 ft1 ft2 ft3 r0 r1 r2 r3 fr0 fr1 fr2 fr3
        generalize World.setCell (World.setCell (World.setCell (World.setCell _ _ _) _ _) _ _) _ _ = w9 at *
        obtain ⟨⟨q0, q1, q2, q3⟩, -⟩ := c4_is HF.2.2
        refine bodyPost_ret (v := .tuple #[.agg #[.int .i64 0, .int .i64 0, .slice none 0 0, .slice none 0 0], .bool false]) ?_ rfl ?_
        · simp [results, Try.results16, go_sem, q0, q1, q2, q3]
        · have hR := HRn.out
          subst hR
          exact ⟨HF.1, HF.2.1, .inr ⟨rfl, rfl⟩⟩
      cases sb
      · have HRn : Hid (R = (none, T2.2)) := hide (by
          rcases HTb.out with ⟨h1, _⟩ | ⟨_, h2⟩
          · cases h1
          · rw [← HR.out, h2]
            cases T1.1 <;> rfl)
        go_wp2_with fail
        have HF := HE8.out.put (.int .i64 0) (.int .i64 0) (.slice none 0 0) (.slice none 0 0)
        dsimp only [put4] at HF
        clear HE8 HOK a0 a1 t0 t1 t2 t3 ft0 ft1 ft2 ft3 r0 r1 r2 r3 fr0 fr1 fr2 fr3
        generalize World.setCell (World.setCell (World.setCell (World.setCell _ _ _) _ _) _ _) _ _ = w9 at *
        obtain ⟨⟨q0, q1, q2, q3⟩, -⟩ := c4_is HF.2.2
        refine bodyPost_ret (v := .tuple #[.agg #[.int .i64 0, .int .i64 0, .slice none 0 0, .slice none 0 0], .bool false]) ?_ rfl ?_
        · simp [results, Try.results16, go_sem, q0, q1, q2, q3]
        · have hR := HRn.out
          subst hR
          exact ⟨HF.1, HF.2.1, .inr ⟨rfl, rfl⟩⟩
      obtain ⟨La, e1, oa⟩ : ∃ L, T1.1 = some L ∧ w8.ownsRow w.heap.size 37 3 (.slice la ll lk) L.length (vcells L) := by
        rcases HTa.out with ⟨_, h⟩ | ⟨h, _⟩
        · exact h
        · cases h
      obtain ⟨Lb, e2, ob⟩ : ∃ L, T2.1 = some L ∧ w8.ownsRow w.heap.size 37 3 (.slice sa sl sk) L.length (vcells L) := by
        rcases HTb.out with ⟨_, h⟩ | ⟨h, _⟩
        · exact h
        · cases h
      have HRy : Hid (R = (if T2.2.2 = true then none else some ⟨t, D.1, La, Lb⟩, T2.2)) := hide (by rw [← HR.out, e1, e2])
      have Oa := hide oa
      have Ob := hide ob
      clear e1 e2 oa ob HR HTa HTb
      have hlt8 := HE8.out.lt
      have hne8 : w.heap.size + 1 ≠ bt := by omega
      have hne9 : bt ≠ w.heap.size + 1 := by omega
      obtain ⟨T2a, T2k, T2b⟩ := T2
      cases T2b
      · have HOK : Hid (∀ W, EB w W B g gb A n c xs ps bt t D.1 (T2a, T2k, false).2 → Calls Try.prog 17 #[.pointer (some ⟨g, 0, none⟩)] W fun e w' => e = .returned (.bool true) ∧ W = w') := HOK
        go_wp2_with fail
        refine (HOK.out _ HE8.out).mono ?_
        rintro e w9 ⟨rfl, rfl⟩
        go_wp2_with fail
        have HF := HE8.out.fin (.slice la ll lk) (.slice sa sl sk)
        dsimp only [put4] at HF
        have OA := HF.2.2.2 _ _ _ Oa.out
        have OB := HF.2.2.2 _ _ _ Ob.out
        have HF' := HF.2.2.1
        have HFa := HF.1
        have HFb := HF.2.1
        clear HF HE8 HOK a0 a1 t0 t1 t2 t3 ft0 ft1 ft2 ft3 r0 r1 r2 r3 fr0 fr1 fr2 fr3 Oa Ob
        generalize World.setCell (World.setCell (World.setCell (World.setCell _ _ _) _ _) _ _) _ _ = w9 at *
        obtain ⟨⟨q0, q1, q2, q3⟩, -⟩ := c4_is HF'
        refine bodyPost_ret (v := .tuple #[.agg #[.int .i64 t, .int .i64 D.1, .slice la ll lk, .slice sa sl sk], .bool true]) ?_ rfl ?_
        · simp [results, Try.results16, go_sem, q0, q1, q2, q3]
        · have hR := HRy.out
          subst hR
          exact ⟨HFa, HFb, .inl ⟨⟨t, D.1, La, Lb⟩, _, _, _, _, _, _, rfl, rfl, OA, OB⟩⟩
      · have HRn : Hid (R = (none, (T2k, true))) := HRy
        have HOK : Hid (∀ W, EB w W B g gb A n c xs ps bt t D.1 (T2a, T2k, true).2 → Calls Try.prog 17 #[.pointer (some ⟨g, 0, none⟩)] W fun e w' => e = .returned (.bool false) ∧ W = w') := HOK
        clear HRy
        go_wp2_with fail
        refine (HOK.out _ HE8.out).mono ?_
        rintro e w9 ⟨rfl, rfl⟩
        go_wp2_with fail
        have HF := HE8.out.put (.int .i64 0) (.int .i64 0) (.slice none 0 0) (.slice none 0 0)
        dsimp only [put4] at HF
        clear HE8 HOK a0 a1 t0 t1 t2 t3 ft0 ft1 ft2 ft3 r0 r1 r2 r3 fr0 fr1 fr2 fr3
        generalize World.setCell (World.setCell (World.setCell (World.setCell _ _ _) _ _) _ _) _ _ = w9 at *
        obtain ⟨⟨q0, q1, q2, q3⟩, -⟩ := c4_is HF.2.2
        refine bodyPost_ret (v := .tuple #[.agg #[.int .i64 0, .int .i64 0, .slice none 0 0, .slice none 0 0], .bool false]) ?_ rfl ?_
        · simp [results, Try.results16, go_sem, q0, q1, q2, q3]
        · have hR := HRn.out
          subst hR
          exact ⟨HF.1, HF.2.1, .inr ⟨rfl, rfl⟩⟩
    · go_wp2_with fail
      generalize w1.alloc (.cells #[.int .i64 t, .int .i64 0, .slice none 0 0, .slice none 0 0] 32) = wa at *
      generalize w1.heap.size = bt at *
      clear a0 a1 t0 t1 t2 t3 ft0 ft1 ft2 ft3 r0 r1 r2 r3 fr0 fr1 fr2 fr3
      refine (HO.out _ _ HE.out).mono ?_
      rintro e w2 ⟨rfl, H2⟩
      have HE2 := hide H2.out.2
      obtain ⟨⟨a0, a1⟩, ⟨t0, t1, t2, t3⟩, ⟨ft0, ft1, ft2, ft3⟩, ⟨r0, r1, r2, r3⟩, ⟨fr0, fr1, fr2, fr3⟩⟩ := HE2.out.facts
      have HE3 := hide (HE2.out.delta D.1)
      clear HE H2 HU HO HH HE2
      go_wp2_with fail
      clear a0 a1 t0 t1 t2 t3 ft0 ft1 ft2 ft3 r0 r1 r2 r3 fr0 fr1 fr2 fr3
      generalize w2.setCell ⟨bt, 1, none⟩ (.int .i64 D.1) = w3 at *
      obtain ⟨⟨a0, a1⟩, ⟨t0, t1, t2, t3⟩, ⟨ft0, ft1, ft2, ft3⟩, ⟨r0, r1, r2, r3⟩, ⟨fr0, fr1, fr2, fr3⟩⟩ := HE3.out.facts
      go_region_held3 (fun W => W.cell? ⟨w.heap.size, 0, none⟩ = some (.pointer (some ⟨g, 0, none⟩)) ∧ W.cell? ⟨w.heap.size, 1, none⟩ = some (.slice A n c) ∧ W.cell? ⟨bt, 0, none⟩ = some (.int .i64 t)) (go_keep) (first
        | (go_at_call 36; refine (HL.out _ bt (by first | exact HE3.out.drewN _ | exact HE3.out)).mono ?_; rintro e w5 ⟨rfl, h5⟩; obtain ⟨⟨b0, b1⟩, ⟨b2, -, -, -⟩, -⟩ := h5.out.2.facts)
        | (go_at_call 35; refine (HT1.out _ bt (by first | exact h5.out.2 | exact h5.out.2.drewN _)).mono ?_; rintro e w6 ⟨la, ll, lk, lb, rfl, h6⟩; obtain ⟨⟨b3, b4⟩, ⟨b5, -, -, -⟩, -⟩ := h6.out.2.1.facts))
      go_wp2_with fail
      clear a0 a1 t0 t1 t2 t3 ft0 ft1 ft2 ft3 r0 r1 r2 r3 fr0 fr1 fr2 fr3
      have K6 := hide h6.out.2.1
      have hz6 := h5.out.2.gr.size
      go_region_held3 (fun W => W.cell? ⟨w.heap.size, 0, none⟩ = some (.pointer (some ⟨g, 0, none⟩)) ∧ W.cell? ⟨w.heap.size, 1, none⟩ = some (.slice A n c) ∧ W.cell? ⟨bt, 0, none⟩ = some (.int .i64 t)) (go_keep) (first
        | (go_at_call 37; refine (HP.out _ bt (by first | exact K6.out.drewN _ | exact K6.out)).mono ?_; rintro e w7 ⟨rfl, h7⟩; obtain ⟨⟨d0, d1⟩, ⟨d2, -, -, -⟩, -⟩ := h7.out.2.facts)
        | (go_at_call 35; refine (HT2.out _ bt (by first | exact h7.out.2 | exact h7.out.2.drewN _)).mono ?_; rintro e w8 ⟨sa, sl, sk, sb, rfl, h8⟩; obtain ⟨⟨d3, d4⟩, ⟨d5, -, -, -⟩, -⟩ := h8.out.2.1.facts))
      have HTa : Hid (TypesH T1 w.heap.size w8 la ll lk lb) := hide ((h6.out.2.2.kept (w' := w7) (grown_trans (grown_below (below_drewN (Below.refl _ _) 1) _) h7.out.1) K6.out.hg).kept h8.out.1 K6.out.hg)
      have HTb : Hid (TypesH T2 w.heap.size w8 sa sl sk sb) := hide h8.out.2.2
      have HE8 := hide h8.out.2.1
      clear h5 h6 h7 h8 K6 b0 b1 b2 b3 b4 b5 d0 d1 d2 d3 d4 d5 HE3 HL HP HT1 HT2 hz6
      obtain ⟨⟨a0, a1⟩, ⟨t0, t1, t2, t3⟩, ⟨ft0, ft1, ft2, ft3⟩, ⟨r0, r1, r2, r3⟩, ⟨fr0, fr1, fr2, fr3⟩⟩ := HE8.out.facts
      have HOK : Hid (∀ W, EB w W B g gb A n c xs ps bt t D.1 T2.2 → Calls Try.prog 17 #[.pointer (some ⟨g, 0, none⟩)] W fun e w' => e = .returned (.bool (!T2.2.2)) ∧ W = w') := hide fun W hW => ok_any g gb xs _ _ _ hW.rd.cur
      cases lb
      · have HRn : Hid (R = (none, T2.2)) := hide (by
          rcases HTa.out with ⟨h1, _⟩ | ⟨_, h2⟩
          · cases h1
          · rw [← HR.out, h2])
        go_wp2_with fail
        have HF := HE8.out.put (.int .i64 0) (.int .i64 0) (.slice none 0 0) (.slice none 0 0)
        dsimp only [put4] at HF
        clear HE8 HOK a0 a1 t0 t1 t2 t3 ft0 ft1 ft2 ft3 r0 r1 r2 r3 fr0 fr1 fr2 fr3
        generalize World.setCell (World.setCell (World.setCell (World.setCell _ _ _) _ _) _ _) _ _ = w9 at *
        obtain ⟨⟨q0, q1, q2, q3⟩, -⟩ := c4_is HF.2.2
        refine bodyPost_ret (v := .tuple #[.agg #[.int .i64 0, .int .i64 0, .slice none 0 0, .slice none 0 0], .bool false]) ?_ rfl ?_
        · simp [results, Try.results16, go_sem, q0, q1, q2, q3]
        · have hR := HRn.out
          subst hR
          exact ⟨HF.1, HF.2.1, .inr ⟨rfl, rfl⟩⟩
      cases sb
      · have HRn : Hid (R = (none, T2.2)) := hide (by
          rcases HTb.out with ⟨h1, _⟩ | ⟨_, h2⟩
          · cases h1
          · rw [← HR.out, h2]
            cases T1.1 <;> rfl)
        go_wp2_with fail
        have HF := HE8.out.put (.int .i64 0) (.int .i64 0) (.slice none 0 0) (.slice none 0 0)
        dsimp only [put4] at HF
        clear HE8 HOK a0 a1 t0 t1 t2 t3 ft0 ft1 ft2 ft3 r0 r1 r2 r3 fr0 fr1 fr2 fr3
        generalize World.setCell (World.setCell (World.setCell (World.setCell _ _ _) _ _) _ _) _ _ = w9 at *
        obtain ⟨⟨q0, q1, q2, q3⟩, -⟩ := c4_is HF.2.2
        refine bodyPost_ret (v := .tuple #[.agg #[.int .i64 0, .int .i64 0, .slice none 0 0, .slice none 0 0], .bool false]) ?_ rfl ?_
        · simp [results, Try.results16, go_sem, q0, q1, q2, q3]
        · have hR := HRn.out
          subst hR
          exact ⟨HF.1, HF.2.1, .inr ⟨rfl, rfl⟩⟩
      obtain ⟨La, e1, oa⟩ : ∃ L, T1.1 = some L ∧ w8.ownsRow w.heap.size 37 3 (.slice la ll lk) L.length (vcells L) := by
        rcases HTa.out with ⟨_, h⟩ | ⟨h, _⟩
        · exact h
        · cases h
      obtain ⟨Lb, e2, ob⟩ : ∃ L, T2.1 = some L ∧ w8.ownsRow w.heap.size 37 3 (.slice sa sl sk) L.length (vcells L) := by
        rcases HTb.out with ⟨_, h⟩ | ⟨h, _⟩
        · exact h
        · cases h
      have HRy : Hid (R = (if T2.2.2 = true then none else some ⟨t, D.1, La, Lb⟩, T2.2)) := hide (by rw [← HR.out, e1, e2])
      have Oa := hide oa
      have Ob := hide ob
      clear e1 e2 oa ob HR HTa HTb
      have hlt8 := HE8.out.lt
      have hne8 : w.heap.size + 1 ≠ bt := by omega
      have hne9 : bt ≠ w.heap.size + 1 := by omega
      obtain ⟨T2a, T2k, T2b⟩ := T2
      cases T2b
      · have HOK : Hid (∀ W, EB w W B g gb A n c xs ps bt t D.1 (T2a, T2k, false).2 → Calls Try.prog 17 #[.pointer (some ⟨g, 0, none⟩)] W fun e w' => e = .returned (.bool true) ∧ W = w') := HOK
        go_wp2_with fail
        refine (HOK.out _ HE8.out).mono ?_
        rintro e w9 ⟨rfl, rfl⟩
        go_wp2_with fail
        have HF := HE8.out.fin (.slice la ll lk) (.slice sa sl sk)
        dsimp only [put4] at HF
        have OA := HF.2.2.2 _ _ _ Oa.out
        have OB := HF.2.2.2 _ _ _ Ob.out
        have HF' := HF.2.2.1
        have HFa := HF.1
        have HFb := HF.2.1
        clear HF HE8 HOK a0 a1 t0 t1 t2 t3 ft0 ft1 ft2 ft3 r0 r1 r2 r3 fr0 fr1 fr2 fr3 Oa Ob
        generalize World.setCell (World.setCell (World.setCell (World.setCell _ _ _) _ _) _ _) _ _ = w9 at *
        obtain ⟨⟨q0, q1, q2, q3⟩, -⟩ := c4_is HF'
        refine bodyPost_ret (v := .tuple #[.agg #[.int .i64 t, .int .i64 D.1, .slice la ll lk, .slice sa sl sk], .bool true]) ?_ rfl ?_
        · simp [results, Try.results16, go_sem, q0, q1, q2, q3]
        · have hR := HRy.out
          subst hR
          exact ⟨HFa, HFb, .inl ⟨⟨t, D.1, La, Lb⟩, _, _, _, _, _, _, rfl, rfl, OA, OB⟩⟩
      · have HRn : Hid (R = (none, (T2k, true))) := HRy
        have HOK : Hid (∀ W, EB w W B g gb A n c xs ps bt t D.1 (T2a, T2k, true).2 → Calls Try.prog 17 #[.pointer (some ⟨g, 0, none⟩)] W fun e w' => e = .returned (.bool false) ∧ W = w') := HOK
        clear HRy
        go_wp2_with fail
        refine (HOK.out _ HE8.out).mono ?_
        rintro e w9 ⟨rfl, rfl⟩
        go_wp2_with fail
        have HF := HE8.out.put (.int .i64 0) (.int .i64 0) (.slice none 0 0) (.slice none 0 0)
        dsimp only [put4] at HF
        clear HE8 HOK a0 a1 t0 t1 t2 t3 ft0 ft1 ft2 ft3 r0 r1 r2 r3 fr0 fr1 fr2 fr3
        generalize World.setCell (World.setCell (World.setCell (World.setCell _ _ _) _ _) _ _) _ _ = w9 at *
        obtain ⟨⟨q0, q1, q2, q3⟩, -⟩ := c4_is HF.2.2
        refine bodyPost_ret (v := .tuple #[.agg #[.int .i64 0, .int .i64 0, .slice none 0 0, .slice none 0 0], .bool false]) ?_ rfl ?_
        · simp [results, Try.results16, go_sem, q0, q1, q2, q3]
        · have hR := HRn.out
          subst hR
          exact ⟨HF.1, HF.2.1, .inr ⟨rfl, rfl⟩⟩
end Go.Proofs.Ytlgknednfgpgfaa
