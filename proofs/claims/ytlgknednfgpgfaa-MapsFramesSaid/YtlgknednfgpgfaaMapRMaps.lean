/- The document's answer for what a StackMapTable holds. Nothing is claimed here. -/
import Derived.Test.YtlgknednfgpgfaaMapRTypes
import Derived.Test.YtlgknednfgpgfaaMapRead
namespace Go.Proofs.Ytlgknednfgpgfaa
open Go.RowKit

/-- Where an entry's reading stands. -/
structure MB (w W : World) (B r base : Nat) (A : Option Addr) (c : Nat) (xs : List Int) (Ap : Option Addr) (np : Nat) (ps : List Cst) (b0 : Nat) (u : Value) (j : Nat) (L : List (Mp × Value × Value)) (bt : Nat) (t d : Int) (V1 V2 : Value) (l1 l2 : List VT) (s : St) : Prop where
  rd : RRd W B r base A c xs Ap np ps s
  be : Below w.heap.size w W
  own : W.ownsRow b0 32 4 u j (mcells L)
  rows : MRows W b0 L
  tb : At W bt 32 [.int .i64 t, .int .i64 d, V1, V2]
  o1 : W.ownsRow b0 37 3 V1 l1.length (vcells l1)
  o2 : W.ownsRow b0 37 3 V2 l2.length (vcells l2)
  hb : b0 ≤ bt
  hr : r < b0
  hw : w.heap.size ≤ r
  far : some bt ≠ u.ownBlock
section
variable {w W w' : World} {B r base : Nat} {A : Option Addr} {c : Nat} {xs : List Int} {Ap : Option Addr} {np : Nat} {ps : List Cst} {b0 : Nat} {u : Value} {j : Nat} {L : List (Mp × Value × Value)} {bt : Nat} {t d : Int} {V1 V2 : Value} {l1 l2 : List VT} {s s' : St}
theorem MB.turn (h : MB w W B r base A c xs Ap np ps b0 u j L bt t d V1 V2 l1 l2 s) (hc : RefG w' r base A c xs s'.1 s'.2) (hg : W.grownBy w' (some r)) : MB w w' B r base A c xs Ap np ps b0 u j L bt t d V1 V2 l1 l2 s' :=
  ⟨h.rd.step hc hg, h.be.trans (below_of_grownG hg h.hw h.be.size), orow_kept h.own hg h.hr, h.rows.kept hg h.hr, h.tb.grown hg (by have := h.hb; have := h.hr; simp; omega), orow_kept h.o1 hg h.hr, orow_kept h.o2 hg h.hr, h.hb, h.hr, h.hw, h.far⟩
theorem MB.delta (h : MB w W B r base A c xs Ap np ps b0 u j L bt t d V1 V2 l1 l2 s) (d' : Int) : MB w (W.setCell ⟨bt, 1, none⟩ (.int .i64 d')) B r base A c xs Ap np ps b0 u j L bt t d' V1 V2 l1 l2 s :=
  ⟨h.rd.set (q := bt) (by have := h.hb; have := h.hr; omega) 1 _, h.be.trans ((Below.refl _ _).setCell (by have := h.hb; have := h.hr; have := h.hw; simp; omega) _), h.own.kept (only_set _) (.inr h.far.symm),
    fun x hx => ⟨orow_set (h.rows x hx).1 h.tb (by decide) 1 _, orow_set (h.rows x hx).2 h.tb (by decide) 1 _⟩, h.tb.set 1 _, orow_set h.o1 h.tb (by decide) 1 _, orow_set h.o2 h.tb (by decide) 1 _, h.hb, h.hr, h.hw, h.far⟩
theorem MB.loc (h : MB w W B r base A c xs Ap np ps b0 u j L bt t d V1 V2 l1 l2 s) {V : Value} {l : List VT} (ho : W.ownsRow b0 37 3 V l.length (vcells l)) : MB w (W.setCell ⟨bt, 2, none⟩ V) B r base A c xs Ap np ps b0 u j L bt t d V V2 l l2 s :=
  ⟨h.rd.set (q := bt) (by have := h.hb; have := h.hr; omega) 2 _, h.be.trans ((Below.refl _ _).setCell (by have := h.hb; have := h.hr; have := h.hw; simp; omega) _), h.own.kept (only_set _) (.inr h.far.symm),
    fun x hx => ⟨orow_set (h.rows x hx).1 h.tb (by decide) 2 _, orow_set (h.rows x hx).2 h.tb (by decide) 2 _⟩, h.tb.set 2 _, orow_set ho h.tb (by decide) 2 _, orow_set h.o2 h.tb (by decide) 2 _, h.hb, h.hr, h.hw, h.far⟩
theorem MB.sta (h : MB w W B r base A c xs Ap np ps b0 u j L bt t d V1 V2 l1 l2 s) {V : Value} {l : List VT} (ho : W.ownsRow b0 37 3 V l.length (vcells l)) : MB w (W.setCell ⟨bt, 3, none⟩ V) B r base A c xs Ap np ps b0 u j L bt t d V1 V l1 l s :=
  ⟨h.rd.set (q := bt) (by have := h.hb; have := h.hr; omega) 3 _, h.be.trans ((Below.refl _ _).setCell (by have := h.hb; have := h.hr; have := h.hw; simp; omega) _), h.own.kept (only_set _) (.inr h.far.symm),
    fun x hx => ⟨orow_set (h.rows x hx).1 h.tb (by decide) 3 _, orow_set (h.rows x hx).2 h.tb (by decide) 3 _⟩, h.tb.set 3 _, orow_set h.o1 h.tb (by decide) 3 _, orow_set ho h.tb (by decide) 3 _, h.hb, h.hr, h.hw, h.far⟩
theorem rn_mb (h : MB w W B r base A c xs Ap np ps b0 u j L bt t d V1 V2 l1 l2 s) : Calls Try.prog 19 #[.pointer (some ⟨r, 0, none⟩), .int .i64 2] W fun e w' => e = .returned (.int .i64 (rdN xs s 2)) ∧ Hid (MB w w' B r base A c xs Ap np ps b0 u j L bt t d V1 V2 l1 l2 (rdS xs s 2)) :=
  (rn_s h.rd.ref 2 (by decide) (by decide)).mono fun _ _ ⟨he, hc, hg⟩ => ⟨he, hide (h.turn hc hg)⟩
theorem rvtypes_mb {cp m : Nat} (hm : m ≤ 65536) (h : MB w W B r base A c xs Ap np ps b0 u j L bt t d V1 V2 l1 l2 s) : Calls Try.prog 20 #[.pointer (some ⟨r, 0, none⟩), .slice Ap np cp, .int .i64 m] W fun e w' =>
    ∃ a l k b lst, e = .returned (.tuple #[.slice a l k, .bool b]) ∧ Hid (MB w w' B r base A c xs Ap np ps b0 u j L bt t d V1 V2 l1 l2 (typesS xs ps m s).2 ∧ w'.ownsRow b0 37 3 (.slice a l k) lst.length (vcells lst) ∧ ((b = true ∧ (typesS xs ps m s).1 = some lst) ∨ (b = false ∧ (typesS xs ps m s).1 = none))) := by
  refine (rvtypes_any r base B A c xs Ap np cp ps m hm s W h.rd).mono fun e w' hh => ?_
  obtain ⟨hg, hc, ⟨l, V, h1, rfl, h2⟩ | ⟨h1, rfl⟩⟩ := hh
  · obtain ⟨a, k, rfl⟩ := orow_shape h2
    exact ⟨a, _, k, true, l, rfl, hide ⟨h.turn hc hg, orow_mono h2 (by have := h.tb.lt; have := h.hb; omega), .inl ⟨rfl, h1⟩⟩⟩
  · exact ⟨none, 0, 0, false, [], rfl, hide ⟨h.turn hc hg, ⟨rfl, .inl ⟨rfl, rfl⟩⟩, .inr ⟨rfl, h1⟩⟩⟩
theorem MB.facts (h : MB w W B r base A c xs Ap np ps b0 u j L bt t d V1 V2 l1 l2 s) :
    (W.cell? ⟨bt, 0, none⟩ = some (.int .i64 t) ∧ W.cell? ⟨bt, 1, none⟩ = some (.int .i64 d) ∧ W.cell? ⟨bt, 2, none⟩ = some V1 ∧ W.cell? ⟨bt, 3, none⟩ = some V2) ∧
    (W.frozen? ⟨bt, 0, none⟩ = false ∧ W.frozen? ⟨bt, 1, none⟩ = false ∧ W.frozen? ⟨bt, 2, none⟩ = false ∧ W.frozen? ⟨bt, 3, none⟩ = false) ∧ W.cell? ⟨r, 2, none⟩ = some (.bool s.2) :=
  ⟨(c4_is h.tb).1, (c4_is h.tb).2, h.rd.ref.1.cell 2⟩
theorem MB.start {n0 : Nat} (hrd : RRd W B r base A c xs Ap np ps s) (hbe : Below w.heap.size w W) (hown : W.ownsRow b0 32 4 u n0 (mcells L)) (hrows : MRows W b0 L) (hb : b0 ≤ W.heap.size) (hr : r < b0) (hw : w.heap.size ≤ r) (hc : RefG w' r base A c xs s'.1 s'.2) (hg : W.grownBy w' (some r)) (t d : Int) :
    MB w (w'.alloc (.cells #[.int .i64 t, .int .i64 d, .slice none 0 0, .slice none 0 0] 32)) B r base A c xs Ap np ps b0 u n0 L w'.heap.size t d (.slice none 0 0) (.slice none 0 0) [] [] s' := by
  have ha : Below w'.heap.size w' (w'.alloc (.cells #[.int .i64 t, .int .i64 d, .slice none 0 0, .slice none 0 0] 32)) := (Below.refl _ _).alloc (Nat.le_refl _) _
  have hz := hg.size
  have hbz := hbe.size
  exact ⟨(hrd.step hc hg).below ha, (hbe.trans (below_of_grownG hg hw hbz)).trans (ha.mono (by omega)), orow_below (orow_kept hown hg hr) ha, (hrows.kept hg hr).below ha, At.new _ _ _, ⟨rfl, .inl ⟨rfl, rfl⟩⟩, ⟨rfl, .inl ⟨rfl, rfl⟩⟩, by omega, hr, hw, orow_new (orow_kept hown hg hr) (Nat.le_refl _)⟩
end
/-- What an entry comes to. -/
def EntFin (N : Option Mp × St) (t d : Int) (l1 l2 : List VT) (ok : Bool) (s : St) : Prop := N = (if ok && !s.2 then some ⟨t, d, l1, l2⟩ else none, s)

section
variable {xs : List Int} {ps : List Cst} {s : St} {t : Int} {s1 : St}
theorem typesS_zero (s : St) : typesS xs ps 0 s = (some [], s) := rfl
theorem ent_1   (h1 : rdN xs s 1 = t) (h2 : rdS xs s 1 = s1) (ht : t ≤ 63) : EntFin (entryS xs ps s) t t [] [] true s1 := by
  have c1 : ¬ (127 < t ∧ t < 247) := by omega
  have c2 : (t ≤ 63) := by omega
  have c4 : ¬ (252 ≤ t ∧ t ≤ 254) := by omega
  have c5 : ¬ (t = 255) := by omega
  have c6 : ¬ ((63 < t ∧ t ≤ 127) ∨ t = 247) := by omega
  unfold EntFin entryS deltaS localsS operandsS
  simp only [h1, h2, if_neg c1, if_pos c2, if_neg c4, if_neg c5, if_neg c6, Int.toNat_zero, typesS_zero]
  cases s1.2 <;> rfl
theorem ent_5   (h1 : rdN xs s 1 = t) (h2 : rdS xs s 1 = s1) (ht : 247 < t) (ht' : t ≤ 251) : EntFin (entryS xs ps s) t (rdN xs s1 2) [] [] true (rdS xs s1 2) := by
  have c1 : ¬ (127 < t ∧ t < 247) := by omega
  have c2 : ¬ (t ≤ 63) := by omega
  have c3 : ¬ (t ≤ 127) := by omega
  have c4 : ¬ (252 ≤ t ∧ t ≤ 254) := by omega
  have c5 : ¬ (t = 255) := by omega
  have c6 : ¬ ((63 < t ∧ t ≤ 127) ∨ t = 247) := by omega
  unfold EntFin entryS deltaS localsS operandsS
  simp only [h1, h2, if_neg c1, if_neg c2, if_neg c3, if_neg c4, if_neg c5, if_neg c6, Int.toNat_zero, typesS_zero]
  cases (rdS xs s1 2).2 <;> rfl
theorem ent_2  {q : Option (List VT) × St}  (h1 : rdN xs s 1 = t) (h2 : rdS xs s 1 = s1) (ht : 63 < t) (ht' : t ≤ 127) (hq : typesS xs ps 1 s1 = q) (b : Bool) (lst : List VT) (hb : (b = true ∧ q.1 = some lst) ∨ (b = false ∧ q.1 = none)) : EntFin (entryS xs ps s) t (t - 64) [] lst b q.2 := by
  have c1 : ¬ (127 < t ∧ t < 247) := by omega
  have c2 : ¬ (t ≤ 63) := by omega
  have c3 : (t ≤ 127) := by omega
  have c4 : ¬ (252 ≤ t ∧ t ≤ 254) := by omega
  have c5 : ¬ (t = 255) := by omega
  have c6 : ((63 < t ∧ t ≤ 127) ∨ t = 247) := by omega
  unfold EntFin entryS deltaS localsS operandsS
  simp only [h1, h2, if_neg c1, if_neg c2, if_pos c3, if_neg c4, if_neg c5, if_pos c6, show Int.toNat 1 = 1 from rfl, hq, Int.toNat_zero, typesS_zero]
  obtain ⟨q1, q2⟩ := q
  simp only at hb
  rcases hb with ⟨rfl, rfl⟩ | ⟨rfl, rfl⟩ <;> simp only <;> cases q2.2 <;> rfl
theorem ent_4  {q : Option (List VT) × St}  (h1 : rdN xs s 1 = t) (h2 : rdS xs s 1 = s1) (ht : t = 247) (hq : typesS xs ps 1 (rdS xs s1 2) = q) (b : Bool) (lst : List VT) (hb : (b = true ∧ q.1 = some lst) ∨ (b = false ∧ q.1 = none)) : EntFin (entryS xs ps s) t (rdN xs s1 2) [] lst b q.2 := by
  have c1 : ¬ (127 < t ∧ t < 247) := by omega
  have c2 : ¬ (t ≤ 63) := by omega
  have c3 : ¬ (t ≤ 127) := by omega
  have c4 : ¬ (252 ≤ t ∧ t ≤ 254) := by omega
  have c5 : ¬ (t = 255) := by omega
  have c6 : ((63 < t ∧ t ≤ 127) ∨ t = 247) := by omega
  unfold EntFin entryS deltaS localsS operandsS
  simp only [h1, h2, if_neg c1, if_neg c2, if_neg c3, if_neg c4, if_neg c5, if_pos c6, show Int.toNat 1 = 1 from rfl, hq, Int.toNat_zero, typesS_zero]
  obtain ⟨q1, q2⟩ := q
  simp only at hb
  rcases hb with ⟨rfl, rfl⟩ | ⟨rfl, rfl⟩ <;> simp only <;> cases q2.2 <;> rfl
theorem ent_6  {q : Option (List VT) × St}  (h1 : rdN xs s 1 = t) (h2 : rdS xs s 1 = s1) (ht : 251 < t) (ht' : t ≤ 254) (hq : typesS xs ps (t - 251).toNat (rdS xs s1 2) = q) (b : Bool) (lst : List VT) (hb : (b = true ∧ q.1 = some lst) ∨ (b = false ∧ q.1 = none)) : EntFin (entryS xs ps s) t (rdN xs s1 2) lst [] b q.2 := by
  have c1 : ¬ (127 < t ∧ t < 247) := by omega
  have c2 : ¬ (t ≤ 63) := by omega
  have c3 : ¬ (t ≤ 127) := by omega
  have c4 : (252 ≤ t ∧ t ≤ 254) := by omega
  have c5 : ¬ (t = 255) := by omega
  have c6 : ¬ ((63 < t ∧ t ≤ 127) ∨ t = 247) := by omega
  unfold EntFin entryS deltaS localsS operandsS
  simp only [h1, h2, if_neg c1, if_neg c2, if_neg c3, if_pos c4, if_neg c5, if_neg c6, hq, Int.toNat_zero, typesS_zero]
  obtain ⟨q1, q2⟩ := q
  simp only at hb
  rcases hb with ⟨rfl, rfl⟩ | ⟨rfl, rfl⟩ <;> simp only <;> cases q2.2 <;> rfl
theorem ent_7 {q o : Option (List VT) × St} {s2 s3 s4 : St} {m1 m2 : Int} (h1 : rdN xs s 1 = t) (h2 : rdS xs s 1 = s1) (ht : t = 255) (e2 : rdS xs s1 2 = s2) (e3 : rdN xs s2 2 = m1) (e4 : rdS xs s2 2 = s3) (hq : typesS xs ps m1.toNat s3 = q) (e5 : rdN xs q.2 2 = m2) (e6 : rdS xs q.2 2 = s4) (ho : typesS xs ps m2.toNat s4 = o)
    (b b' : Bool) (lst lst' : List VT) (hb : (b = true ∧ q.1 = some lst) ∨ (b = false ∧ q.1 = none)) (hb' : (b' = true ∧ o.1 = some lst') ∨ (b' = false ∧ o.1 = none)) : EntFin (entryS xs ps s) t (rdN xs s1 2) lst lst' (b && b') o.2 := by
  have c1 : ¬ (127 < t ∧ t < 247) := by omega
  have c2 : ¬ (t ≤ 63) := by omega
  have c3 : ¬ (t ≤ 127) := by omega
  have c4 : ¬ (252 ≤ t ∧ t ≤ 254) := by omega
  have c5 : (t = 255) := by omega
  have c6 : ¬ ((63 < t ∧ t ≤ 127) ∨ t = 247) := by omega
  unfold EntFin entryS deltaS localsS operandsS
  simp only [h1, h2, if_neg c1, if_neg c2, if_neg c3, if_neg c4, if_pos c5, if_neg c6, e2, e3, e4, hq, e5, e6, ho]
  obtain ⟨q1, q2⟩ := q
  obtain ⟨o1, o2⟩ := o
  simp only at hb hb'
  rcases hb with ⟨rfl, rfl⟩ | ⟨rfl, rfl⟩ <;> rcases hb' with ⟨rfl, rfl⟩ | ⟨rfl, rfl⟩ <;> simp only <;> cases o2.2 <;> rfl
end

set_option maxHeartbeats 16000000 in
set_option maxRecDepth 100000 in
theorem rMaps_any (A : Option Addr) (n0 c : Nat) (xs : List Int) (Ap : Option Addr) (np cp : Nat) (ps : List Cst) (w : World) (hr : Rd w w.heap.size A n0 (bys xs)) (hn0 : n0 ≤ 140737488355328) (hc0 : n0 ≤ c) (hx : IsBytes xs) (hp : RdC w w.heap.size Ap np ps) :
    Calls Try.prog 9 #[.slice A n0 c, .slice Ap np cp] w (MapsR (mapsI xs ps) w) := by
  have hxl : xs.length = n0 := by have := hr.1; rwa [bys_len] at this
  obtain ⟨i0, hi0, iz0, iz1, iz2⟩ := info_parts mpinfo
  obtain ⟨R, hR⟩ : ∃ R, mapsI xs ps = R := ⟨_, rfl⟩
  rw [hR]
  unfold mapsI at hR
  simp only at hR
  have hm := rd2_bd hx (0, false)
  have HRN : Hid (∀ W s' r, RRd W w.heap.size r w.heap.size A c xs Ap np ps s' → ∀ n : Int, 0 ≤ n → n ≤ 4 → Calls Try.prog 19 #[.pointer (some ⟨r, 0, none⟩), .int .i64 n] W fun e w' => e = .returned (.int .i64 (rdN xs s' n)) ∧ RefG w' r w.heap.size A c xs (rdS xs s' n).1 (rdS xs s' n).2 ∧ W.grownBy w' (some r)) := hide fun W s' r hW n h0 h4 => rn_s hW.ref n h0 h4
  have HA0 := hide (At.new w 61 [.slice A n0 c, .int .i64 0, .bool false])
  have HB0 := hide ((Below.refl _ w).alloc (Nat.le_refl _) (.cells #[.slice A n0 c, .int .i64 0, .bool false] 61))
  have HRd0 : Hid (RRd (w.alloc (.cells #[.slice A n0 c, .int .i64 0, .bool false] 61)) w.heap.size w.heap.size w.heap.size A c xs Ap np ps (0, false)) := hide
    ⟨⟨by rw [hxl]; exact HA0.out, by rw [hxl]; exact hr.below HB0.out, Nat.zero_le _, hx, by omega, by omega, Nat.le_refl _⟩, hp.below HB0.out, Nat.le_refl _⟩
  clear hr hp
  generalize hs0 : rdS xs (0, false) 2 = s0 at *
  obtain ⟨m, hm'⟩ : ∃ m : Nat, rdN xs (0, false) 2 = m := ⟨(rdN xs (0, false) 2).toNat, by omega⟩
  rw [hm'] at hR hm
  rw [Int.toNat_natCast] at hR
  have HR := hide hR
  have HU := hide (HRN.out _ _ _ HRd0.out 2 (by decide) (by decide))
  rw [hm', hs0] at HU
  clear hR hm' hs0
  go_enter Try.func9, Try.ntmps9
  go_wp2_with fail
  refine HU.out.mono ?_
  rintro e w2 ⟨rfl, hc2, hg2⟩
  have hz2 := hg2.size
  simp at hz2
  have HRd := hide (HRd0.out.step (s' := s0) hc2 hg2)
  have HB2 := hide (HB0.out.trans (below_of_grownG (base := w.heap.size) hg2 (Nat.le_refl _) (by simp)))
  clear hc2 hg2 HRd0 HA0 HB0 HU
  obtain ⟨q, hq⟩ : ∃ q, q = w.heap.size := ⟨_, rfl⟩
  by_cases hbig : 4096 < m
  · have HRn : Hid (R = none) := hide (by rw [← HR.out, if_pos (by omega)])
    have hbig' : (4096 : Int) < (m : Int) := by omega
    go_wp2_with fail
    go_ret2
    have hR := HRn.out
    subst hR
    exact ⟨rfl, HB2.out⟩
  have HR := hide HR.out
  rw [if_neg (by omega)] at HR
  have hbig' : ¬ (4096 : Int) < (m : Int) := by omega
  go_wp2_with fail
  go_loopw [8, 7] (fun v iv wr => ∃ (j : Nat) (L : List (Mp × Value × Value)) (s' : St), j ≤ m ∧ L.length = j ∧ iv = .int .i64 ((m : Int) - j) ∧ wr.ownsRow (w.heap.size + 1) 32 4 v j (mcells L) ∧ MRows wr (w.heap.size + 1) L ∧ RRd wr w.heap.size w.heap.size w.heap.size A c xs Ap np ps s' ∧ Below w.heap.size w wr ∧ w.heap.size + 1 ≤ wr.heap.size ∧ entriesS xs ps m s0 = behindM (L.map Prod.fst) (entriesS xs ps (m - j) s')) (fun _ iv _ => (intOf iv).toNat)
  case atStart =>
    refine ⟨0, [], s0, by omega, rfl, by simp, ⟨rfl, .inl ⟨rfl, rfl⟩⟩, fun x hx => (by cases hx), HRd.out, HB2.out, by omega, ?_⟩
    cases hx : entriesS xs ps m s0 with
    | mk a b => cases a <;> simp [behindM]
  case round =>
    obtain ⟨j, L, s', hj, hL, rfl, hown, hrows, hrd, hbel, hsz, hRR⟩ := hrel
    have Hown := hide hown
    have Hrows := hide hrows
    have Hrd := hide hrd
    have Hbel := hide hbel
    have HRR := hide hRR
    clear hown hrows hrd hbel hRR HRd HB2
    by_cases hlt : j < m
    · have hlt' : (0 : Int) < (m : Int) - j := by omega
      have hw1 : IntKind.i64.wrap ((m : Int) - j - 1) = (m : Int) - (j + 1 : Nat) := by rw [IntWalk.i64_in _ (by omega)]; omega
      have hst : m - j = (m - (j + 1)) + 1 := by omega
      have HC := hide (HRN.out wr s' _ Hrd.out 1 (by decide) (by decide))
      have htb := rd1_bd hx s'
      obtain ⟨t, ht⟩ : ∃ t, rdN xs s' 1 = t := ⟨_, rfl⟩
      obtain ⟨s1, hs1⟩ : ∃ s1, rdS xs s' 1 = s1 := ⟨_, rfl⟩
      rw [ht, hs1] at HC
      rw [ht] at htb
      have Hts := hide (And.intro ht hs1)
      clear ht hs1 HRN
      have HN2 : Hid (∀ W V1 V2 l1 l2 d bt u sx, MB w W w.heap.size w.heap.size w.heap.size A c xs Ap np ps (w.heap.size + 1) u j L bt t d V1 V2 l1 l2 sx → Calls Try.prog 19 #[.pointer (some ⟨w.heap.size, 0, none⟩), .int .i64 2] W fun e w' => e = .returned (.int .i64 (rdN xs sx 2)) ∧ Hid (MB w w' w.heap.size w.heap.size w.heap.size A c xs Ap np ps (w.heap.size + 1) u j L bt t d V1 V2 l1 l2 (rdS xs sx 2))) := hide fun W V1 V2 l1 l2 d bt u sx h => rn_mb h
      have HTy : Hid (∀ W V1 V2 l1 l2 d bt u sx (k : Nat), k ≤ 65536 → MB w W w.heap.size w.heap.size w.heap.size A c xs Ap np ps (w.heap.size + 1) u j L bt t d V1 V2 l1 l2 sx → Calls Try.prog 20 #[.pointer (some ⟨w.heap.size, 0, none⟩), .slice Ap np cp, .int .i64 k] W fun e w' =>
          ∃ a l k' b lst, e = .returned (.tuple #[.slice a l k', .bool b]) ∧ Hid (MB w w' w.heap.size w.heap.size w.heap.size A c xs Ap np ps (w.heap.size + 1) u j L bt t d V1 V2 l1 l2 (typesS xs ps k sx).2 ∧ w'.ownsRow (w.heap.size + 1) 37 3 (.slice a l k') lst.length (vcells lst) ∧ ((b = true ∧ (typesS xs ps k sx).1 = some lst) ∨ (b = false ∧ (typesS xs ps k sx).1 = none)))) := hide fun W V1 V2 l1 l2 d bt u sx k hk h => rvtypes_mb hk h
      have HTy1 : Hid (∀ W V1 V2 l1 l2 d bt u sx, MB w W w.heap.size w.heap.size w.heap.size A c xs Ap np ps (w.heap.size + 1) u j L bt t d V1 V2 l1 l2 sx → Calls Try.prog 20 #[.pointer (some ⟨w.heap.size, 0, none⟩), .slice Ap np cp, .int .i64 1] W fun e w' =>
          ∃ a l k' b lst, e = .returned (.tuple #[.slice a l k', .bool b]) ∧ Hid (MB w w' w.heap.size w.heap.size w.heap.size A c xs Ap np ps (w.heap.size + 1) u j L bt t d V1 V2 l1 l2 (typesS xs ps 1 sx).2 ∧ w'.ownsRow (w.heap.size + 1) 37 3 (.slice a l k') lst.length (vcells lst) ∧ ((b = true ∧ (typesS xs ps 1 sx).1 = some lst) ∨ (b = false ∧ (typesS xs ps 1 sx).1 = none)))) := hide fun W V1 V2 l1 l2 d bt u sx h => rvtypes_mb (m := 1) (by omega) h
      have HTy6 : Hid (251 < t → ∀ W V1 V2 l1 l2 d bt u sx, MB w W w.heap.size w.heap.size w.heap.size A c xs Ap np ps (w.heap.size + 1) u j L bt t d V1 V2 l1 l2 sx → Calls Try.prog 20 #[.pointer (some ⟨w.heap.size, 0, none⟩), .slice Ap np cp, .int .i64 (t - 251)] W fun e w' =>
          ∃ a l k' b lst, e = .returned (.tuple #[.slice a l k', .bool b]) ∧ Hid (MB w w' w.heap.size w.heap.size w.heap.size A c xs Ap np ps (w.heap.size + 1) u j L bt t d V1 V2 l1 l2 (typesS xs ps (t - 251).toNat sx).2 ∧ w'.ownsRow (w.heap.size + 1) 37 3 (.slice a l k') lst.length (vcells lst) ∧ ((b = true ∧ (typesS xs ps (t - 251).toNat sx).1 = some lst) ∨ (b = false ∧ (typesS xs ps (t - 251).toNat sx).1 = none)))) := hide fun ht W V1 V2 l1 l2 d bt u sx h => by
        have := rvtypes_mb (m := (t - 251).toNat) (cp := cp) (by omega) h
        rwa [show (((t - 251).toNat : Nat) : Int) = t - 251 by omega] at this
      go_wp2_with fail
      refine HC.out.mono ?_
      rintro e w2 ⟨rfl, hc2, hg2⟩
      have HMd := hide (fun d => MB.start Hrd.out Hbel.out Hown.out Hrows.out hsz (Nat.lt_succ_self _) (Nat.le_refl _) (s' := s1) hc2 hg2 t d)
      have HM := hide (HMd.out 0)
      obtain ⟨⟨a0, a1, a2, a3⟩, ⟨f0, f1, f2, f3⟩, rb⟩ := HM.out.facts
      have hbt := HM.out.hb
      clear hc2 hg2 Hrd Hbel Hown Hrows HC
      by_cases h63 : t ≤ 63
      · have HF := ent_1 (xs := xs) (ps := ps) Hts.out.1 Hts.out.2 h63
        have HM2 := hide (HMd.out t)
        clear HM HMd Hts
        generalize s1 = s2 at *
        obtain ⟨⟨m0, m1, m2, m3⟩, -, rb2⟩ := HM2.out.facts
        obtain ⟨k2, b2⟩ := s2
        dsimp only at rb2
        have HFF := hide HF
        clear HF HN2 HTy HTy1 HTy6
        cases b2
        · have HS : Hid (entriesS xs ps m s0 = behindM ((L ++ [((⟨t, t, [], []⟩ : Mp), (.slice none 0 0 : Value), (.slice none 0 0 : Value))]).map Prod.fst) (entriesS xs ps (m - (j + 1)) (k2, false))) := hide (by
            rw [HRR.out, hst, List.map_append]
            exact entriesS_step xs ps _ s' _ (show entryS xs ps s' = (some ⟨t, t, [], []⟩, (k2, false)) from HFF.out))
          have HEq : Hid (mcells (L ++ [((⟨t, t, [], []⟩ : Mp), (.slice none 0 0 : Value), (.slice none 0 0 : Value))]) = mcells L ++ [.int .i64 t, .int .i64 t, .slice none 0 0, .slice none 0 0]) := hide (by simp [mcells, mapCV])
          clear HRR hst HFF HR
          go_wp2_with (at_builtin; go_loud (refine wpList_append_many _ rfl (.tmp 123) (.tmp 125) 25 rfl (w.heap.size + 1) 32 i0 _ 64 4 (by omega) Try.underlying25 hi0 iz0 iz1 iz2 rfl _ _ _ rfl HM2.out.own [.int .i64 t, .int .i64 t, .slice none 0 0, .slice none 0 0] rfl _ (by simp) rfl rfl (by unfold maxLen; omega) (by omega) (by have := HM2.out.tb.lt; have := HM2.out.hb; simp at *; omega) ?_); intro v2 w9 hown3 hg3)
          go_roundw
          case rel =>
            refine ⟨j + 1, L ++ [((⟨t, t, [], []⟩ : Mp), (.slice none 0 0 : Value), (.slice none 0 0 : Value))], (k2, false), by omega, by simp [hL], by go_num, ?_, ?_, HM2.out.rd.other HM2.out.own hg3 HM2.out.hr, below_orow HM2.out.be HM2.out.own hg3 HM2.out.be.size (by omega), ?_, HS.out⟩
            · rw [HEq.out]
              exact hown3
            · refine MRows.other (fun x hx => ?_) HM2.out.own hg3
              rcases List.mem_append.1 hx with hx | hx
              · exact HM2.out.rows x hx
              · obtain rfl := List.mem_singleton.1 hx
                exact ⟨HM2.out.o1, HM2.out.o2⟩
            · have := hg3.size
              have := HM2.out.tb.lt
              have := HM2.out.hb
              omega
          case measure => simp [intOf]; omega
        · have HS : Hid (R = none) := hide (by
            rw [← HR.out, HRR.out, hst, entriesS_none xs ps _ s' _ (show entryS xs ps s' = (none, (k2, true)) from HFF.out)])
          clear HRR hst HFF HR
          go_wp2_with fail
          go_ret2
          have hR := HS.out
          subst hR
          exact ⟨rfl, HM2.out.be⟩
      by_cases h127 : t ≤ 127
      · have HM2 := hide (HMd.out (t - 64))
        clear HM HMd
        obtain ⟨⟨a0, a1, a2, a3⟩, ⟨f0, f1, f2, f3⟩, rb⟩ := HM2.out.facts
        go_wp2_with fail
        refine (HTy1.out _ _ _ _ _ _ _ _ s1 HM2.out).mono ?_
        rintro e w5 ⟨a5, l5, k5, ok5, lst5, rfl, h5⟩
        obtain ⟨⟨x0, x1, x2, x3⟩, ⟨y0, y1, y2, y3⟩, rx5⟩ := h5.out.1.facts
        have hq5 := hide h5.out.2.2
        have HM2 := hide (h5.out.1.sta h5.out.2.1)
        clear h5
        have HF := ent_2 (xs := xs) (ps := ps) Hts.out.1 Hts.out.2 (by omega) h127 rfl ok5 lst5 hq5.out
        generalize (typesS xs ps 1 s1).2 = s2 at *
        clear Hts hq5
        obtain ⟨⟨m0, m1, m2, m3⟩, -, rb2⟩ := HM2.out.facts
        obtain ⟨k2, b2⟩ := s2
        dsimp only at rb2
        have HFF := hide HF
        clear HF HN2 HTy HTy1 HTy6
        cases ok5
        · have HS : Hid (R = none) := hide (by
            rw [← HR.out, HRR.out, hst, entriesS_none xs ps _ s' _ (show entryS xs ps s' = (none, (k2, b2)) by have := HFF.out; unfold EntFin at this; simpa using this)])
          clear HRR hst HFF HR
          go_wp2_with fail
          go_ret2
          have hR := HS.out
          subst hR
          exact ⟨rfl, HM2.out.be⟩
        cases b2
        · have HS : Hid (entriesS xs ps m s0 = behindM ((L ++ [((⟨t, (t - 64), [], lst5⟩ : Mp), (.slice none 0 0 : Value), (.slice a5 l5 k5 : Value))]).map Prod.fst) (entriesS xs ps (m - (j + 1)) (k2, false))) := hide (by
            rw [HRR.out, hst, List.map_append]
            exact entriesS_step xs ps _ s' _ (show entryS xs ps s' = (some ⟨t, (t - 64), [], lst5⟩, (k2, false)) from HFF.out))
          have HEq : Hid (mcells (L ++ [((⟨t, (t - 64), [], lst5⟩ : Mp), (.slice none 0 0 : Value), (.slice a5 l5 k5 : Value))]) = mcells L ++ [.int .i64 t, .int .i64 (t - 64), .slice none 0 0, .slice a5 l5 k5]) := hide (by simp [mcells, mapCV])
          clear HRR hst HFF HR
          go_wp2_with (at_builtin; go_loud (refine wpList_append_many _ rfl (.tmp 123) (.tmp 125) 25 rfl (w.heap.size + 1) 32 i0 _ 64 4 (by omega) Try.underlying25 hi0 iz0 iz1 iz2 rfl _ _ _ rfl HM2.out.own [.int .i64 t, .int .i64 (t - 64), .slice none 0 0, .slice a5 l5 k5] rfl _ (by simp) rfl rfl (by unfold maxLen; omega) (by omega) (by have := HM2.out.tb.lt; have := HM2.out.hb; simp at *; omega) ?_); intro v2 w9 hown3 hg3)
          go_roundw
          case rel =>
            refine ⟨j + 1, L ++ [((⟨t, (t - 64), [], lst5⟩ : Mp), (.slice none 0 0 : Value), (.slice a5 l5 k5 : Value))], (k2, false), by omega, by simp [hL], by go_num, ?_, ?_, HM2.out.rd.other HM2.out.own hg3 HM2.out.hr, below_orow HM2.out.be HM2.out.own hg3 HM2.out.be.size (by omega), ?_, HS.out⟩
            · rw [HEq.out]
              exact hown3
            · refine MRows.other (fun x hx => ?_) HM2.out.own hg3
              rcases List.mem_append.1 hx with hx | hx
              · exact HM2.out.rows x hx
              · obtain rfl := List.mem_singleton.1 hx
                exact ⟨HM2.out.o1, HM2.out.o2⟩
            · have := hg3.size
              have := HM2.out.tb.lt
              have := HM2.out.hb
              omega
          case measure => simp [intOf]; omega
        · have HS : Hid (R = none) := hide (by
            rw [← HR.out, HRR.out, hst, entriesS_none xs ps _ s' _ (show entryS xs ps s' = (none, (k2, true)) from HFF.out)])
          clear HRR hst HFF HR
          go_wp2_with fail
          go_ret2
          have hR := HS.out
          subst hR
          exact ⟨rfl, HM2.out.be⟩
      by_cases h246 : t ≤ 246
      · have HS : Hid (R = none) := hide (by
          rw [← HR.out, HRR.out, hst, entriesS_none xs ps _ s' _ (show entryS xs ps s' = (none, s1) by
            unfold entryS
            simp only [Hts.out.1, Hts.out.2]
            rw [if_pos ⟨by omega, by omega⟩])])
        have HM2 := HM
        clear HRR hst HR HN2 HTy HTy1 HTy6 HMd Hts
        go_wp2_with fail
        go_ret2
        have hR := HS.out
        subst hR
        exact ⟨rfl, HM2.out.be⟩
      by_cases h247 : t = 247
      · have H247 := hide h247
        have h247b : (t == 247) = true := by simp [h247]
        have h246' : ¬ t ≤ 246 := h246
        clear h247
        go_wp2_with fail
        refine (HN2.out _ _ _ _ _ _ _ _ s1 HM.out).mono ?_
        rintro e w3 ⟨rfl, hM3⟩
        obtain ⟨⟨b0, b1, b2, b3⟩, ⟨g0, g1, g2, g3⟩, rb'⟩ := hM3.out.facts
        have HM2 := hide (hM3.out.delta (rdN xs s1 2))
        obtain ⟨⟨a0, a1, a2, a3⟩, ⟨f0, f1, f2, f3⟩, rb⟩ := HM2.out.facts
        clear hM3 HM HMd
        go_wp2_with fail
        refine (HTy1.out _ _ _ _ _ _ _ _ _ HM2.out).mono ?_
        rintro e w5 ⟨a5, l5, k5, ok5, lst5, rfl, h5⟩
        obtain ⟨⟨x0, x1, x2, x3⟩, ⟨y0, y1, y2, y3⟩, rx5⟩ := h5.out.1.facts
        have hq5 := hide h5.out.2.2
        have HM2 := hide (h5.out.1.sta h5.out.2.1)
        clear h5
        have HF := ent_4 (xs := xs) (ps := ps) Hts.out.1 Hts.out.2 H247.out rfl ok5 lst5 hq5.out
        generalize (typesS xs ps 1 (rdS xs s1 2)).2 = s2 at *
        generalize rdN xs s1 2 = d at *
        clear Hts hq5
        obtain ⟨⟨m0, m1, m2, m3⟩, -, rb2⟩ := HM2.out.facts
        obtain ⟨k2, b2⟩ := s2
        dsimp only at rb2
        have HFF := hide HF
        clear HF HN2 HTy HTy1 HTy6
        cases ok5
        · have HS : Hid (R = none) := hide (by
            rw [← HR.out, HRR.out, hst, entriesS_none xs ps _ s' _ (show entryS xs ps s' = (none, (k2, b2)) by have := HFF.out; unfold EntFin at this; simpa using this)])
          clear HRR hst HFF HR
          go_wp2_with fail
          go_ret2
          have hR := HS.out
          subst hR
          exact ⟨rfl, HM2.out.be⟩
        cases b2
        · have HS : Hid (entriesS xs ps m s0 = behindM ((L ++ [((⟨t, d, [], lst5⟩ : Mp), (.slice none 0 0 : Value), (.slice a5 l5 k5 : Value))]).map Prod.fst) (entriesS xs ps (m - (j + 1)) (k2, false))) := hide (by
            rw [HRR.out, hst, List.map_append]
            exact entriesS_step xs ps _ s' _ (show entryS xs ps s' = (some ⟨t, d, [], lst5⟩, (k2, false)) from HFF.out))
          have HEq : Hid (mcells (L ++ [((⟨t, d, [], lst5⟩ : Mp), (.slice none 0 0 : Value), (.slice a5 l5 k5 : Value))]) = mcells L ++ [.int .i64 t, .int .i64 d, .slice none 0 0, .slice a5 l5 k5]) := hide (by simp [mcells, mapCV])
          clear HRR hst HFF HR
          go_wp2_with (at_builtin; go_loud (refine wpList_append_many _ rfl (.tmp 123) (.tmp 125) 25 rfl (w.heap.size + 1) 32 i0 _ 64 4 (by omega) Try.underlying25 hi0 iz0 iz1 iz2 rfl _ _ _ rfl HM2.out.own [.int .i64 t, .int .i64 d, .slice none 0 0, .slice a5 l5 k5] rfl _ (by simp) rfl rfl (by unfold maxLen; omega) (by omega) (by have := HM2.out.tb.lt; have := HM2.out.hb; simp at *; omega) ?_); intro v2 w9 hown3 hg3)
          go_roundw
          case rel =>
            refine ⟨j + 1, L ++ [((⟨t, d, [], lst5⟩ : Mp), (.slice none 0 0 : Value), (.slice a5 l5 k5 : Value))], (k2, false), by omega, by simp [hL], by go_num, ?_, ?_, HM2.out.rd.other HM2.out.own hg3 HM2.out.hr, below_orow HM2.out.be HM2.out.own hg3 HM2.out.be.size (by omega), ?_, HS.out⟩
            · rw [HEq.out]
              exact hown3
            · refine MRows.other (fun x hx => ?_) HM2.out.own hg3
              rcases List.mem_append.1 hx with hx | hx
              · exact HM2.out.rows x hx
              · obtain rfl := List.mem_singleton.1 hx
                exact ⟨HM2.out.o1, HM2.out.o2⟩
            · have := hg3.size
              have := HM2.out.tb.lt
              have := HM2.out.hb
              omega
          case measure => simp [intOf]; omega
        · have HS : Hid (R = none) := hide (by
            rw [← HR.out, HRR.out, hst, entriesS_none xs ps _ s' _ (show entryS xs ps s' = (none, (k2, true)) from HFF.out)])
          clear HRR hst HFF HR
          go_wp2_with fail
          go_ret2
          have hR := HS.out
          subst hR
          exact ⟨rfl, HM2.out.be⟩
      have h247' : (t == 247) = false := by simpa using h247
      by_cases h251 : t ≤ 251
      · go_wp2_with fail
        refine (HN2.out _ _ _ _ _ _ _ _ s1 HM.out).mono ?_
        rintro e w3 ⟨rfl, hM3⟩
        obtain ⟨⟨b0, b1, b2, b3⟩, ⟨g0, g1, g2, g3⟩, rb'⟩ := hM3.out.facts
        have HM2 := hide (hM3.out.delta (rdN xs s1 2))
        obtain ⟨⟨a0, a1, a2, a3⟩, ⟨f0, f1, f2, f3⟩, rb⟩ := HM2.out.facts
        clear hM3 HM HMd
        have HF := ent_5 (xs := xs) (ps := ps) Hts.out.1 Hts.out.2 (by omega) h251
        generalize rdN xs s1 2 = d at *
        generalize rdS xs s1 2 = s2 at *
        clear Hts
        obtain ⟨⟨m0, m1, m2, m3⟩, -, rb2⟩ := HM2.out.facts
        obtain ⟨k2, b2⟩ := s2
        dsimp only at rb2
        have HFF := hide HF
        clear HF HN2 HTy HTy1 HTy6
        cases b2
        · have HS : Hid (entriesS xs ps m s0 = behindM ((L ++ [((⟨t, d, [], []⟩ : Mp), (.slice none 0 0 : Value), (.slice none 0 0 : Value))]).map Prod.fst) (entriesS xs ps (m - (j + 1)) (k2, false))) := hide (by
            rw [HRR.out, hst, List.map_append]
            exact entriesS_step xs ps _ s' _ (show entryS xs ps s' = (some ⟨t, d, [], []⟩, (k2, false)) from HFF.out))
          have HEq : Hid (mcells (L ++ [((⟨t, d, [], []⟩ : Mp), (.slice none 0 0 : Value), (.slice none 0 0 : Value))]) = mcells L ++ [.int .i64 t, .int .i64 d, .slice none 0 0, .slice none 0 0]) := hide (by simp [mcells, mapCV])
          clear HRR hst HFF HR
          go_wp2_with (at_builtin; go_loud (refine wpList_append_many _ rfl (.tmp 123) (.tmp 125) 25 rfl (w.heap.size + 1) 32 i0 _ 64 4 (by omega) Try.underlying25 hi0 iz0 iz1 iz2 rfl _ _ _ rfl HM2.out.own [.int .i64 t, .int .i64 d, .slice none 0 0, .slice none 0 0] rfl _ (by simp) rfl rfl (by unfold maxLen; omega) (by omega) (by have := HM2.out.tb.lt; have := HM2.out.hb; simp at *; omega) ?_); intro v2 w9 hown3 hg3)
          go_roundw
          case rel =>
            refine ⟨j + 1, L ++ [((⟨t, d, [], []⟩ : Mp), (.slice none 0 0 : Value), (.slice none 0 0 : Value))], (k2, false), by omega, by simp [hL], by go_num, ?_, ?_, HM2.out.rd.other HM2.out.own hg3 HM2.out.hr, below_orow HM2.out.be HM2.out.own hg3 HM2.out.be.size (by omega), ?_, HS.out⟩
            · rw [HEq.out]
              exact hown3
            · refine MRows.other (fun x hx => ?_) HM2.out.own hg3
              rcases List.mem_append.1 hx with hx | hx
              · exact HM2.out.rows x hx
              · obtain rfl := List.mem_singleton.1 hx
                exact ⟨HM2.out.o1, HM2.out.o2⟩
            · have := hg3.size
              have := HM2.out.tb.lt
              have := HM2.out.hb
              omega
          case measure => simp [intOf]; omega
        · have HS : Hid (R = none) := hide (by
            rw [← HR.out, HRR.out, hst, entriesS_none xs ps _ s' _ (show entryS xs ps s' = (none, (k2, true)) from HFF.out)])
          clear HRR hst HFF HR
          go_wp2_with fail
          go_ret2
          have hR := HS.out
          subst hR
          exact ⟨rfl, HM2.out.be⟩
      by_cases h254 : t ≤ 254
      · go_wp2_with fail
        refine (HN2.out _ _ _ _ _ _ _ _ s1 HM.out).mono ?_
        rintro e w3 ⟨rfl, hM3⟩
        obtain ⟨⟨b0, b1, b2, b3⟩, ⟨g0, g1, g2, g3⟩, rb'⟩ := hM3.out.facts
        have HM2 := hide (hM3.out.delta (rdN xs s1 2))
        obtain ⟨⟨a0, a1, a2, a3⟩, ⟨f0, f1, f2, f3⟩, rb⟩ := HM2.out.facts
        clear hM3 HM HMd
        go_wp2_with fail
        refine (HTy6.out (by omega) _ _ _ _ _ _ _ _ _ HM2.out).mono ?_
        rintro e w5 ⟨a5, l5, k5, ok5, lst5, rfl, h5⟩
        obtain ⟨⟨x0, x1, x2, x3⟩, ⟨y0, y1, y2, y3⟩, rx5⟩ := h5.out.1.facts
        have hq5 := hide h5.out.2.2
        have HM2 := hide (h5.out.1.loc h5.out.2.1)
        clear h5
        have HF := ent_6 (xs := xs) (ps := ps) Hts.out.1 Hts.out.2 (by omega) h254 rfl ok5 lst5 hq5.out
        generalize (typesS xs ps (t - 251).toNat (rdS xs s1 2)).2 = s2 at *
        generalize rdN xs s1 2 = d at *
        clear Hts hq5
        obtain ⟨⟨m0, m1, m2, m3⟩, -, rb2⟩ := HM2.out.facts
        obtain ⟨k2, b2⟩ := s2
        dsimp only at rb2
        have HFF := hide HF
        clear HF HN2 HTy HTy1 HTy6
        cases ok5
        · have HS : Hid (R = none) := hide (by
            rw [← HR.out, HRR.out, hst, entriesS_none xs ps _ s' _ (show entryS xs ps s' = (none, (k2, b2)) by have := HFF.out; unfold EntFin at this; simpa using this)])
          clear HRR hst HFF HR
          go_wp2_with fail
          go_ret2
          have hR := HS.out
          subst hR
          exact ⟨rfl, HM2.out.be⟩
        cases b2
        · have HS : Hid (entriesS xs ps m s0 = behindM ((L ++ [((⟨t, d, lst5, []⟩ : Mp), (.slice a5 l5 k5 : Value), (.slice none 0 0 : Value))]).map Prod.fst) (entriesS xs ps (m - (j + 1)) (k2, false))) := hide (by
            rw [HRR.out, hst, List.map_append]
            exact entriesS_step xs ps _ s' _ (show entryS xs ps s' = (some ⟨t, d, lst5, []⟩, (k2, false)) from HFF.out))
          have HEq : Hid (mcells (L ++ [((⟨t, d, lst5, []⟩ : Mp), (.slice a5 l5 k5 : Value), (.slice none 0 0 : Value))]) = mcells L ++ [.int .i64 t, .int .i64 d, .slice a5 l5 k5, .slice none 0 0]) := hide (by simp [mcells, mapCV])
          clear HRR hst HFF HR
          go_wp2_with (at_builtin; go_loud (refine wpList_append_many _ rfl (.tmp 123) (.tmp 125) 25 rfl (w.heap.size + 1) 32 i0 _ 64 4 (by omega) Try.underlying25 hi0 iz0 iz1 iz2 rfl _ _ _ rfl HM2.out.own [.int .i64 t, .int .i64 d, .slice a5 l5 k5, .slice none 0 0] rfl _ (by simp) rfl rfl (by unfold maxLen; omega) (by omega) (by have := HM2.out.tb.lt; have := HM2.out.hb; simp at *; omega) ?_); intro v2 w9 hown3 hg3)
          go_roundw
          case rel =>
            refine ⟨j + 1, L ++ [((⟨t, d, lst5, []⟩ : Mp), (.slice a5 l5 k5 : Value), (.slice none 0 0 : Value))], (k2, false), by omega, by simp [hL], by go_num, ?_, ?_, HM2.out.rd.other HM2.out.own hg3 HM2.out.hr, below_orow HM2.out.be HM2.out.own hg3 HM2.out.be.size (by omega), ?_, HS.out⟩
            · rw [HEq.out]
              exact hown3
            · refine MRows.other (fun x hx => ?_) HM2.out.own hg3
              rcases List.mem_append.1 hx with hx | hx
              · exact HM2.out.rows x hx
              · obtain rfl := List.mem_singleton.1 hx
                exact ⟨HM2.out.o1, HM2.out.o2⟩
            · have := hg3.size
              have := HM2.out.tb.lt
              have := HM2.out.hb
              omega
          case measure => simp [intOf]; omega
        · have HS : Hid (R = none) := hide (by
            rw [← HR.out, HRR.out, hst, entriesS_none xs ps _ s' _ (show entryS xs ps s' = (none, (k2, true)) from HFF.out)])
          clear HRR hst HFF HR
          go_wp2_with fail
          go_ret2
          have hR := HS.out
          subst hR
          exact ⟨rfl, HM2.out.be⟩
      have h255 : Hid (t = 255) := hide (by omega)
      go_wp2_with fail
      refine (HN2.out _ _ _ _ _ _ _ _ s1 HM.out).mono ?_
      rintro e w3 ⟨rfl, hM3⟩
      obtain ⟨⟨b0, b1, b2, b3⟩, ⟨g0, g1, g2, g3⟩, rb'⟩ := hM3.out.facts
      have HM2 := hide (hM3.out.delta (rdN xs s1 2))
      obtain ⟨⟨a0, a1, a2, a3⟩, ⟨f0, f1, f2, f3⟩, rb⟩ := HM2.out.facts
      clear hM3 HM HMd
      go_wp2_with fail
      refine (HN2.out _ _ _ _ _ _ _ _ _ HM2.out).mono ?_
      obtain ⟨m1, hm1, hbm1⟩ : ∃ m1 : Nat, rdN xs (rdS xs s1 2) 2 = m1 ∧ m1 ≤ 65536 := ⟨(rdN xs (rdS xs s1 2) 2).toNat, by have := rd2_bd hx (rdS xs s1 2); omega, by have := rd2_bd hx (rdS xs s1 2); omega⟩
      rw [hm1]
      rintro e w6 ⟨rfl, hM6⟩
      have HM2 := hM6
      clear hM6
      obtain ⟨⟨a0, a1, a2, a3⟩, ⟨f0, f1, f2, f3⟩, rb⟩ := HM2.out.facts
      go_wp2_with fail
      refine (HTy.out _ _ _ _ _ _ _ _ _ m1 hbm1 HM2.out).mono ?_
      rintro e w5 ⟨a5, l5, k5, ok5, lst5, rfl, h5⟩
      obtain ⟨⟨x0, x1, x2, x3⟩, ⟨y0, y1, y2, y3⟩, rx5⟩ := h5.out.1.facts
      have hq5 := hide h5.out.2.2
      have HM2 := hide (h5.out.1.loc h5.out.2.1)
      clear h5
      obtain ⟨⟨aa0, aa1, aa2, aa3⟩, ⟨ff0, ff1, ff2, ff3⟩, rbb⟩ := HM2.out.facts
      go_wp2_with fail
      refine (HN2.out _ _ _ _ _ _ _ _ _ HM2.out).mono ?_
      obtain ⟨m2, hm2, hbm2⟩ : ∃ m2 : Nat, rdN xs (typesS xs ps m1 (rdS xs (rdS xs s1 2) 2)).2 2 = m2 ∧ m2 ≤ 65536 := ⟨(rdN xs (typesS xs ps m1 (rdS xs (rdS xs s1 2) 2)).2 2).toNat, by have := rd2_bd hx (typesS xs ps m1 (rdS xs (rdS xs s1 2) 2)).2; omega, by have := rd2_bd hx (typesS xs ps m1 (rdS xs (rdS xs s1 2) 2)).2; omega⟩
      rw [hm2]
      rintro e w7 ⟨rfl, hM7⟩
      have HM2 := hM7
      clear hM7
      obtain ⟨⟨a0, a1, a2, a3⟩, ⟨f0, f1, f2, f3⟩, rb⟩ := HM2.out.facts
      go_wp2_with fail
      refine (HTy.out _ _ _ _ _ _ _ _ _ m2 hbm2 HM2.out).mono ?_
      rintro e w8 ⟨a8, l8, k8, ok8, lst8, rfl, h8⟩
      obtain ⟨⟨x0, x1, x2, x3⟩, ⟨y0, y1, y2, y3⟩, rx8⟩ := h8.out.1.facts
      have hq8 := hide h8.out.2.2
      have HM2 := hide (h8.out.1.sta h8.out.2.1)
      clear h8
      have HF := ent_7 (xs := xs) (ps := ps) Hts.out.1 Hts.out.2 h255.out rfl hm1 rfl (by rw [Int.toNat_natCast]) hm2 rfl (by rw [Int.toNat_natCast]) ok5 ok8 lst5 lst8 hq5.out hq8.out
      generalize (typesS xs ps m2 (rdS xs (typesS xs ps m1 (rdS xs (rdS xs s1 2) 2)).2 2)).2 = s2 at *
      generalize rdN xs s1 2 = d at *
      clear Hts hq5 hq8 hm1 hm2
      obtain ⟨⟨m0, m1, m2, m3⟩, -, rb2⟩ := HM2.out.facts
      obtain ⟨k2, b2⟩ := s2
      dsimp only at rb2
      have HFF := hide HF
      clear HF HN2 HTy HTy1 HTy6
      cases ok5
      · have HS : Hid (R = none) := hide (by
          rw [← HR.out, HRR.out, hst, entriesS_none xs ps _ s' _ (show entryS xs ps s' = (none, (k2, b2)) by have := HFF.out; unfold EntFin at this; simpa using this)])
        clear HRR hst HFF HR
        go_wp2_with fail
        go_ret2
        have hR := HS.out
        subst hR
        exact ⟨rfl, HM2.out.be⟩
      cases ok8
      · have HS : Hid (R = none) := hide (by
          rw [← HR.out, HRR.out, hst, entriesS_none xs ps _ s' _ (show entryS xs ps s' = (none, (k2, b2)) by have := HFF.out; unfold EntFin at this; simpa using this)])
        clear HRR hst HFF HR
        go_wp2_with fail
        go_ret2
        have hR := HS.out
        subst hR
        exact ⟨rfl, HM2.out.be⟩
      cases b2
      · have HS : Hid (entriesS xs ps m s0 = behindM ((L ++ [((⟨t, d, lst5, lst8⟩ : Mp), (.slice a5 l5 k5 : Value), (.slice a8 l8 k8 : Value))]).map Prod.fst) (entriesS xs ps (m - (j + 1)) (k2, false))) := hide (by
          rw [HRR.out, hst, List.map_append]
          exact entriesS_step xs ps _ s' _ (show entryS xs ps s' = (some ⟨t, d, lst5, lst8⟩, (k2, false)) from HFF.out))
        have HEq : Hid (mcells (L ++ [((⟨t, d, lst5, lst8⟩ : Mp), (.slice a5 l5 k5 : Value), (.slice a8 l8 k8 : Value))]) = mcells L ++ [.int .i64 t, .int .i64 d, .slice a5 l5 k5, .slice a8 l8 k8]) := hide (by simp [mcells, mapCV])
        clear HRR hst HFF HR
        go_wp2_with (at_builtin; go_loud (refine wpList_append_many _ rfl (.tmp 123) (.tmp 125) 25 rfl (w.heap.size + 1) 32 i0 _ 64 4 (by omega) Try.underlying25 hi0 iz0 iz1 iz2 rfl _ _ _ rfl HM2.out.own [.int .i64 t, .int .i64 d, .slice a5 l5 k5, .slice a8 l8 k8] rfl _ (by simp) rfl rfl (by unfold maxLen; omega) (by omega) (by have := HM2.out.tb.lt; have := HM2.out.hb; simp at *; omega) ?_); intro v2 w9 hown3 hg3)
        go_roundw
        case rel =>
          refine ⟨j + 1, L ++ [((⟨t, d, lst5, lst8⟩ : Mp), (.slice a5 l5 k5 : Value), (.slice a8 l8 k8 : Value))], (k2, false), by omega, by simp [hL], by go_num, ?_, ?_, HM2.out.rd.other HM2.out.own hg3 HM2.out.hr, below_orow HM2.out.be HM2.out.own hg3 HM2.out.be.size (by omega), ?_, HS.out⟩
          · rw [HEq.out]
            exact hown3
          · refine MRows.other (fun x hx => ?_) HM2.out.own hg3
            rcases List.mem_append.1 hx with hx | hx
            · exact HM2.out.rows x hx
            · obtain rfl := List.mem_singleton.1 hx
              exact ⟨HM2.out.o1, HM2.out.o2⟩
          · have := hg3.size
            have := HM2.out.tb.lt
            have := HM2.out.hb
            omega
        case measure => simp [intOf]; omega
      · have HS : Hid (R = none) := hide (by
          rw [← HR.out, HRR.out, hst, entriesS_none xs ps _ s' _ (show entryS xs ps s' = (none, (k2, true)) from HFF.out)])
        clear HRR hst HFF HR
        go_wp2_with fail
        go_ret2
        have hR := HS.out
        subst hR
        exact ⟨rfl, HM2.out.be⟩
    · obtain rfl : j = m := by omega
      have hlt' : ¬ (0 : Int) < (j : Int) - j := by omega
      have hE : entriesS xs ps j s0 = (some (L.map Prod.fst), s') := by
        rw [HRR.out, Nat.sub_self]
        simp [behindM, entriesS]
      rw [hE] at HR
      simp only at HR
      obtain ⟨⟨ra, -, rb⟩⟩ : ∃ _ : wr.cell? ⟨w.heap.size, 0, none⟩ = some (.slice A xs.length c) ∧ True ∧ wr.cell? ⟨w.heap.size, 2, none⟩ = some (.bool s'.2), True := ⟨⟨Hrd.out.ref.1.cell 0, trivial, Hrd.out.ref.1.cell 2⟩, trivial⟩
      obtain ⟨k', b'⟩ := s'
      dsimp only at rb
      have HLe : Hid (∀ W, RefG W w.heap.size w.heap.size A c xs k' b' → Calls Try.prog 21 #[.pointer (some ⟨w.heap.size, 0, none⟩)] W fun e w' => e = .returned (.int .i64 ((xs.length : Int) - k')) ∧ ∃ m, w' = W.drewN m) := hide fun W hW => rleft_anyG _ _ _ _ _ _ _ _ hW
      have hkl : k' ≤ xs.length := Hrd.out.ref.2.2.1
      have HFin : Hid (∀ W, (∃ m, W = wr.drewN m) → R = some (L.map Prod.fst) → MapsR R w (.returned (.tuple #[u8, .bool true])) W) := hide (by
        rintro W ⟨m, rfl⟩ rfl
        refine ⟨⟨_, L, rfl, rfl, ?_, fun x hx => ?_⟩, below_drewN Hbel.out m⟩
        · have := orow_mono Hown.out (show w.heap.size ≤ w.heap.size + 1 by omega)
          rw [hL]; exact this
        · exact (Hrows.out.mono (by omega)) x hx)
      cases b'
      · by_cases hk : k' < xs.length
        · have HRn : Hid (R = none) := hide (by rw [← HR.out, if_pos (by simp [hk])])
          have hk' : (0 : Int) < (xs.length : Int) - k' := by omega
          go_wp2_with (go_at_call 21; refine (HLe.out _ Hrd.out.ref).mono ?_; rintro e w6 ⟨rfl, mm, rfl⟩)
          go_ret2
          have hR := HRn.out
          subst hR
          exact ⟨rfl, below_drewN Hbel.out _⟩
        · have HRy : R = some (L.map Prod.fst) := by rw [← HR.out, if_neg (by simp; omega)]
          have HRy := hide HRy
          have hk' : ¬ (0 : Int) < (xs.length : Int) - k' := by omega
          go_wp2_with (go_at_call 21; refine (HLe.out _ Hrd.out.ref).mono ?_; rintro e w6 ⟨rfl, mm, rfl⟩)
          go_ret2
          exact HFin.out _ ⟨_, rfl⟩ HRy.out
      · have HRn : Hid (R = none) := hide (by rw [← HR.out, if_pos (by simp)])
        go_wp2_with fail
        go_ret2
        have hR := HRn.out
        subst hR
        exact ⟨rfl, Hbel.out⟩
end Go.Proofs.Ytlgknednfgpgfaa
