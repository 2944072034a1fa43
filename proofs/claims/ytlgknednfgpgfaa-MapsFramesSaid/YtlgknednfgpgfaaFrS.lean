/- How an entry turns the state: package stackmap. Nothing is claimed here. -/
import Derived.Test.YtlgknednfgpgfaaFrN
import Derived.Maps.AppendAt
namespace Go.Proofs.Ytlgknednfgpgfaa
open Go.RowKit

/-- The new slice lies where the old one lay, or in a new block. -/
def Near (w : World) (v v' : Value) : Prop := ∀ k, v'.ownBlock = some k → v.ownBlock = some k ∨ w.heap.size ≤ k
/-- Two slices lie apart. -/
def Apart (v v' : Value) : Prop := ∀ k, v.ownBlock = some k → v'.ownBlock ≠ some k
theorem append_vts (w : World) (ty : TypeId) (base : Nat) (v : Value) (n : Nat) (l : List FT) (hown : w.ownsRow base 37 3 v n (fcells l)) (B : Nat) (A : Option Addr) (m c : Nat) (news : List FT) (hr : RdF w B A m news)
    (hn : n + m ≤ 1000000) (hbase : base ≤ w.heap.size) :
    ∃ v' w', (Builtin.append_ #[30, 30] ty #[v, .slice A m c]).run Try.prog w = .ok v' w' ∧ w'.ownsRow base 37 3 v' (n + m) (fcells (l ++ news)) ∧ w.grownBy w' v.ownBlock ∧ Near w v v' := by
  obtain ⟨i0, hi0, iz0, iz1, iz2⟩ := info_parts vtinfo
  have ht := Try.underlying30
  rcases A with _ | ad
  · obtain rfl : m = 0 := by
      rcases Nat.eq_zero_or_pos m with h | h
      · exact h
      · obtain ⟨_, _, h, _⟩ := hr.2 h; cases h
    obtain rfl : news = [] := List.eq_nil_of_length_eq_zero hr.1
    refine ⟨v, w, ?_, by simpa using hown, grown_refl w _, fun k hk => .inl hk⟩
    rcases hown.2 with ⟨rfl, rfl⟩ | ⟨g, cap, cur, rfl, _, _, hnc, _⟩
    · simp [Builtin.append_, run_underlying ht, sizeOf, typeInfo, hi0, Builtin.lenOf, Builtin.firstCells]
    · simp [Builtin.append_, run_underlying ht, sizeOf, typeInfo, hi0, Builtin.lenOf, Builtin.firstCells, hnc, storeCells]
  · obtain ⟨v', w', a, b, d, _, f⟩ := run_append_own_at (P := Try.prog) w base 30 ty 37 i0 _ 3 32 ht hi0 iz0 iz1 iz2 rfl (by omega) v n (fcells l) hown ad m c (fcells news) (by rw [fcells_len, hr.1]) (fun j u hu => by
      have hp : 0 < m := by
        have := (List.getElem?_eq_some_iff.1 hu).1
        rw [fcells_len, hr.1] at this; omega
      obtain ⟨g, o, he, _, hh⟩ := hr.2 hp
      cases he
      rw [add_none]
      exact hh j u hu) (fun u hu => by
        simp only [fcells, List.mem_flatMap, FT.cells] at hu
        obtain ⟨t, _, hu⟩ := hu
        simp only [List.mem_cons, List.not_mem_nil, or_false] at hu
        rcases hu with rfl | rfl | rfl <;> rfl) (by unfold maxLen; omega) (by omega) hbase
    refine ⟨v', w', a, by rw [fcells_app]; exact b, d, fun k hk => ?_⟩
    rcases f with f | f
    · exact .inl (by rw [← f, hk])
    · rw [hk] at f; cases f; exact .inr (Nat.le_refl _)
/-- 'append(v, list...)' of types onto an own row. -/
theorem app_vts {ops : Array Oper} {rest : List Oper} {o : Oper} {a : Act} {Q : Exit → Act → World → Prop} (w : World) (hgd : Region.wanted o (yielded ops a.tmps) = true) (s x : Operand)
    (ho : o.op = .call { callee := .builtin .append, args := #[s, x], argTypes := #[30, 30] })
    (base : Nat) (v : Value) (n : Nat) (l : List FT) (hs : a.eval s = v) (hown : w.ownsRow base 37 3 v n (fcells l)) (B : Nat) (A : Option Addr) (m c : Nat) (news : List FT) (hx : a.eval x = .slice A m c) (hr : RdF w B A m news)
    (hn : n + m ≤ 1000000) (hbase : base ≤ w.heap.size)
    (h : ∀ v' w', w'.ownsRow base 37 3 v' (n + m) (fcells (l ++ news)) → w.grownBy w' v.ownBlock → Near w v v' → wpList Try.prog ops Q rest (a.put o.dst v') w') : wpList Try.prog ops Q (o :: rest) a w := by
  refine wpList_wanted hgd fun K hK => ?_
  obtain ⟨v', w', hrun, h2, h3, h4⟩ := append_vts w o.type base v n l hown B A m c news hr hn hbase
  unfold Oper.wp execOp
  simp only [ho, resolve, invoke, builtin, Sem.run_bind, Sem.run_pure, Result.andThen_ok, List.map_toArray, List.map_cons, List.map_nil, hs, hx, hrun]
  exact hK _ _ (h v' w' h2 h3 h4)

/-- What is known of the state. -/
structure SB (w0 w : World) (sb : Nat) (Ap : Option Addr) (np cp : Nat) (ps : List Cst) (at_ : Int) (L : List FT) (VL VS : Value) : Prop where
  st : At w sb 68 [.slice Ap np cp, .int .i64 at_, VL, VS]
  pool : RdC w w0.heap.size Ap np ps
  own : w.ownsRow w0.heap.size 37 3 VL L.length (fcells L)
  bel : Below w0.heap.size w0 w
  hsb : w0.heap.size ≤ sb
/-- What may have turned: the state's block, and that of its locals. -/
structure Keeps (w w' : World) (sb : Nat) (V : Value) : Prop where
  os : w'.os = w.os
  tape : w'.tape = w.tape
  output : w'.output = w.output
  size : w.heap.size ≤ w'.heap.size
  block : ∀ i, i < w.heap.size → i ≠ sb → V.ownBlock ≠ some i → w'.heap[i]? = w.heap[i]?
theorem Keeps.of {w w' : World} {sb : Nat} {V : Value} (h : w.grownBy w' (some sb)) : Keeps w w' sb V := ⟨h.os, h.tape, h.output, h.size, fun i hi hne _ => h.block i hi (by simpa using hne)⟩
theorem Keeps.trans {a b c : World} {sb : Nat} {V V' : Value} (h : Keeps a b sb V) (k : Keeps b c sb V') (hn : Near a V V') : Keeps a c sb V :=
  ⟨k.os.trans h.os, k.tape.trans h.tape, k.output.trans h.output, Nat.le_trans h.size k.size, fun i hi h1 h2 => (k.block i (by have := h.size; omega) h1 (fun he => by
    rcases hn i he with h3 | h3
    · exact h2 h3
    · omega)).trans (h.block i hi h1 h2)⟩
theorem Keeps.own {w w' : World} {sb : Nat} {V : Value} (h : Keeps w w' sb V) {base : Nat} {v : Value} {n size : Nat} {e : TypeId} {xs : List Value} (ho : w.ownsRow base e size v n xs) (h1 : v.ownBlock ≠ some sb) (h2 : Apart v V) : w'.ownsRow base e size v n xs := by
  obtain ⟨hl, h3 | ⟨g, cap, cur, rfl, hb, hg, rest⟩⟩ := ho
  · exact ⟨hl, .inl h3⟩
  · refine ⟨hl, .inr ⟨g, cap, cur, rfl, hb, ?_, rest⟩⟩
    rw [h.block g (Array.getElem?_eq_some_iff.1 hg).1 (fun he => h1 (by rw [← he]; rfl)) (h2 g rfl)]
    exact hg
section
variable {w0 w w' : World} {sb : Nat} {Ap : Option Addr} {np cp : Nat} {ps : List Cst} {at_ : Int} {L : List FT} {VL VS : Value}
theorem SB.lt (h : SB w0 w sb Ap np cp ps at_ L VL VS) : w0.heap.size ≤ w.heap.size := h.bel.size
theorem SB.below (h : SB w0 w sb Ap np cp ps at_ L VL VS) (hb : Below w.heap.size w w') : SB w0 w' sb Ap np cp ps at_ L VL VS :=
  ⟨h.st.below hb h.st.lt, h.pool.below (hb.mono h.lt), orow_below h.own hb, h.bel.trans (hb.mono h.lt), h.hsb⟩
theorem SB.cells (h : SB w0 w sb Ap np cp ps at_ L VL VS) : (w.cell? ⟨sb, 0, none⟩ = some (.slice Ap np cp) ∧ w.cell? ⟨sb, 1, none⟩ = some (.int .i64 at_) ∧ w.cell? ⟨sb, 2, none⟩ = some VL ∧ w.cell? ⟨sb, 3, none⟩ = some VS) ∧
    w.frozen? ⟨sb, 1, none⟩ = false ∧ w.frozen? ⟨sb, 2, none⟩ = false ∧ w.frozen? ⟨sb, 3, none⟩ = false :=
  ⟨⟨h.st.cell 0, h.st.cell 1, h.st.cell 2, h.st.cell 3⟩, h.st.free 1, h.st.free 2, h.st.free 3⟩
theorem SB.apart (h : SB w0 w sb Ap np cp ps at_ L VL VS) : VL.ownBlock ≠ some sb := fun he => (orow_type h.own h.st (by decide)) he.symm
theorem SB.putAt (h : SB w0 w sb Ap np cp ps at_ L VL VS) (a' : Int) : SB w0 (w.setCell ⟨sb, 1, none⟩ (.int .i64 a')) sb Ap np cp ps a' L VL VS :=
  ⟨h.st.set 1 _, h.pool.below ((Below.refl _ w).setCell h.hsb _), h.own.kept (only_set _) (.inr h.apart), h.bel.setCell h.hsb _, h.hsb⟩
theorem SB.putStack (h : SB w0 w sb Ap np cp ps at_ L VL VS) (V : Value) : SB w0 (w.setCell ⟨sb, 3, none⟩ V) sb Ap np cp ps at_ L VL V :=
  ⟨h.st.set 3 _, h.pool.below ((Below.refl _ w).setCell h.hsb _), h.own.kept (only_set _) (.inr h.apart), h.bel.setCell h.hsb _, h.hsb⟩
theorem SB.putLocals (h : SB w0 w sb Ap np cp ps at_ L VL VS) {L' : List FT} {V : Value} (ho : w.ownsRow w0.heap.size 37 3 V L'.length (fcells L')) (hv : V.ownBlock ≠ some sb) : SB w0 (w.setCell ⟨sb, 2, none⟩ V) sb Ap np cp ps at_ L' V VS :=
  ⟨h.st.set 2 _, h.pool.below ((Below.refl _ w).setCell h.hsb _), ho.kept (only_set _) (.inr hv), h.bel.setCell h.hsb _, h.hsb⟩
end

set_option maxRecDepth 100000 in
theorem smmove_any (w0 : World) (sb : Nat) (Ap : Option Addr) (np cp : Nat) (ps : List Cst) (at_ : Int) (L : List FT) (VL VS : Value) (d : Int) (hd : 0 ≤ d ∧ d ≤ 65535) (ha : -1 ≤ at_ ∧ at_ ≤ 1000000000) (w : World) (h : SB w0 w sb Ap np cp ps at_ L VL VS) :
    Calls Try.prog 27 #[.pointer (some ⟨sb, 0, none⟩), .int .i64 d] w fun e w' => e = .returned (.bool true) ∧ SB w0 w' sb Ap np cp ps (at_ + 1 + d) L VL VS ∧ w.grownBy w' (some sb) := by
  obtain ⟨⟨c0, c1, c2, c3⟩, f1, f2, f3⟩ := h.cells
  have HF := hide (h.putAt (at_ + 1 + d))
  have hd' : ¬ d < 0 := by omega
  have hd2 : ¬ 9223372036854775807 - (at_ + 1) < d := by omega
  clear h
  go_enter Try.func27, Try.ntmps27
  go_wp2_with fail
  go_ret
  exact ⟨rfl, HF.out, only_set _⟩

/-- What is told where k locals go. -/
def ChopR (w0 : World) (sb : Nat) (Ap : Option Addr) (np cp : Nat) (ps : List Cst) (at_ : Int) (L : List FT) (VL VS : Value) (k : Nat) (w : World) (e : Ending) (w' : World) : Prop :=
  (L.length < k ∧ e = .returned (.bool false) ∧ w = w') ∨
  (k ≤ L.length ∧ ∃ V, e = .returned (.bool true) ∧ SB w0 w' sb Ap np cp ps at_ (L.take (L.length - k)) V VS ∧ Near w VL V ∧ w.grownBy w' (some sb))
set_option maxRecDepth 100000 in
theorem smchop_any (w0 : World) (sb : Nat) (Ap : Option Addr) (np cp : Nat) (ps : List Cst) (at_ : Int) (L : List FT) (VL VS : Value) (k : Nat) (hk : 1 ≤ k ∧ k ≤ 3) (hL : L.length ≤ 1000000) (w : World) (h : SB w0 w sb Ap np cp ps at_ L VL VS) :
    Calls Try.prog 42 #[.pointer (some ⟨sb, 0, none⟩), .int .i64 k] w (ChopR w0 sb Ap np cp ps at_ L VL VS k w) := by
  have HH := hide h
  obtain ⟨⟨c0, c1, c2, c3⟩, f1, f2, f3⟩ := h.cells
  obtain ⟨_, ⟨rfl, h0, _⟩ | ⟨g, c, rfl, h1, h2, h3, h4, h5⟩⟩ := orow_cases h.own
  · have hlk : L.length < k := by omega
    clear h
    go_enter Try.func42, Try.ntmps42
    go_wp2_with fail
    go_ret
    exact .inl ⟨show 0 < k by omega, rfl, rfl⟩
  · by_cases hlt : L.length < k
    · have hlt' : ((L.length : Int) - k) < 0 := by omega
      clear h h5
      go_enter Try.func42, Try.ntmps42
      go_wp2_with fail
      go_ret
      exact .inl ⟨hlt, rfl, rfl⟩
    · obtain ⟨r, hr⟩ : ∃ r : Nat, L.length = r + k := ⟨L.length - k, by omega⟩
      have HO := hide (h5 (L.length - k) (by omega))
      have HE : Hid ((L.take (L.length - k)).length = r) := hide (by rw [List.length_take]; omega)
      have HRK : Hid (L.length - k = r) := hide (by omega)
      rw [HRK.out] at HO HE
      have HF := hide (h.putLocals (L' := L.take r) (V := .slice (some ⟨g, 0, none⟩) r c) (by rw [HE.out]; exact HO.out) h.apart)
      clear h h5 HH
      rw [hr] at c2 h1
      have hll : k ≤ L.length := by omega
      have hs1 : ((r + k : Nat) : Int) - (k : Int) = r := by omega
      have hs2 : ¬ (r : Int) < 0 := by omega
      go_enter Try.func42, Try.ntmps42
      go_wp2_with fail
      go_ret
      exact .inr ⟨hll, .slice (some ⟨g, 0, none⟩) r c, rfl, by rw [HRK.out]; exact HF.out, fun k hk => .inl hk, only_set _⟩

set_option maxRecDepth 100000 in
theorem smpush_any (w0 : World) (sb : Nat) (Ap : Option Addr) (np cp : Nat) (ps : List Cst) (at_ : Int) (L : List FT) (VL VS : Value) (B : Nat) (A : Option Addr) (n c : Nat) (l : List VT) (hg : ∀ v ∈ l, GoodV ps v) (hn : n ≤ 100000) (w : World)
    (h : SB w0 w sb Ap np cp ps at_ L VL VS) (hr : RdF w B A n (l.map VT.ft)) (hB : B ≤ w.heap.size) :
    Calls Try.prog 41 #[.pointer (some ⟨sb, 0, none⟩), .slice A n c] w fun e w' => ∃ V, e = .returned (.bool true) ∧ SB w0 w' sb Ap np cp ps at_ L VL V ∧ w'.ownsRow w.heap.size 37 3 V n (fcells (l.map (nameF ps))) ∧ w.grownBy w' (some sb) := by
  have HN := hide (smnamed_any sb Ap np cp _ _ _ ps A n c l hg w h.st (h.pool.mono h.lt) B hr hB hn)
  have HH := hide h
  have hsl := h.st.lt
  clear h hr
  go_enter Try.func41, Try.ntmps41
  go_wp2_with fail
  refine HN.out.mono ?_
  rintro e w2 ⟨V, rfl, ho, hb⟩
  obtain ⟨A2, C2, rfl⟩ := len_own ho
  have H2 := hide (HH.out.below hb)
  obtain ⟨⟨c0, c1, c2, c3⟩, f1, f2, f3⟩ := H2.out.cells
  have HF := hide (H2.out.putStack (.slice A2 n C2))
  have HO := hide (ho.kept (only_set (g := sb) (i := 3) (.slice A2 n C2)) (.inr (fun he => orow_far ho hsl he.symm)))
  have HG := hide (grown_trans (grown_below hb (some sb)) (only_set (i := 3) (.slice A2 n C2)))
  clear ho hb
  go_wp2_with fail
  go_ret
  exact ⟨.slice A2 n C2, rfl, HF.out, HO.out, HG.out⟩

set_option maxRecDepth 100000 in
theorem smadd_any (w0 : World) (sb : Nat) (Ap : Option Addr) (np cp : Nat) (ps : List Cst) (at_ : Int) (L : List FT) (VL VS : Value) (B : Nat) (A : Option Addr) (n c : Nat) (l : List VT) (hg : ∀ v ∈ l, GoodV ps v) (hn : n ≤ 100000) (hL : L.length ≤ 100000) (w : World)
    (h : SB w0 w sb Ap np cp ps at_ L VL VS) (hr : RdF w B A n (l.map VT.ft)) (hB : B ≤ w.heap.size) :
    Calls Try.prog 43 #[.pointer (some ⟨sb, 0, none⟩), .slice A n c] w fun e w' => ∃ V, e = .returned (.bool true) ∧ SB w0 w' sb Ap np cp ps at_ (L ++ l.map (nameF ps)) V VS ∧ Near w VL V ∧ Keeps w w' sb VL := by
  have HN := hide (smnamed_any sb Ap np cp _ _ _ ps A n c l hg w h.st (h.pool.mono h.lt) B hr hB hn)
  have HH := hide h
  have hsl := h.st.lt
  have hl : l.length = n := by have := hr.1; rwa [List.length_map] at this
  clear h hr
  go_enter Try.func43, Try.ntmps43
  obtain ⟨VA, VC, rfl⟩ := len_own HH.out.own
  go_wp2_with (first
    | (go_at_call 48; refine HN.out.mono ?_; rintro e w2 ⟨V, rfl, ho, hb⟩; obtain ⟨A2, C2, rfl, hr2, -, -⟩ := orow_rdF ho (by simpa using hl); have HR2 := hide hr2; have H2 := hide (HH.out.below hb); have HB2 := hide hb; obtain ⟨⟨c0, c1, c2, c3⟩, f1, f2, f3⟩ := H2.out.cells; have hz2 := H2.out.lt; clear ho hb hr2)
    | (at_builtin; refine app_vts _ rfl (.tmp 17) (.tmp 18) rfl w0.heap.size _ _ _ rfl H2.out.own _ _ _ _ _ rfl HR2.out (by omega) hz2 ?_; intro v3 w3 ho3 hg3 hn3; obtain ⟨A3, C3, rfl⟩ := len_own ho3; have S3 := hide (H2.out.st.grown hg3 (fun he => H2.out.apart he.symm)); have d2 : w3.cell? ⟨sb, 2, none⟩ = some (.slice VA L.length VC) := S3.out.cell 2; have e2 : w3.frozen? ⟨sb, 2, none⟩ = false := S3.out.free 2; have HO3 := hide ho3; have HG3 := hide hg3; have HN3 := hide hn3; clear ho3 hg3 hn3))
  go_ret
  have hn1 : (Value.slice A3 (L.length + n) C3).ownBlock ≠ some sb := fun he => by
    rcases HN3.out sb he with h1 | h1
    · exact H2.out.apart h1
    · have := HB2.out.size; omega
  have hb3 := below_orow H2.out.bel H2.out.own HG3.out hz2 (Nat.le_refl _)
  have hb4 := below_orow (Below.refl w0.heap.size w2) H2.out.own HG3.out hz2 (Nat.le_refl _)
  refine ⟨.slice A3 (L.length + n) C3, rfl, ⟨S3.out.set 2 _, (H2.out.pool.below hb4).below ((Below.refl _ w3).setCell HH.out.hsb _), ?_, hb3.setCell HH.out.hsb _, HH.out.hsb⟩, fun k hk => ?_, ?_⟩
  · have := HO3.out.kept (only_set (g := sb) (i := 2) (.slice A3 (L.length + n) C3)) (.inr hn1)
    rw [List.length_append, List.length_map, hl]
    exact this
  · rcases HN3.out k hk with h1 | h1
    · exact .inl h1
    · exact .inr (by have := HB2.out.size; omega)
  · have k1 : Keeps w w2 sb (.slice VA L.length VC) := Keeps.of (grown_below HB2.out _)
    have k2 : Keeps w2 w3 sb (.slice VA L.length VC) := ⟨HG3.out.os, HG3.out.tape, HG3.out.output, HG3.out.size, fun i hi _ h2 => HG3.out.block i hi (fun he => h2 he.symm)⟩
    exact (k1.trans k2 (fun k hk => .inl hk)).trans (Keeps.of (V := .slice VA L.length VC) (only_set _)) (fun k hk => .inl hk)
end Go.Proofs.Ytlgknednfgpgfaa
