/- What Decode of package mutf gives. Nothing is claimed here. -/
import Derived.Test.YtjlcocalpjeghaaDoorMutfDec
namespace Go.Proofs.YtjlcocalpjeghaaDoor
open Go.RowKit

theorem u16info : (Tryd.prog.info? 93).map (fun i => (i.zero, i.size, i.bytes)) = some (some (.int .u16 0), 1, 2) := by kernel_rfl
/-- The size of a string, of any value. -/
def strLen : Value → Nat
  | .string s => s.size
  | _ => 0
theorem below_own {B : Nat} {w w' : World} {e : TypeId} {n : Nat} {xs : List Value} {v : Value} {w0 : World} (hb : Below B w0 w) (h : w.ownsRow B e 1 v n xs) (hg : w.grownBy w' v.ownBlock) (hB : B ≤ w.heap.size) : Below B w0 w' :=
  hb.grown hg hB (fun k hk => (h.lt k hk).1)

/-- What Decode gives. -/
def Decoded (d : Option (List Int)) (w : World) (e : Ending) (w' : World) : Prop :=
  Below w.heap.size w w' ∧ ((d = none ∧ e = .returned (.tuple #[.slice none 0 0, .bool false])) ∨
    ∃ u v, d = some u ∧ e = .returned (.tuple #[v, .bool true]) ∧ w'.ownsRow w.heap.size 93 1 v u.length (cells .u16 u))

set_option maxRecDepth 100000 in
theorem decode_any (s : ByteArray) (w : World) (hm : s.size ≤ 1000000) : Calls Tryd.prog 61 #[.string s] w (Decoded (dec (nums s)) w) := by
  obtain ⟨i0, hi0, hz0, hz1, hz2⟩ := info_parts u16info
  obtain ⟨D, hD⟩ : ∃ D, dec (nums s) = D := ⟨_, rfl⟩
  rw [hD]
  have HD := hide hD
  clear hD
  go_enter Tryd.func61, Tryd.ntmps61
  go_wp2_with (at_make; refine wpList_make_own _ rfl _ _ 80 rfl w.heap.size 93 i0 _ 1 Tryd.underlying80 hi0 hz0 hz1 .i64 .i64 _ s.size rfl rfl rfl (by rw [hz2]; omega) (by unfold maxLen; omega) (Nat.le_refl _) ?_; intro w1 hown1 hg1)
  have hb1 : Below w.heap.size w w1 := below_grown hg1
  have Hown1 := hide hown1
  clear hg1 hown1
  go_loopw [0, 4] (fun sv uv wr => ∃ (s' : ByteArray) (us : List Int), sv = .string s' ∧ us.length + s'.size ≤ s.size ∧ D = (dec (nums s')).map (us ++ ·) ∧ wr.ownsRow w.heap.size 93 1 uv us.length (cells .u16 us) ∧ Below w.heap.size w wr) (fun sv _ _ => strLen sv)
  case atStart => exact ⟨s, [], rfl, by simp, by rw [← HD.out]; simp, Hown1.out, hb1⟩
  case round =>
    obtain ⟨s', us, rfl, hl, hd, hown, hb⟩ := hrel
    have Hd := hide hd
    have Hown := hide hown
    have Hb := hide hb
    clear hd hown hb HD Hown1 hb1
    by_cases hz : s'.size = 0
    · have Hz := hide hz
      have hz' : ¬ (0 < s'.size) := by omega
      clear hz
      go_wp2_with fail
      go_ret2
      have hn : nums s' = [] := List.eq_nil_of_length_eq_zero (by rw [nums_len]; exact Hz.out)
      refine ⟨Hb.out, .inr ⟨us, u4, ?_, rfl, Hown.out⟩⟩
      rw [Hd.out, hn]
      simp [dec_nil]
    · have hz' : 0 < s'.size := by omega
      clear hz
      obtain ⟨c, hc⟩ : ∃ c, (one (nums s')).1 = c := ⟨_, rfl⟩
      obtain ⟨n, hn⟩ : ∃ n, (one (nums s')).2 = n := ⟨_, rfl⟩
      have hns : n ≤ s'.size := by have := one_le (nums s'); rw [nums_len] at this; omega
      have HF : Hid (∀ W, Calls Tryd.prog 71 #[.string s'] W fun e w' => e = .returned (.tuple #[.int .u16 c, .int .i64 (n : Int)]) ∧ ∃ m, w' = W.drewN m) := hide fun W => by
        have := first_any s' W (by omega) (by omega)
        unfold Firsts at this
        rwa [hc, hn] at this
      have Hc := hide hc
      have Hn := hide hn
      clear hc hn
      by_cases h0 : n = 0
      · subst h0
        go_wp2_with (go_at_call 71; refine (HF.out _).mono ?_; rintro e w2 ⟨rfl, m, rfl⟩)
        go_ret2
        refine ⟨below_drewN Hb.out _, .inl ⟨?_, rfl⟩⟩
        rw [Hd.out, dec_none (fun e => by have := nums_len s'; rw [e] at this; simp at this; omega) Hn.out]
        rfl
      · have hn0 : ((n : Int) == 0) = false := by simp; omega
        have Hown2 : Hid (∀ m, ((wr.drewN m).alloc (.cells #[.int .u16 c] 93)).ownsRow w.heap.size 93 1 u4 us.length (cells .u16 us)) := hide fun m => World.ownsRow.alloc (w := wr.drewN m) Hown.out _
        have Hb2 : Hid (∀ m, Below w.heap.size w ((wr.drewN m).alloc (.cells #[.int .u16 c] 93))) := hide fun m => (below_drewN Hb.out m).alloc Hb.out.size _
        have Hr2 : Hid (∀ m, Rd ((wr.drewN m).alloc (.cells #[.int .u16 c] 93)) (wr.heap.size + 1) (some ⟨wr.heap.size, 0, none⟩) 1 [.int .u16 c]) := hide fun m => Rd.made (wr.drewN m) 93 [.int .u16 c]
        go_wp2_with (first
          | (go_at_call 71; refine (HF.out _).mono ?_; rintro e w2 ⟨rfl, m, rfl⟩)
          | (at_builtin; go_loud (refine wpList_append_rd _ rfl (.tmp 20) (.tmp 22) 80 rfl w.heap.size 93 i0 _ 2 Tryd.underlying80 hi0 hz0 hz1 hz2 rfl u4 us.length (cells .u16 us) rfl (Hown2.out m) (wr.heap.size + 1) (some ⟨wr.heap.size, 0, none⟩) 1 1 [.int .u16 c] rfl (Hr2.out m) ?_ ?_ ?_ ?_ ?_)))
        · intro v hv; simp at hv; subst hv; rfl
        · unfold maxLen; omega
        · omega
        · exact (Hb2.out m).size
        · intro v3 w3 hown3 hg3
          have Hown3 := hide hown3
          have Hb3 := hide (below_own (Hb2.out m) (Hown2.out m) hg3 (Hb2.out m).size)
          clear hown3 hg3
          go_wp2
          have hlen : (s'.extract n s'.size).size = s'.size - n := by rw [← nums_len, nums_from, List.length_drop, nums_len]
          go_roundw
          case rel =>
            refine ⟨_, us ++ [c], rfl, by rw [hlen]; simp; omega, ?_, by simpa [cells] using Hown3.out, Hb3.out⟩
            rw [Hd.out, nums_from, dec_some (by rw [Hn.out]; exact h0), Hn.out, Hc.out, Option.map_map]
            congr 1
            funext x
            simp
          case measure => simp only [strLen]; omega
end Go.Proofs.YtjlcocalpjeghaaDoor
