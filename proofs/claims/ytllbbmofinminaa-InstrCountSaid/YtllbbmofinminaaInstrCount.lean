/- The statement InstrCount, walked. Nothing is claimed here. -/
import Derived.Test.YtllbbmofinminaaInstrBegun
namespace Go.Proofs.Ytllbbmofinminaa
open Go.RowKit

/-- The bytes that are asked for an opcode. -/
def opBytes (j : Nat) : List Int := (j : Int) :: (if j = 196 then 21 else 0) :: List.replicate 38 0
def countOk (j : Nat) : Bool :=
  match insI (opBytes j) 0 with
  | none => !kept j
  | some I => kept j && decide (1 ≤ I.len) && decide (I.len ≤ 20)
theorem count_all : (List.range 256).all countOk = true := by decide +kernel
theorem opBytes_len (j : Nat) : (opBytes j).length = 40 := by simp [opBytes]
theorem opBytes_byte (j : Nat) (h : j < 256) : IsBytes (opBytes j) := by
  intro x hx
  simp only [opBytes, List.mem_cons, List.mem_replicate] at hx
  rcases hx with rfl | rfl | ⟨_, rfl⟩
  · omega
  · split <;> omega
  · omega
theorem count_at {j : Nat} (h : j < 256) : (insI (opBytes j) 0 = none ∧ kept j = false) ∨ ∃ I, insI (opBytes j) 0 = some I ∧ kept j = true ∧ 1 ≤ I.len ∧ I.len ≤ 20 := by
  have := List.all_eq_true.1 count_all j (by simpa using h)
  unfold countOk at this
  cases hr : insI (opBytes j) 0 with
  | none => rw [hr] at this; left; exact ⟨rfl, by simpa using this⟩
  | some I =>
    rw [hr] at this
    right
    refine ⟨I, rfl, ?_⟩
    simpa [and_assoc] using this

theorem make_bytes40 (W : World) : (Instr.makeSlice 22 (.int .i64 40) (.int .i64 40)).run Try.prog W = .ok (.slice (some ⟨W.heap.size, 0, none⟩) 40 40) (W.alloc (.cells (Array.replicate 40 (.int .u8 0)) 5)) := by
  obtain ⟨i0, hi0, iz0, iz1, iz2⟩ := info_parts u8info
  have := run_make (P := Try.prog) W 22 5 i0 _ Try.underlying22 hi0 iz0 .i64 .i64 40 40 (by omega) (by omega) (by rw [iz2]; omega) (by omega)
  rw [this, iz1]
  rw [show madeCells (Value.int .u8 0).cells ((40 : Int).toNat * 1) = Array.replicate 40 (.int .u8 0) from by rw [made_nums]; rfl]
  rfl

theorem opBytes_put (w : World) (j : Nat) (hj : j ≠ 196) : At (w.alloc (.cells ((Array.replicate 40 (.int .u8 0)).setIfInBounds 0 (.int .u8 j)) 5)) w.heap.size 5 (bys (opBytes j)) := by
  have e : (bys (opBytes j)).toArray = (Array.replicate 40 (.int .u8 0)).setIfInBounds 0 (.int .u8 j) := by
    unfold opBytes; rw [if_neg hj]; rfl
  have := At.new w 5 (bys (opBytes j))
  rwa [e] at this
theorem opBytes_put2 (w : World) : At (w.alloc (.cells (((Array.replicate 40 (.int .u8 0)).setIfInBounds 0 (.int .u8 196)).setIfInBounds 1 (.int .u8 21)) 5)) w.heap.size 5 (bys (opBytes 196)) := by
  have e : (bys (opBytes 196)).toArray = ((Array.replicate 40 (.int .u8 0)).setIfInBounds 0 (.int .u8 196)).setIfInBounds 1 (.int .u8 21) := by
    rfl
  have := At.new w 5 (bys (opBytes 196))
  rwa [e] at this

set_option maxHeartbeats 2000000 in
set_option maxRecDepth 100000 in
theorem InstrCount_walk (w : World) : Calls Try.prog 4 #[] w fun e w' => e = .returned (.bool true) ∧ Below w.heap.size w w' := by
  have HK := hide rkept_any
  have HIK := hide ikept_any
  have HBG := hide ibegun_any
  have hmk := make_bytes40
  have HA : Hid (∀ W g j, j < 256 → At W g 5 (bys (opBytes j)) → Calls Try.prog 8 #[.slice (some ⟨g, 0, none⟩) 40 40, .int .i64 0] W fun e w' => InsR W w' e (insI (opBytes j) 0)) := hide fun W g j hj hA => by
    have h := hA.bytes
    rw [opBytes_len] at h
    exact iat_any _ 40 40 0 (opBytes j) W _ h (Nat.le_refl _) (opBytes_byte j hj) (Nat.le_refl _) (by omega)
  go_enter Try.func4, Try.ntmps4
  go_wp2_with fail
  go_loopw [1, 2] (fun nv iv wr => ∃ j : Nat, j ≤ 256 ∧ iv = .int .i64 j ∧ nv = .int .i64 (keptTo j : Nat) ∧ Below w.heap.size w wr) (fun _ iv _ => 256 - (intOf iv).toNat)
  case atStart => exact ⟨0, by omega, rfl, rfl, Below.refl _ _⟩
  case round =>
    obtain ⟨j, hj, rfl, rfl, hb⟩ := hrel
    have HB := hide hb
    have hz := hb.size
    clear hb
    by_cases hlt : j < 256
    · have hlt' : (j : Int) < 256 := by omega
      have hle := keptTo_le j
      have Hs : Hid (keptTo (j + 1) = keptTo j + if kept j then 1 else 0) := hide rfl
      have c0 := (At.newR (W := wr) .u8 5 40 rfl).cell 0
      have c1 := (At.newR (W := wr) .u8 5 40 rfl).cell 1
      have f0 := (At.newR (W := wr) .u8 5 40 rfl).free 0
      have f1 := (At.newR (W := wr) .u8 5 40 rfl).free 1
      rw [show ((List.replicate 40 (0 : Int)).map (Value.int .u8))[0]? = some (.int .u8 0) from rfl] at c0
      rw [show ((List.replicate 40 (0 : Int)).map (Value.int .u8))[1]? = some (.int .u8 0) from rfl] at c1
      by_cases h196 : j = 196
      · subst h196
        have HA2 := hide (HA.out _ _ 196 hlt (opBytes_put2 wr))
        have HC := hide (count_at hlt)
        have HB1 := hide (Below.trans HB.out ((((Below.refl wr.heap.size wr).alloc (Nat.le_refl _) (.cells (((Array.replicate 40 (.int .u8 0)).setIfInBounds 0 (.int .u8 196)).setIfInBounds 1 (.int .u8 21)) 5))).mono hz))
        clear hlt HB
        go_wp2_with fail
        refine HA2.out.mono ?_
        rintro e w2 hR
        rcases HC.out with ⟨hno, hk⟩ | ⟨I, hI, hk, h1, h2⟩
        · rw [hno] at hR
          obtain ⟨rfl, hb2⟩ := hR
          have HKj : Hid (∀ W, Calls Try.prog 11 #[.int .i64 196] W fun e w' => e = .returned (.bool false) ∧ Below W.heap.size W w') := hide fun W => by have := rkept_any ((196 : Nat) : Int) W; rw [hk] at this; exact this
          have HS2 : Hid (keptTo (196 + 1) = keptTo 196) := hide (by rw [Hs.out, hk]; rfl)
          have HB2 := hide (HB1.out.trans (hb2.mono HB1.out.size))
          have hz2 := HB2.out.size
          clear hb2 hk hno HC HA2 Hs HB1
          unfold noV insV
          go_wp2_with fail
          refine (HKj.out _).mono ?_
          rintro e w3 ⟨rfl, hb3⟩
          have HB3 := hide ((HB2.out.alloc hz2 (.cells #[.int .i64 0, .int .i64 0, .int .i64 0, .bool false, .int .i64 0, .int .i64 0, .slice none 0 0, .slice none 0 0] 28)).trans (hb3.mono (by simp; omega)))
          clear hb3 HB2 HKj
          go_wp2_with fail
          go_roundw
          case rel => exact ⟨196 + 1, by omega, by first | rfl | go_num, by rw [HS2.out], HB3.out⟩
          case measure => simp [intOf] <;> omega
        · rw [hI] at hR
          obtain ⟨⟨v, rfl, T, K, rfl, hT, hK⟩, hb2⟩ := hR
          obtain ⟨ta, tl, tc, rfl⟩ := hT.shape
          obtain ⟨ka, kl, kc, rfl⟩ := hK.shape
          have HKj : Hid (∀ W, Calls Try.prog 11 #[.int .i64 196] W fun e w' => e = .returned (.bool true) ∧ Below W.heap.size W w') := hide fun W => by have := rkept_any ((196 : Nat) : Int) W; rw [hk] at this; exact this
          have HS2 : Hid (keptTo (196 + 1) = keptTo 196 + 1) := hide (by rw [Hs.out, hk]; rfl)
          have HB2 := hide (HB1.out.trans (hb2.mono HB1.out.size))
          have hz2 := HB2.out.size
          clear hb2 hk hI HC HA2 Hs HB1 hT hK
          go_wp2_with fail
          refine (HKj.out _).mono ?_
          rintro e w3 ⟨rfl, hb3⟩
          have HB3 := hide ((HB2.out.alloc hz2 (.cells #[.int .i64 I.place, .int .i64 I.len, .int .i64 I.op, .bool I.wide, .int .i64 I.a, .int .i64 I.b, .slice ta tl tc, .slice ka kl kc] 28)).trans (hb3.mono (by simp; omega)))
          have q1 := ((At.new w2 28 [.int .i64 I.place, .int .i64 I.len, .int .i64 I.op, .bool I.wide, .int .i64 I.a, .int .i64 I.b, .slice ta tl tc, .slice ka kl kc]).below hb3 (by simp)).cell 1
          simp only [List.getElem?_cons_succ, List.getElem?_cons_zero] at q1
          have g1 : ¬ (I.len < 1) := by omega
          have g2 : ¬ (20 < I.len) := by omega
          clear hb3 HB2 HKj
          go_wp2_with fail
          go_roundw
          case rel => exact ⟨196 + 1, by omega, by first | rfl | go_num, int_eq6 (by rw [HS2.out]; simp), HB3.out⟩
          case measure => simp [intOf] <;> omega
      · have hn : ((j : Int) == 196) = false := by simp; omega
        have HA2 := hide (HA.out _ _ j hlt (opBytes_put wr j h196))
        have HC := hide (count_at hlt)
        have HB1 := hide (Below.trans HB.out ((((Below.refl wr.heap.size wr).alloc (Nat.le_refl _) (.cells ((Array.replicate 40 (.int .u8 0)).setIfInBounds 0 (.int .u8 j)) 5))).mono hz))
        clear hlt HB
        go_wp2_with fail
        refine HA2.out.mono ?_
        rintro e w2 hR
        rcases HC.out with ⟨hno, hk⟩ | ⟨I, hI, hk, h1, h2⟩
        · rw [hno] at hR
          obtain ⟨rfl, hb2⟩ := hR
          have HKj : Hid (∀ W, Calls Try.prog 11 #[.int .i64 j] W fun e w' => e = .returned (.bool false) ∧ Below W.heap.size W w') := hide fun W => by have := rkept_any ((j : Nat) : Int) W; rw [hk] at this; exact this
          have HS2 : Hid (keptTo (j + 1) = keptTo j) := hide (by rw [Hs.out, hk]; rfl)
          have HB2 := hide (HB1.out.trans (hb2.mono HB1.out.size))
          have hz2 := HB2.out.size
          clear hb2 hk hno HC HA2 Hs HB1
          unfold noV insV
          go_wp2_with fail
          refine (HKj.out _).mono ?_
          rintro e w3 ⟨rfl, hb3⟩
          have HB3 := hide ((HB2.out.alloc hz2 (.cells #[.int .i64 0, .int .i64 0, .int .i64 0, .bool false, .int .i64 0, .int .i64 0, .slice none 0 0, .slice none 0 0] 28)).trans (hb3.mono (by simp; omega)))
          clear hb3 HB2 HKj
          go_wp2_with fail
          go_roundw
          case rel => exact ⟨j + 1, by omega, by first | rfl | go_num, by rw [HS2.out], HB3.out⟩
          case measure => simp [intOf] <;> omega
        · rw [hI] at hR
          obtain ⟨⟨v, rfl, T, K, rfl, hT, hK⟩, hb2⟩ := hR
          obtain ⟨ta, tl, tc, rfl⟩ := hT.shape
          obtain ⟨ka, kl, kc, rfl⟩ := hK.shape
          have HKj : Hid (∀ W, Calls Try.prog 11 #[.int .i64 j] W fun e w' => e = .returned (.bool true) ∧ Below W.heap.size W w') := hide fun W => by have := rkept_any ((j : Nat) : Int) W; rw [hk] at this; exact this
          have HS2 : Hid (keptTo (j + 1) = keptTo j + 1) := hide (by rw [Hs.out, hk]; rfl)
          have HB2 := hide (HB1.out.trans (hb2.mono HB1.out.size))
          have hz2 := HB2.out.size
          clear hb2 hk hI HC HA2 Hs HB1 hT hK
          go_wp2_with fail
          refine (HKj.out _).mono ?_
          rintro e w3 ⟨rfl, hb3⟩
          have HB3 := hide ((HB2.out.alloc hz2 (.cells #[.int .i64 I.place, .int .i64 I.len, .int .i64 I.op, .bool I.wide, .int .i64 I.a, .int .i64 I.b, .slice ta tl tc, .slice ka kl kc] 28)).trans (hb3.mono (by simp; omega)))
          have q1 := ((At.new w2 28 [.int .i64 I.place, .int .i64 I.len, .int .i64 I.op, .bool I.wide, .int .i64 I.a, .int .i64 I.b, .slice ta tl tc, .slice ka kl kc]).below hb3 (by simp)).cell 1
          simp only [List.getElem?_cons_succ, List.getElem?_cons_zero] at q1
          have g1 : ¬ (I.len < 1) := by omega
          have g2 : ¬ (20 < I.len) := by omega
          clear hb3 HB2 HKj
          go_wp2_with fail
          go_roundw
          case rel => exact ⟨j + 1, by omega, by first | rfl | go_num, int_eq6 (by rw [HS2.out]; simp), HB3.out⟩
          case measure => simp [intOf] <;> omega
    · obtain rfl : j = 256 := by omega
      have HBk := hide (keptTo_le 256)
      generalize keptTo 256 = N at *
      go_wp2_with fail
      refine (HBG.out _).mono ?_
      rintro e w2 ⟨rfl, hb2⟩
      have HB2 := hide (HB.out.trans (hb2.mono hz))
      clear hb2
      go_wp2_with fail
      refine (HIK.out _).mono ?_
      rintro e w3 ⟨rfl, hb3⟩
      have HB3 := hide (HB2.out.trans (hb3.mono HB2.out.size))
      clear hb3
      go_wp2_with fail
      go_ret
      exact ⟨rfl, HB3.out⟩
end Go.Proofs.Ytllbbmofinminaa
