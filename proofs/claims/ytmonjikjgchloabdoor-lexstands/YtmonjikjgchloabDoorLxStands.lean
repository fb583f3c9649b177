/- Walk of LexStands. -/
import Derived.Test.YtmonjikjgchloabDoorLxAlive
import Derived.Test.YtmonjikjgchloabDoorLxStand
import Derived.Test.YtmonjikjgchloabDoorLxRef
import Derived.Deep.RegionHeld3
namespace Go.Proofs.YtmonjikjgchloabDoor
open Go.RowKit Go.Shelf

theorem stands_len (l : List UInt8) : ∀ (ts : List Tk) (A : Int), standsT l A ts → ts.length = 0 ∨ A + ts.length ≤ l.length
  | [], _, _ => .inl rfl
  | t :: r, A, h => by
    obtain ⟨h1, h2, h3, _, _, h6⟩ := h
    rcases stands_len l r t.hi h6 with h | h
    · right; simp [h]; omega
    · right; simp; omega
theorem three_at {w w' : World} {p q r : Addr} {u v x : Value} (h0 : w.cell? p = some u) (h1 : w.cell? q = some v) (h2 : w.cell? r = some x) (hb : Below w.heap.size w w') : w'.cell? p = some u ∧ w'.cell? q = some v ∧ w'.cell? r = some x :=
  ⟨(hb.cell (World.block_lt_of_cell? _ _ h0)).trans h0, (hb.cell (World.block_lt_of_cell? _ _ h1)).trans h1, (hb.cell (World.block_lt_of_cell? _ _ h2)).trans h2⟩

set_option maxRecDepth 100000 in
set_option maxHeartbeats 2000000 in
theorem Stands_walk (s : ByteArray) (w : World) (hE : Env w) :
    Calls Tryd.prog 4 #[.string s] w fun e w' => e = .returned (.bool true) ∧ Below w.heap.size w w' := by
  have HT := hid (fun W (h : Below w.heap.size w W) => Tokens_any 0 s W (hE.below h))
  unfold TokPost faultV at HT
  go_enter Tryd.func4, Tryd.ntmps4
  go_wp2_with (go_at_call 23; refine (alive_any w hE).mono ?_; rintro e w1 ⟨rfl, hb1⟩)
  refine (HT.out _ hb1).mono ?_
  rintro e w2 ⟨a, c, rfl, hT, hb2, hcap⟩
  have HS := hid (toks_stand 0 s.data.toList)
  have HB2 := hid (hb1.trans (hb2.mono hb1.size))
  by_cases hf : (toksF 0 s.data.toList).2.1 = 0
  · have hs : s.size ≤ 3000 := by
      rcases Nat.lt_or_ge 3000 s.size with h | h
      · unfold toksF at hf; rw [if_pos (by rw [size_data]; exact h)] at hf; simp at hf
      · exact h
    generalize (toksF 0 s.data.toList).1 = ts at hT hcap HS ⊢
    generalize (toksF 0 s.data.toList).2 = F at hf ⊢
    obtain ⟨f0, f1, f2⟩ := F
    dsimp only at hf ⊢
    subst hf
    have hl : ts.length ≤ 3000 := by
      rcases stands_len _ ts 0 HS.out with h | h
      · omega
      · rw [size_data] at h; omega
    have HT2 := hid hT
    clear hE HT hb1 hb2 hT hcap
    go_wp2_with fail
    go_loopw [5, 23] (fun v x wr => ∃ (k : Nat) (A : Int), k ≤ ts.length ∧ 0 ≤ A ∧ v = .int .i64 A ∧ x = .int .i64 k ∧ Hid (standsT s.data.toList A (ts.drop k)) ∧ Hid (Below w2.heap.size w2 wr)) (fun _ x _ => ts.length - (intOf x).toNat)
    case atStart => exact ⟨0, 0, Nat.zero_le _, Int.le_refl _, rfl, rfl, HS.out, (Below.refl _ w2).alloc (Nat.le_refl _) _⟩
    case round =>
      obtain ⟨k, A, hk, hA, rfl, rfl, HK, HB⟩ := hrel
      by_cases hlt : k < ts.length
      · rcases HT2.out with h | ⟨b0, off, rfl, hb0, hc⟩
        · rw [h] at hlt; simp at hlt
        have hxk : ts[k]? = some ts[k] := List.getElem?_eq_getElem hlt
        have hcx : ∀ i v, (encT ts[k])[i]? = some v → wr.cell? ⟨b0, off + k * 11 + i, none⟩ = some v := fun i v hv => (HB.out.cell (p := ⟨b0, _, none⟩) hb0).trans (hc k _ hxk i v hv)
        rw [List.drop_eq_getElem_cons hlt] at HK
        generalize ts[k] = t at hcx HK
        obtain ⟨tk, tt, tsp, tfi, tf, tl, th, tn⟩ := t
        have c0 := hcx 0 _ rfl
        have c1 := hcx 1 _ rfl
        have c2 := hcx 2 _ rfl
        have c3 := hcx 3 _ rfl
        have c4 := hcx 4 _ rfl
        have c5 := hcx 5 _ rfl
        have c6 := hcx 6 _ rfl
        have c7 := hcx 7 _ rfl
        have c8 := hcx 8 _ rfl
        have c9 := hcx 9 _ rfl
        have c10 := hcx 10 _ rfl
        simp only [Nat.add_zero] at c0
        clear hcx hxk hc
        obtain ⟨k1, k2, k3, k4, k5, HK'⟩ := HK
        have HKn := hid HK'
        clear HK'
        dsimp only at k1 k2 k3 k4 k5 HKn
        rw [size_data] at k3
        obtain ⟨lo, rfl⟩ : ∃ n : Nat, tl = n := ⟨tl.toNat, by omega⟩
        obtain ⟨hi, rfl⟩ : ∃ n : Nat, th = n := ⟨th.toNat, by omega⟩
        have HR : Hid (∀ W, Calls Tryd.prog 24 #[.string (s.extract lo hi)] W fun e w' => ∃ a n c, e = .returned (.agg #[.string tt, .slice a n c]) ∧ Below W.heap.size W w') := fun W => by
          refine (RSplice_any (s.extract lo hi) W (by simp; omega)).mono ?_
          rintro e w' ⟨b, c, rfl, _, hb⟩
          have : textB (s.extract lo hi) = tt := by
            unfold textB
            rw [extract_data]
            rw [Int.toNat_natCast, Int.toNat_natCast] at k5
            rw [k5]
          rw [this]
          exact ⟨_, _, _, rfl, hb⟩
        have n1 : ¬((lo : Int) < A) := by omega
        have n2 : ¬((hi : Int) ≤ (lo : Int)) := by omega
        have n3 : ¬((s.size : Int) < (hi : Int)) := by omega
        have d1 : decide ((lo : Int) < A) = false := decide_eq_false n1
        have d2 : decide ((hi : Int) ≤ (lo : Int)) = false := decide_eq_false n2
        have d3 : decide ((s.size : Int) < (hi : Int)) = false := decide_eq_false n3
        have d4 : decide (hi ≤ lo) = false := decide_eq_false (by omega)
        have d5 : decide (s.size < hi) = false := decide_eq_false (by omega)
        have b1 : (lo : Int) ≤ (hi : Int) := by omega
        have b2 : (hi : Int) ≤ (s.size : Int) := by omega
        have b3 : lo ≤ hi := by omega
        have b4 : hi ≤ s.size := by omega
        have b5 : (0 : Int) ≤ (lo : Int) := by omega
        have hfd : ∀ (a : Option Addr) (n c : Nat) (W : World), (Instr.field 44 (.agg #[.string tt, .slice a n c]) 0).run Tryd.prog W = .ok (.string tt) W := fun _ _ _ _ => by kernel_rfl
        have n4 := isEmpty_false (show 1 ≤ tt.size from k4)
        clear k5
        go_wp2_with fail
        have hbX := HB.out.trans (((Below.refl _ wr).alloc (Nat.le_refl _) (.cells #[.int .i64 tk, .string tt, .bool tsp, .bool tfi, .int .i64 tf, .int .i64 lo, .int .i64 hi, .int .i64 tn, .slice none 0 0, .slice none 0 0, .int .i64 0] 37)).mono HB.out.size)
        have hXb := heap_alloc_new wr (.cells #[.int .i64 tk, .string tt, .bool tsp, .bool tfi, .int .i64 tf, .int .i64 lo, .int .i64 hi, .int .i64 tn, .slice none 0 0, .slice none 0 0, .int .i64 0] 37)
        generalize wr.alloc (.cells #[.int .i64 tk, .string tt, .bool tsp, .bool tfi, .int .i64 tf, .int .i64 lo, .int .i64 hi, .int .i64 tn, .slice none 0 0, .slice none 0 0, .int .i64 0] 37) = wX at hbX hXb ⊢
        have x1 := (block_facts hXb 1).1
        have x5 := (block_facts hXb 5).1
        have x6 := (block_facts hXb 6).1
        simp at x1 x5 x6
        have HBX := hid hbX
        clear hbX hXb c0 c1 c2 c3 c4 c5 c6 c7 c8 c9 c10
        go_region_held3 (fun W => W.cell? ⟨wr.heap.size, 1, none⟩ = some (.string tt) ∧ W.cell? ⟨wr.heap.size, 5, none⟩ = some (.int .i64 lo) ∧ W.cell? ⟨wr.heap.size, 6, none⟩ = some (.int .i64 hi))
          (first | exact three_at x1 x5 x6 (Below.refl _ _).drew | exact three_at x1 x5 x6 ((Below.refl _ wX).drew.trans hb3))
          ((go_at_call 24; refine (HR.out _).mono ?_; rintro e w3 ⟨a3, n3, c3, rfl, hb3⟩))
        obtain ⟨y1, y5, y6⟩ := three_at x1 x5 x6 ((Below.refl _ wX).drew.trans hb3)
        have HB3 := hid (HBX.out.trans (((Below.refl _ wX).drew.trans hb3).mono HBX.out.size))
        clear hb3 x1 x5 x6 HBX HB
        go_wp2
        go_roundw
        case rel => exact ⟨k + 1, (hi : Int), by omega, by omega, rfl, by go_num, HKn, HB3⟩
        case measure => simp [intOf]; omega
      · go_wp2
        go_ret
        exact ⟨rfl, HB2.out.trans (HB.out.mono HB2.out.size)⟩
  · have he : (toksF 0 s.data.toList).1 = [] := by
      revert hf
      unfold toksF
      split
      · exact fun _ => rfl
      · split
        · exact fun _ => rfl
        · exact fun h => absurd rfl h
    rw [he]
    clear hE HT hb1 hb2 hT HS hcap
    generalize (toksF 0 s.data.toList).2 = F at hf ⊢
    obtain ⟨f0, f1, f2⟩ := F
    dsimp only at hf ⊢
    have hfb : (f0 == 0) = false := by simpa using hf
    go_wp2
    go_ret
    exact ⟨rfl, HB2.out.trans (((Below.refl _ w2).alloc (Nat.le_refl _) _).mono HB2.out.size)⟩
end Go.Proofs.YtmonjikjgchloabDoor
