/- Walks of ValidRune, IndexRune and IndexAny at the two bytes that end a path, for whatever bytes. -/
import Derived.Test.YteklakpfbkcegaaGreatDoorLxQuot
import Derived.Laws.RangeAny
import Derived.Laws.Runes
import Derived.Deep.LoopGhost
import Derived.WalkMore
import Derived.Lib.OthersKept
namespace Go.Proofs.YteklakpfbkcegaaGreatDoor
open Go.RowKit Go.Shelf

theorem ValidRune_any (r : Int) (w : World) (h0 : 0 ≤ r) :
    Calls Tryz.prog 133 #[.int .i32 r] w fun e w' => e = .returned (.bool (Utf8.valid r)) ∧ w' = w := by
  go_enter Tryz.func133, Tryz.ntmps133
  go_wp2
  all_goals go_ret
  all_goals exact ⟨ret_bool (bool_ext (by simp [Utf8.valid]; omega)), rfl⟩

def endsB : ByteArray := ⟨#[62, 10]⟩

/-- A rune's bytes, beyond those of ASCII: none of them is one of ASCII. -/
theorem decode_bytes (s : ByteArray) (pos : Nat) (h : pos < s.size) (ha : 128 ≤ (s[pos]'h).toNat) : ∀ k, k < (Utf8.decode s pos).2 → pos + k < s.size ∧ 128 ≤ (s.get! (pos + k)).toNat := by
  have hn : ¬ (s[pos]'h).toNat < 128 := by omega
  have h0 : pos + 0 < s.size ∧ 128 ≤ (s.get! (pos + 0)).toNat := by rw [get_at s pos h]; exact ⟨h, ha⟩
  intro k
  simp only [Utf8.decode, get_at s pos h, hn, if_false]
  have one : ∀ j : Nat, j < 1 → pos + j < s.size ∧ 128 ≤ (s.get! (pos + j)).toNat := fun j hj => by
    have : j = 0 := by omega
    subst this
    exact h0
  split
  · rename_i h1
    simp only [Bool.and_eq_true, decide_eq_true_eq, beq_iff_eq] at h1
    split
    · intro hk
      match k, hk with
      | 0, _ => exact h0
      | 1, _ => exact ⟨h1.2.1, by have := h1.2.2; omega⟩
      | k + 2, hk => simp only at hk; omega
    · exact one k
  · split
    · rename_i h1
      simp only [Bool.and_eq_true, decide_eq_true_eq, beq_iff_eq] at h1
      split
      · intro hk
        match k, hk with
        | 0, _ => exact h0
        | 1, _ => exact ⟨h1.1.2.1, by have := h1.1.2.2; omega⟩
        | 2, _ => exact ⟨h1.2.1, by have := h1.2.2; omega⟩
        | k + 3, hk => simp only at hk; omega
      · exact one k
    · split
      · rename_i h1
        simp only [Bool.and_eq_true, decide_eq_true_eq, beq_iff_eq] at h1
        split
        · intro hk
          match k, hk with
          | 0, _ => exact h0
          | 1, _ => exact ⟨h1.1.1.2.1, by have := h1.1.1.2.2; omega⟩
          | 2, _ => exact ⟨h1.1.2.1, by have := h1.1.2.2; omega⟩
          | 3, _ => exact ⟨h1.2.1, by have := h1.2.2; omega⟩
          | k + 4, hk => simp only at hk; omega
        · exact one k
      · exact one k

theorem iter_below (w : World) (s : ByteArray) (pos : Nat) : Below w.heap.size w (w.iter s pos) := (Below.refl _ w).alloc (Nat.le_refl _) _

set_option maxRecDepth 100000 in
set_option maxHeartbeats 1000000 in
/-- IndexRune of a rune beyond ASCII in the two bytes. -/
theorem IndexRune_high (r : Int) (w : World) (h0 : 128 ≤ r) (h1 : r ≤ 2147483647) :
    Calls Tryz.prog 126 #[.string endsB, .int .i32 r] w fun e w' => e = .returned (.int .i64 (-1)) ∧ Below w.heap.size w w' := by
  unfold endsB
  have hb0 : decide (r < 128) = false := by simp; omega
  by_cases he : r = 65533
  · subst he
    go_enter Tryz.func126, Tryz.ntmps126
    go_wp2
    go_loopg [5, 6] 2 (fun g _ _ wx => ∃ i : Nat, i + g = 2 ∧ wx = w.iter ⟨#[62, 10]⟩ i)
    case atStart => exact ⟨0, rfl, rfl⟩
    case round =>
      obtain ⟨i, hi, rfl⟩ := hrel
      match i, hi with
      | 0, hi =>
        obtain rfl : gk = 2 := by omega
        have hnx := fun ty => run_next_ascii (P := Tryz.prog) w ⟨#[62, 10]⟩ 0 ty (by decide) (by decide)
        go_wp2
        go_roundg 1
        case measure => omega
        case rel => exact ⟨1, rfl, rfl⟩
      | 1, hi =>
        obtain rfl : gk = 1 := by omega
        have hnx := fun ty => run_next_ascii (P := Tryz.prog) w ⟨#[62, 10]⟩ 1 ty (by decide) (by decide)
        go_wp2
        go_roundg 0
        case measure => omega
        case rel => exact ⟨2, rfl, rfl⟩
      | 2, hi =>
        have hnx := fun ty => run_next_end (P := Tryz.prog) w ⟨#[62, 10]⟩ 2 ty (by decide)
        go_wp2
        go_ret
        exact ⟨rfl, iter_below _ _ _⟩
      | i + 3, hi => omega
  · have hbe : (r == 65533) = false := by simpa using he
    have HV := hid (ValidRune_any r w (by omega))
    cases hv : Utf8.valid r with
    | false =>
      rw [hv] at HV
      go_enter Tryz.func126, Tryz.ntmps126
      go_wp2_with (go_at_call 133; refine HV.out.mono ?_; rintro e w' ⟨rfl, hww⟩; subst w')
      go_ret
      exact ⟨rfl, Below.refl _ _⟩
    | true =>
      rw [hv] at HV
      obtain ⟨e1, e2, e3⟩ := encode_facts r hv h0
      obtain ⟨E, hE⟩ : ∃ E, Utf8.encode r = E := ⟨_, rfl⟩
      rw [hE] at e1 e2 e3
      have hcv : ∀ W, (convert 21 9 (.int .i32 r)).run Tryz.prog W = .ok (.string E) W := fun W => by
        rw [← hE]; exact run_convert_int_string W _ _ _ _ (by rw [Tryz.underlying21]; rfl) Tryz.underlying9
      clear hv hE
      have HI : Hid (∀ (c : Int) W, Calls Tryz.prog 100 #[.string ByteArray.empty, .int .u8 c] W fun e w' => e = .returned (.int .i64 (-1)) ∧ w' = W) := fun c W => Tryz.strings_IndexByte ByteArray.empty c W
      by_cases h2 : E.size = 2
      · have hlt : 1 < E.size := by omega
        have h128 : 128 ≤ (E[1]'hlt).toNat := by have := e3 (by omega); simpa [h2] using this
        have hne : ((((ByteArray.mk #[62, 10])[1]'(by decide)).toNat : Int) != ((E[1]'hlt).toNat : Int)) = true := by
          rw [show (((ByteArray.mk #[62, 10])[1]'(by decide)).toNat : Int) = 10 from rfl]; simp; omega
        have hw2 : IntKind.i64.wrap 2 = 2 := by decide
        have hx2 : (ByteArray.mk #[62, 10]).extract 2 2 = ⟨#[]⟩ := by decide
        clear e1 e2 e3
        go_enter Tryz.func126, Tryz.ntmps126
        go_wp2_with (go_at_call 133; refine HV.out.mono ?_; rintro e w' ⟨rfl, hww⟩; subst w')
        go_step3
        go_wp2_with fail
        go_loop [9, 10] (fun x y => x = .int .i64 1 ∧ y = .int .i64 0) (fun _ _ => 0)
        case atStart => exact ⟨rfl, rfl⟩
        case round =>
          obtain ⟨rfl, rfl⟩ := hrel
          go_wp2_with fail
          go_step3
          go_wp2_with fail
          go_quiet (fail)
          have HB1 := hid (below_drewN (Below.refl w.heap.size w) nq)
          generalize w.drewN nq = w1 at HB1 ⊢
          go_wp2_with fail
          go_quiet ((go_at_call 100; exact Calls.quiet_of_same (HI.out _ _)))
          go_wp2
          rw [Exit.noGoto_ret]
          iterate 8 (first | (change bodyPost _ _ _ _ _ _) | (change Exit.noGoto _ Exit.ret _ _; rw [Exit.noGoto_ret]))
          change bodyPost _ _ _ _ _ _
          go_ret
          exact ⟨rfl, below_drewN HB1.out _⟩
      · obtain ⟨m, hm⟩ : ∃ m : Nat, E.size = m + 3 := ⟨E.size - 3, by omega⟩
        have hm1 : m ≤ 1 := by omega
        clear e1 e2 e3 h2
        go_enter Tryz.func126, Tryz.ntmps126
        go_wp2_with (go_at_call 133; refine HV.out.mono ?_; rintro e w' ⟨rfl, hww⟩; subst w')
        go_step3
        go_wp2_with fail
        go_loop [9, 10] (fun x y => x = .int .i64 ((m : Int) + 2) ∧ y = .int .i64 0) (fun _ _ => 0)
        case atStart => exact ⟨by go_num, rfl⟩
        case round =>
          obtain ⟨rfl, rfl⟩ := hrel
          go_wp2_with fail
          go_ret
          exact ⟨rfl, Below.refl _ _⟩

/-- No byte of the two stands below place i: nor below i + n, if those between are beyond ASCII. -/
theorem noAny_add (l : List UInt8) (i n : Nat) (h : Lib.NoAny l [62, 10] i) (hn : ∀ k, k < n → ∀ b, l[i + k]? = some b → 128 ≤ b.toNat) : Lib.NoAny l [62, 10] (i + n) := by
  intro j b hj hb
  by_cases hji : j < i
  · exact h j b hji hb
  · have := hn (j - i) (by omega) b (by rw [show i + (j - i) = j by omega]; exact hb)
    simp only [List.contains_cons, List.contains_nil, Bool.or_false, Bool.or_eq_false_iff, beq_eq_false_iff_ne]
    constructor <;> (intro e; subst e; simp at this)

theorem get_data (s : ByteArray) (k : Nat) (b : UInt8) (h : s.data.toList[k]? = some b) : s.get! k = b := by
  have hk : k < s.size := by rw [← size_data]; exact (List.getElem?_eq_some_iff.1 h).1
  have h2 := get_at s k hk
  rw [Nat.add_zero] at h2
  rw [h2]
  rw [List.getElem?_eq_getElem (by rw [size_data]; exact hk)] at h
  exact Option.some.inj h

set_option maxRecDepth 100000 in
set_option maxHeartbeats 1000000 in
theorem IndexAny_any (s : ByteArray) (w : World) (hs : s.size < 4294967281) :
    Calls Tryz.prog 117 #[.string s, .string endsB] w fun e w' => e = .returned (.int .i64 (Lib.indexAny s.data.toList [62, 10])) ∧ Below w.heap.size w w' := by
  by_cases h8 : 8 < s.size
  · have h116 : (Tryz.prog.info? (Tryz.lays153_ren.t 116)).map (fun i => (i.zero, i.size)) = some (some (.agg (Array.replicate 256 (.bool false))), 256) := by kernel_rfl
    refine (Any.strings_IndexAny_long Tryz.lays153 (zero_of_info h116).1 (zero_of_info h116).2 s endsB w (by decide) h8 hs (by decide) ?_).mono ?_
    · intro j b hb
      match j, hb with
      | 0, hb => cases hb; decide
      | 1, hb => cases hb; decide
      | j + 2, hb => cases hb
    · rintro e w' ⟨rfl, rfl⟩
      exact ⟨rfl, ((Below.refl _ _).alloc (Nat.le_refl _) _).alloc (by simp) _⟩
  · have h8z : decide ((8 : Int) < (s.size : Int)) = false := decide_eq_false (by omega)
    have HU : Hid (∀ W, Calls Tryz.prog 127 #[.int .i64 (s.size : Int)] W fun e w' => e = .returned (.bool false) ∧ w' = W) := fun W => by
      have := Any.strings_shouldUseASCIISet Tryz.lays226 (s.size : Int) W
      rw [h8z] at this; exact this
    have HR : Hid (∀ (c : UInt8) W, c.toNat < 128 → Calls Tryz.prog 126 #[.string endsB, .int .i32 (c.toNat : Int)] W fun e w' => e = .returned (.int .i64 (Lib.indexByte [62, 10] c)) ∧ w' = W) := fun c W h => by
      have := Any.strings_IndexRune_ascii Tryz.lays152 endsB (c.toNat : Int) W (by omega) (by omega)
      rw [show ((c.toNat : Int)).toNat.toUInt8 = c by simp] at this
      exact this
    have HH := hid (fun (c : Int) W h0 h1 => IndexRune_high c W h0 h1)
    clear h8z
    unfold endsB at *
    go_enter Tryz.func117, Tryz.ntmps117
    go_wp2_with (go_at_call 127; refine (HU.out _).mono ?_; rintro e w' ⟨rfl, hww⟩; subst w')
    go_loopg [9, 10] s.size (fun g _ _ wx => ∃ (i : Nat), i + g = s.size ∧ Hid (Lib.NoAny s.data.toList [62, 10] i) ∧ Hid (wx.heap[w.heap.size]? = some (.stringIter s i)) ∧ Hid (Below w.heap.size w wx))
    case atStart => exact ⟨0, by omega, Lib.NoAny.zero _ _, World.iter_heap _ _ _, iter_below _ _ _⟩
    case round =>
      obtain ⟨i, hig, HN, HIt, HB⟩ := hrel
      by_cases hi : i < s.size
      · have hnx := fun ty => Lib.run_next_any_at (P := Tryz.prog) wr w.heap.size s i ty HIt.out hi
        have HIt2 := hid (Lib.iterAt_heap wr w.heap.size s i (i + (Utf8.decode s i).2) HIt.out)
        have HB2 : Hid (Below w.heap.size w (wr.iterAt w.heap.size s (i + (Utf8.decode s i).2))) := HB.out.trans ⟨rfl, rfl, rfl, by simp [World.iterAt], fun k hk => by simp only [World.iterAt]; rw [Array.getElem?_setIfInBounds_ne (by omega)]⟩
        obtain ⟨x, hx⟩ : ∃ x : UInt8, s[i]'hi = x := ⟨_, rfl⟩
        have hxl : s.data.toList[i]? = some x := by rw [← hx, List.getElem?_eq_getElem (by rw [size_data]; exact hi)]; rfl
        have HX := hid hxl
        clear hxl
        by_cases ha : x.toNat < 128
        · rw [decode_ascii s i hi (by rw [hx]; exact ha), hx] at hnx HIt2 HB2
          dsimp only at hnx HIt2 HB2
          have HR2 := hid (fun W => HR.out x W ha)
          have HNs := hid (HN.out.succ HX.out)
          have HNh := hid (Lib.indexAny_hit HN.out HX.out)
          clear hx HIt HB HR
          generalize wr.iterAt w.heap.size s (i + 1) = w2 at hnx HIt2 HB2
          by_cases hin : x = 62 ∨ x = 10
          · have hE : Hid (Lib.indexAny s.data.toList [62, 10] = i) := HNh.out (by rcases hin with rfl | rfl <;> rfl)
            have hge : (0 : Int) ≤ Lib.indexByte [62, 10] x := by rcases hin with rfl | rfl <;> decide
            generalize Lib.indexByte [62, 10] x = q at hge HR2
            clear hin HNs HNh
            go_wp2_with (go_at_call 126; refine (HR2.out _).mono ?_; rintro e w' ⟨rfl, hww⟩; subst w')
            go_ret
            exact ⟨ret_int (by rw [hE.out]), HB2.out⟩
          · have hlt : ¬ ((0 : Int) ≤ Lib.indexByte [62, 10] x) := by
              have h1 : ¬ (62 = x) := fun e => hin (.inl e.symm)
              have h2 : ¬ (10 = x) := fun e => hin (.inr e.symm)
              simp [Lib.indexByte, h1, h2]
            have HN2 := hid (HNs.out (by simp only [List.contains_cons, List.contains_nil, Bool.or_false, Bool.or_eq_false_iff, beq_eq_false_iff_ne]; exact ⟨fun e => hin (.inl e), fun e => hin (.inr e)⟩))
            generalize Lib.indexByte [62, 10] x = q at hlt HR2
            clear hin HNs HNh
            go_wp2_with (go_at_call 126; refine (HR2.out _).mono ?_; rintro e w' ⟨rfl, hww⟩; subst w')
            go_roundg (gk - 1)
            case measure => omega
            case rel => exact ⟨i + 1, by omega, HN2.out, HIt2.out, HB2.out⟩
        · have hd := decode_high s i hi (by rw [hx]; omega)
          have hle := decode_le s i
          have hby := decode_bytes s i hi (by rw [hx]; omega)
          have hend : i + (Utf8.decode s i).2 ≤ s.size := by
            have := (hby ((Utf8.decode s i).2 - 1) (by omega)).1
            omega
          have HN2 := hid (noAny_add s.data.toList i (Utf8.decode s i).2 HN.out (fun k hk b hb => by have := (hby k hk).2; rw [get_data s _ b hb] at this; exact this))
          generalize (Utf8.decode s i).1 = c at hnx hd hle
          generalize (Utf8.decode s i).2 = n at hnx hd hend HN2 HIt2 HB2
          have HH2 := hid (fun W => HH.out (c : Int) W (by omega) (by omega))
          clear hx HIt HB HR HH hby
          generalize wr.iterAt w.heap.size s (i + n) = w2 at hnx HIt2 HB2
          obtain ⟨hd1, hd2⟩ := hd
          go_wp2_with (go_at_call 126; refine (HH2.out _).mono ?_; rintro e w' ⟨rfl, hbw⟩)
          have HIt3 := hid ((hbw.block w.heap.size (Array.getElem?_eq_some_iff.1 HIt2.out).1).trans HIt2.out)
          have HB3 := hid (HB2.out.trans (hbw.mono HB2.out.size))
          clear hbw
          go_wp2
          go_roundg (gk - n)
          case measure => omega
          case rel => exact ⟨i + n, by omega, HN2.out, HIt3.out, HB3.out⟩
      · have hnx := fun ty => Lib.run_next_end_at (P := Tryz.prog) wr w.heap.size s i ty HIt.out hi
        have hE : Hid (Lib.indexAny s.data.toList [62, 10] = -1) := Lib.indexAny_none (by rw [size_data, show s.size = i by omega]; exact HN.out)
        clear HIt
        go_wp2
        go_ret
        exact ⟨ret_int (by rw [hE.out]), HB.out⟩
end Go.Proofs.YteklakpfbkcegaaGreatDoor
