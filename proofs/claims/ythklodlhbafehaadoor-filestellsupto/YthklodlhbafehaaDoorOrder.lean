/- Walks of the comparison of edits, of their copy and of their sort. -/
import Derived.Test.YthklodlhbafehaaDoorInclude
import Derived.StillTailTactics
import Derived.Shelf.SlSortCmp.WholeK
import Derived.Shelf.SlSortCmp.NoneTotal
namespace Go.Proofs.YthklodlhbafehaaDoor
open Go.RowKit Go.Shelf Go.Sort

/-- An edit: of which file, from where to where, and what is there then. -/
abbrev Ed := Int × Int × Int × ByteArray
abbrev Ed.file (x : Ed) : Int := x.1
abbrev Ed.lo (x : Ed) : Int := x.2.1
abbrev Ed.hi (x : Ed) : Int := x.2.2.1
abbrev Ed.text (x : Ed) : ByteArray := x.2.2.2

def encE (x : Ed) : List Value := [.int .i64 x.file, .int .i64 x.lo, .int .i64 x.hi, .string x.text]
def orI (a b c : Int) : Int := if a != 0 then a else if b != 0 then b else c
def cmpE (x y : Ed) : Int := orI (Lib.compareInt x.file y.file) (Lib.compareInt x.lo y.lo) (Lib.compareInt x.hi y.hi)

set_option maxHeartbeats 400000 in
theorem or_any (a b c : Int) (B : Nat) (w : World) (h0 : w.cell? ⟨B, 0, none⟩ = some (.int .i64 a)) (h1 : w.cell? ⟨B, 1, none⟩ = some (.int .i64 b)) (h2 : w.cell? ⟨B, 2, none⟩ = some (.int .i64 c)) :
    Calls Tryd.prog 46 #[.slice (some ⟨B, 0, none⟩) 3 3] w fun e w' => e = .returned (.int .i64 (orI a b c)) ∧ w' = w := by
  go_enter Tryd.func46, Tryd.ntmps46
  go_wp2
  go_loop [5, 8] (fun _ i => i = .int .i64 0 ∨ (i = .int .i64 1 ∧ Hid (a = 0)) ∨ (i = .int .i64 2 ∧ Hid (a = 0 ∧ b = 0)) ∨ (i = .int .i64 3 ∧ Hid (a = 0 ∧ b = 0 ∧ c = 0))) (fun _ i => 3 - (intOf i).toNat)
  case atStart => exact .inl rfl
  case round =>
    rcases hrel with rfl | ⟨rfl, H⟩ | ⟨rfl, H⟩ | ⟨rfl, H⟩
    · cases ha : (a != 0) with
      | true =>
        have HE : Hid (orI a b c = a) := by simp [Hid, orI, ha]
        go_wp2
        go_ret
        exact ⟨ret_int HE.out.symm, rfl⟩
      | false =>
        have HE : Hid (a = 0) := by simpa [Hid] using ha
        go_wp2
        go_round
        case rel => exact .inr (.inl ⟨rfl, HE⟩)
        case measure => simp [intOf]
    · cases hb : (b != 0) with
      | true =>
        have HE : Hid (orI a b c = b) := by show _ = _; rw [H.out]; simp [orI, hb]
        go_wp2
        go_ret
        exact ⟨ret_int HE.out.symm, rfl⟩
      | false =>
        have HE : Hid (a = 0 ∧ b = 0) := ⟨H.out, by simpa using hb⟩
        go_wp2
        go_round
        case rel => exact .inr (.inr (.inl ⟨rfl, HE⟩))
        case measure => simp [intOf]
    · cases hc : (c != 0) with
      | true =>
        have HE : Hid (orI a b c = c) := by show _ = _; rw [H.out.1, H.out.2]; simp [orI]
        go_wp2
        go_ret
        exact ⟨ret_int HE.out.symm, rfl⟩
      | false =>
        have HE : Hid (a = 0 ∧ b = 0 ∧ c = 0) := ⟨H.out.1, H.out.2, by simpa using hc⟩
        go_wp2
        go_round
        case rel => exact .inr (.inr (.inr ⟨rfl, HE⟩))
        case measure => simp [intOf]
    · have HE : Hid (orI a b c = 0) := by show _ = _; rw [H.out.1, H.out.2.1, H.out.2.2]; simp [orI]
      go_wp2
      go_ret
      exact ⟨ret_int HE.out.symm, rfl⟩

theorem region_tail {P : Program} {id : Nat} {Q : Exit → Act → World → Prop} {a : Act} {w : World} {l : List Oper} (n : Nat) (hm : P.follows .mixedOrders = true) (hB : Region.lexTailB .any l.toArray n = true)
    (h : wpStill P l.toArray w.drew (fun a' => wpList P l.toArray Q (l.drop n) a' w.drew) (l.take n) a) : (Code.region id l.toArray true).wp P Q a w :=
  wp_region_still_tail n hm hB h

set_option maxRecDepth 100000 in
set_option maxHeartbeats 1000000 in
theorem cmp_any (x y : Ed) (W : World) : Calls Tryd.prog 45 #[.agg #[.int .i64 x.file, .int .i64 x.lo, .int .i64 x.hi, .string x.text], .agg #[.int .i64 y.file, .int .i64 y.lo, .int .i64 y.hi, .string y.text]] W
    fun e w' => e = .returned (.int .i64 (cmpE x y)) ∧ ∃ q os', w' = grow (W.drewN q) os' := by
  obtain ⟨f1, l1, h1, t1⟩ := x
  obtain ⟨f2, l2, h2, t2⟩ := y
  dsimp only [cmpE]
  have c1 := fun W => Tryd.cmp_Compare_int f1 f2 W
  have c2 := fun W => Tryd.cmp_Compare_int l1 l2 W
  have c3 := fun W => Tryd.cmp_Compare_int h1 h2 W
  have C1 := hid c1
  have C2 := hid c2
  have C3 := hid c3
  have HO := hid or_any
  generalize Lib.compareInt f1 f2 = r1 at C1 c1 ⊢
  generalize Lib.compareInt l1 l2 = r2 at C2 c2 ⊢
  generalize Lib.compareInt h1 h2 = r3 at C3 c3 ⊢
  clear c1 c2 c3
  go_enter Tryd.func45, Tryd.ntmps45
  go_wp2
  refine region_tail 15 (by kernel_rfl) (by kernel_rfl) ?_
  simp only [List.take_succ_cons, List.take_zero, List.drop_succ_cons, List.drop_zero]
  repeat still_step
  still_call (C1.out _)
  repeat still_step
  still_call (C2.out _)
  repeat still_step
  still_call (C3.out _)
  refine wpStill_nil ?_
  go_wp2_with fail
  refine (HO.out r1 r2 r3 _ _ ?_ ?_ ?_).mono ?_
  · exact (Go.Joins.cell_alloc_mark_at _ _ _ (0, 0) _ _ (by simp)).trans rfl
  · exact (Go.Joins.cell_alloc_mark_at _ _ _ (0, 0) _ _ (by simp)).trans rfl
  · exact (Go.Joins.cell_alloc_mark_at _ _ _ (0, 0) _ _ (by simp)).trans rfl
  rintro e w' ⟨rfl, rfl⟩
  go_wp2
  go_ret
  exact ⟨rfl, 1, _, by rw [alloc_eq_grow, alloc_eq_grow, alloc_eq_grow, grow_grow, grow_grow]; rfl⟩

theorem cmpLays (blk off size : Nat) (w : World) : CmpLays Tryd.prog 45 #[] encE 4 cmpE blk off size w :=
  fun _ _ _ _ x y => cmp_any x y _

theorem compare_lt (x y : Int) : (Lib.compareInt x y < 0 ↔ x < y) ∧ (Lib.compareInt x y = 0 ↔ x = y) := by
  unfold Lib.compareInt
  constructor <;> (split <;> (try split)) <;> omega

/-- Ahead of: by file, from, to. -/
def ltE (x y : Ed) : Prop := x.file < y.file ∨ (x.file = y.file ∧ (x.lo < y.lo ∨ (x.lo = y.lo ∧ x.hi < y.hi)))
theorem ltOf_cmpE (x y : Ed) : ltOf cmpE x y = true ↔ ltE x y := by
  have h1 := compare_lt x.file y.file
  have h2 := compare_lt x.lo y.lo
  have h3 := compare_lt x.hi y.hi
  unfold ltOf cmpE orI ltE
  simp only [decide_eq_true_eq, bne_iff_ne, ne_eq]
  split
  · rename_i h; rw [h1.1]; rw [h1.2] at h; omega
  · rename_i h; have h := h1.2.1 (Classical.not_not.1 h)
    split
    · rename_i h'; rw [h2.1]; rw [h2.2] at h'; omega
    · rename_i h'; have h' := h2.2.1 (Classical.not_not.1 h'); rw [h3.1]; omega

theorem ltOf_cmpE_false (x y : Ed) : ltOf cmpE x y = false ↔ ¬ ltE x y := by
  rw [← ltOf_cmpE]; simp

theorem swoE : SWO (ltOf cmpE) where
  irrefl x := by rw [ltOf_cmpE_false]; unfold ltE; omega
  trans x y z h1 h2 := by rw [ltOf_cmpE] at *; unfold ltE at *; omega
  ntrans x y z h1 h2 := by rw [ltOf_cmpE_false] at *; unfold ltE at *; omega

end Go.Proofs.YthklodlhbafehaaDoor
