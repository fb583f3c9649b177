/- Some texts in one. -/
import Derived.Test.YtienjifhkmekcaaDoorCnA
import Derived.Test.YtienjifhkmekcaaDoorCmF
import Derived.Test.YtienjifhkmekcaaDoorCmB
namespace Go.Proofs.YtienjifhkmekcaaDoor
open Go.RowKit Go.Shelf

def lvls : List (List ByteArray) := [[⟨#[124, 124]⟩], [⟨#[38, 38]⟩], [⟨#[124]⟩], [⟨#[94]⟩], [⟨#[38]⟩], [⟨#[61, 61]⟩, ⟨#[33, 61]⟩], [⟨#[60]⟩, ⟨#[62]⟩, ⟨#[60, 61]⟩, ⟨#[62, 61]⟩], [⟨#[60, 60]⟩, ⟨#[62, 62]⟩], [⟨#[43]⟩, ⟨#[45]⟩], [⟨#[42]⟩, ⟨#[47]⟩, ⟨#[37]⟩]]
/-- The levels' rows in memory. -/
def LvAt (w : World) (B : Nat) : Prop := ∀ n r, lvls[n]? = some r → ∃ b c, w.cell? ⟨B, n, none⟩ = some (.slice (some ⟨b, 0, none⟩) r.length c) ∧ ∀ j s, r[j]? = some s → w.cell? ⟨b, j, none⟩ = some (.string s)
theorem LvAt.below {w w' : World} {B : Nat} (h : LvAt w B) (hb : Below w.heap.size w w') : LvAt w' B := by
  intro n r hr
  obtain ⟨b, c, h1, h2⟩ := h n r hr
  exact ⟨b, c, (hb.cell (p := ⟨B, n, none⟩) (World.block_lt_of_cell? _ _ h1)).trans h1, fun j s hs => (hb.cell (p := ⟨b, j, none⟩) (World.block_lt_of_cell? _ _ (h2 j s hs))).trans (h2 j s hs)⟩

theorem cell_push (h : Array Obj) (os : List Obj) (b j : Nat) (cs : Array Value) (T : TypeId) (hb : os[b]? = some (.cells cs T)) (w : World) (hw : w.heap = h ++ os.toArray) (v : Value) (hv : cs[j]? = some v) : w.cell? ⟨h.size + b, j, none⟩ = some v := by
  have : w.heap[h.size + b]? = some (.cells cs T) := by
    rw [hw, Array.getElem?_append_right (by omega), Nat.add_sub_cancel_left, List.getElem?_toArray]
    exact hb
  rw [Go.Joins.cell_of_block this]
  exact hv
def lvObjs (B : Nat) : List Obj := [.cells #[.string ⟨#[124, 124]⟩] 9, .cells #[.string ⟨#[38, 38]⟩] 9, .cells #[.string ⟨#[124]⟩] 9, .cells #[.string ⟨#[94]⟩] 9, .cells #[.string ⟨#[38]⟩] 9, .cells #[.string ⟨#[61, 61]⟩, .string ⟨#[33, 61]⟩] 9, .cells #[.string ⟨#[60]⟩, .string ⟨#[62]⟩, .string ⟨#[60, 61]⟩, .string ⟨#[62, 61]⟩] 9, .cells #[.string ⟨#[60, 60]⟩, .string ⟨#[62, 62]⟩] 9, .cells #[.string ⟨#[43]⟩, .string ⟨#[45]⟩] 9, .cells #[.string ⟨#[42]⟩, .string ⟨#[47]⟩, .string ⟨#[37]⟩] 9, .cells #[.slice (some ⟨B, 0, none⟩) 1 1, .slice (some ⟨B + 1, 0, none⟩) 1 1, .slice (some ⟨B + 1 + 1, 0, none⟩) 1 1, .slice (some ⟨B + 1 + 1 + 1, 0, none⟩) 1 1, .slice (some ⟨B + 1 + 1 + 1 + 1, 0, none⟩) 1 1, .slice (some ⟨B + 1 + 1 + 1 + 1 + 1, 0, none⟩) 2 2, .slice (some ⟨B + 1 + 1 + 1 + 1 + 1 + 1, 0, none⟩) 4 4, .slice (some ⟨B + 1 + 1 + 1 + 1 + 1 + 1 + 1, 0, none⟩) 2 2, .slice (some ⟨B + 1 + 1 + 1 + 1 + 1 + 1 + 1 + 1, 0, none⟩) 2 2, .slice (some ⟨B + 1 + 1 + 1 + 1 + 1 + 1 + 1 + 1 + 1, 0, none⟩) 3 3] 37]
def lvW (w : World) : World := (((((((((((w.alloc (.cells #[.string ⟨#[124, 124]⟩] 9)).alloc (.cells #[.string ⟨#[38, 38]⟩] 9)).alloc (.cells #[.string ⟨#[124]⟩] 9)).alloc (.cells #[.string ⟨#[94]⟩] 9)).alloc (.cells #[.string ⟨#[38]⟩] 9)).alloc (.cells #[.string ⟨#[61, 61]⟩, .string ⟨#[33, 61]⟩] 9)).alloc (.cells #[.string ⟨#[60]⟩, .string ⟨#[62]⟩, .string ⟨#[60, 61]⟩, .string ⟨#[62, 61]⟩] 9)).alloc (.cells #[.string ⟨#[60, 60]⟩, .string ⟨#[62, 62]⟩] 9)).alloc (.cells #[.string ⟨#[43]⟩, .string ⟨#[45]⟩] 9)).alloc (.cells #[.string ⟨#[42]⟩, .string ⟨#[47]⟩, .string ⟨#[37]⟩] 9)).alloc (.cells #[.slice (some ⟨w.heap.size, 0, none⟩) 1 1, .slice (some ⟨w.heap.size + 1, 0, none⟩) 1 1, .slice (some ⟨w.heap.size + 1 + 1, 0, none⟩) 1 1, .slice (some ⟨w.heap.size + 1 + 1 + 1, 0, none⟩) 1 1, .slice (some ⟨w.heap.size + 1 + 1 + 1 + 1, 0, none⟩) 1 1, .slice (some ⟨w.heap.size + 1 + 1 + 1 + 1 + 1, 0, none⟩) 2 2, .slice (some ⟨w.heap.size + 1 + 1 + 1 + 1 + 1 + 1, 0, none⟩) 4 4, .slice (some ⟨w.heap.size + 1 + 1 + 1 + 1 + 1 + 1 + 1, 0, none⟩) 2 2, .slice (some ⟨w.heap.size + 1 + 1 + 1 + 1 + 1 + 1 + 1 + 1, 0, none⟩) 2 2, .slice (some ⟨w.heap.size + 1 + 1 + 1 + 1 + 1 + 1 + 1 + 1 + 1, 0, none⟩) 3 3] 37))
theorem lvW_heap (w : World) : (lvW w).heap = w.heap ++ (lvObjs w.heap.size).toArray := by
  unfold lvW lvObjs World.alloc
  apply Array.ext'
  simp
theorem lvW_at (w : World) : LvAt (lvW w) (w.heap.size + 10) := by
  have hh := lvW_heap w
  intro n r hr
  have hc : ∀ b j cs T v, (lvObjs w.heap.size)[b]? = some (.cells cs T) → cs[j]? = some v → (lvW w).cell? ⟨w.heap.size + b, j, none⟩ = some v := fun b j cs T v hb hv => cell_push w.heap _ b j cs T hb _ hh v hv
  match n, hr with
  | 0, hr =>
    cases hr
    refine ⟨w.heap.size + 0, 1, hc 10 0 _ _ _ rfl rfl, fun j s hs => ?_⟩
    match j, hs with
    | 0, hs => cases hs; exact hc 0 0 _ _ _ rfl rfl
    | _ + 1, hs => cases hs
  | 1, hr =>
    cases hr
    refine ⟨w.heap.size + 1, 1, hc 10 1 _ _ _ rfl rfl, fun j s hs => ?_⟩
    match j, hs with
    | 0, hs => cases hs; exact hc 1 0 _ _ _ rfl rfl
    | _ + 1, hs => cases hs
  | 2, hr =>
    cases hr
    refine ⟨w.heap.size + 2, 1, hc 10 2 _ _ _ rfl rfl, fun j s hs => ?_⟩
    match j, hs with
    | 0, hs => cases hs; exact hc 2 0 _ _ _ rfl rfl
    | _ + 1, hs => cases hs
  | 3, hr =>
    cases hr
    refine ⟨w.heap.size + 3, 1, hc 10 3 _ _ _ rfl rfl, fun j s hs => ?_⟩
    match j, hs with
    | 0, hs => cases hs; exact hc 3 0 _ _ _ rfl rfl
    | _ + 1, hs => cases hs
  | 4, hr =>
    cases hr
    refine ⟨w.heap.size + 4, 1, hc 10 4 _ _ _ rfl rfl, fun j s hs => ?_⟩
    match j, hs with
    | 0, hs => cases hs; exact hc 4 0 _ _ _ rfl rfl
    | _ + 1, hs => cases hs
  | 5, hr =>
    cases hr
    refine ⟨w.heap.size + 5, 2, hc 10 5 _ _ _ rfl rfl, fun j s hs => ?_⟩
    match j, hs with
    | 0, hs => cases hs; exact hc 5 0 _ _ _ rfl rfl
    | 1, hs => cases hs; exact hc 5 1 _ _ _ rfl rfl
    | _ + 2, hs => cases hs
  | 6, hr =>
    cases hr
    refine ⟨w.heap.size + 6, 4, hc 10 6 _ _ _ rfl rfl, fun j s hs => ?_⟩
    match j, hs with
    | 0, hs => cases hs; exact hc 6 0 _ _ _ rfl rfl
    | 1, hs => cases hs; exact hc 6 1 _ _ _ rfl rfl
    | 2, hs => cases hs; exact hc 6 2 _ _ _ rfl rfl
    | 3, hs => cases hs; exact hc 6 3 _ _ _ rfl rfl
    | _ + 4, hs => cases hs
  | 7, hr =>
    cases hr
    refine ⟨w.heap.size + 7, 2, hc 10 7 _ _ _ rfl rfl, fun j s hs => ?_⟩
    match j, hs with
    | 0, hs => cases hs; exact hc 7 0 _ _ _ rfl rfl
    | 1, hs => cases hs; exact hc 7 1 _ _ _ rfl rfl
    | _ + 2, hs => cases hs
  | 8, hr =>
    cases hr
    refine ⟨w.heap.size + 8, 2, hc 10 8 _ _ _ rfl rfl, fun j s hs => ?_⟩
    match j, hs with
    | 0, hs => cases hs; exact hc 8 0 _ _ _ rfl rfl
    | 1, hs => cases hs; exact hc 8 1 _ _ _ rfl rfl
    | _ + 2, hs => cases hs
  | 9, hr =>
    cases hr
    refine ⟨w.heap.size + 9, 3, hc 10 9 _ _ _ rfl rfl, fun j s hs => ?_⟩
    match j, hs with
    | 0, hs => cases hs; exact hc 9 0 _ _ _ rfl rfl
    | 1, hs => cases hs; exact hc 9 1 _ _ _ rfl rfl
    | 2, hs => cases hs; exact hc 9 2 _ _ _ rfl rfl
    | _ + 3, hs => cases hs
  | _ + 10, hr => cases hr
theorem lvW_below (w : World) : Below w.heap.size w (lvW w) :=
  ⟨rfl, rfl, rfl, by rw [lvW_heap]; simp, fun k hk => by rw [lvW_heap, Array.getElem?_append_left hk]⟩

set_option maxRecDepth 100000 in
set_option maxHeartbeats 1000000 in
theorem levels_any (w : World) : Calls Tryd.prog 48 #[] w fun e w' => ∃ B, e = .returned (.slice (some ⟨B, 0, none⟩) 10 10) ∧ LvAt w' B ∧ Below w.heap.size w w' := by
  go_enter Tryd.func48, Tryd.ntmps48
  go_wp2_with fail
  go_ret
  exact ⟨w.heap.size + 10, rfl, lvW_at w, lvW_below w⟩
end Go.Proofs.YtienjifhkmekcaaDoor
namespace Go.Proofs.YtienjifhkmekcaaDoor
open Go.RowKit Go.Shelf

/-- Reading with steps enough. -/
def RD (num : NumS) (ts : List Tk) (what : Nat) (level n : Int) (k d : Nat) (asked : Bool) : Rd := rdF num ts (12 * ts.length + 40) what level n k d asked
/-- How a call of reading may be asked for. -/
def Ask (ts : List Tk) (what : Nat) (level : Int) (k : Nat) : Prop := k ≤ ts.length ∧ (1 ≤ level ∨ what = 0 ∨ what = 3) ∧ what ≤ 3

theorem needs_le (what r : Nat) : needs what r ≤ 3 * r + 4 := by
  unfold needs
  split
  · omega
  · split
    · omega
    · split <;> omega
theorem RD_fine (num : NumS) {ts : List Tk} {what : Nat} {level : Int} (n : Int) {k : Nat} (d : Nat) (asked : Bool) (h : Ask ts what level k) : Fine ts what k (RD num ts what level n k d asked) :=
  fuel_ok num ts _ what level n k d asked h.1 h.2.1 h.2.2 (by have := needs_le what (ts.length - k); omega)
theorem fine_enough {ts : List Tk} {what k : Nat} {r : Rd} (h : Fine ts what k r) : Enough r := by
  intro i e
  subst e
  exact h.1 rfl
theorem RD_at (num : NumS) {ts : List Tk} {what : Nat} {level : Int} (n : Int) {k : Nat} (d : Nat) (asked : Bool) (h : Ask ts what level k) (f : Nat) (hf : needs what (ts.length - k) ≤ f) : rdF num ts f what level n k d asked = RD num ts what level n k d asked := by
  rcases Nat.le_total f (12 * ts.length + 40) with hle | hle
  · have := more_by num ts f what level n k d asked (fine_enough (fuel_ok num ts f what level n k d asked h.1 h.2.1 h.2.2 hf)) (12 * ts.length + 40 - f)
    rw [show f + (12 * ts.length + 40 - f) = 12 * ts.length + 40 by omega] at this
    exact this.symm
  · have := more_by num ts (12 * ts.length + 40) what level n k d asked (fine_enough (RD_fine num n d asked h)) (f - (12 * ts.length + 40))
    rw [show 12 * ts.length + 40 + (f - (12 * ts.length + 40)) = f by omega] at this
    exact this
theorem RD_at' (num : NumS) {ts : List Tk} {what : Nat} {level : Int} (n : Int) {k : Nat} (d : Nat) (asked : Bool) (h : Ask ts what level k) : rdF num ts (12 * ts.length + 39) what level n k d asked = RD num ts what level n k d asked :=
  RD_at num n d asked h _ (by have := needs_le what (ts.length - k); omega)

theorem RD_between (num : NumS) {ts : List Tk} {level : Int} (hl : 1 ≤ level) {k : Nat} (hk : k ≤ ts.length) (n : Int) (d : Nat) (asked : Bool) : RD num ts 1 level n k d asked = (match RD num ts 3 0 0 k d asked with
    | .inr e => .inr e
    | .inl (n, k) => RD num ts 2 level n k d asked) := by
  have h3 : Ask ts 3 0 k := ⟨hk, .inr (.inr rfl), by omega⟩
  have e0 : RD num ts 1 level n k d asked = rdF num ts ((12 * ts.length + 39) + 1) 1 level n k d asked := rfl
  rw [e0, rd_between, RD_at' num 0 d asked h3]
  have hf := RD_fine num 0 d asked h3
  rcases hr : RD num ts 3 0 0 k d asked with ⟨m, j⟩ | e
  · rw [hr] at hf
    dsimp only
    exact RD_at' num m d asked ⟨hf.2.2, .inl hl, by omega⟩
  · rfl
theorem RD_signs (num : NumS) {ts : List Tk} {level : Int} (hl : 1 ≤ level) {k : Nat} (_hk : k ≤ ts.length) (n : Int) (d : Nat) (asked : Bool) : RD num ts 2 level n k d asked = (if levelL (signAt ts k).toList < level then .inl (n, k)
    else match RD num ts 1 (levelL (signAt ts k).toList + 1) 0 (k + 1) d (asked && asksL (signAt ts k).toList n) with
      | .inr e => .inr e
      | .inl (m, j) =>
        if asked then
          if wrongL (signAt ts k).toList m = 0 then RD num ts 2 level (reckonL (signAt ts k).toList n m) j d asked
          else .inr (wrongL (signAt ts k).toList m, k)
        else RD num ts 2 level n j d asked) := by
  have e0 : RD num ts 2 level n k d asked = rdF num ts ((12 * ts.length + 39) + 1) 2 level n k d asked := rfl
  rw [e0, rd_signs]
  by_cases h : levelL (signAt ts k).toList < level
  · rw [if_pos h, if_pos h]
  · have hlt := level_lt ts k level hl h
    have h1 : Ask ts 1 (levelL (signAt ts k).toList + 1) (k + 1) := ⟨by omega, .inl (by omega), by omega⟩
    rw [if_neg h, if_neg h, RD_at' num 0 d _ h1]
    have hf := RD_fine num 0 d (asked && asksL (signAt ts k).toList n) h1
    rcases hr : RD num ts 1 (levelL (signAt ts k).toList + 1) 0 (k + 1) d (asked && asksL (signAt ts k).toList n) with ⟨m, j⟩ | e
    · rw [hr] at hf
      dsimp only
      rw [RD_at' num _ d asked ⟨hf.2.2, .inl hl, by omega⟩, RD_at' num _ d asked ⟨hf.2.2, .inl hl, by omega⟩]
    · rfl
theorem RD_choice (num : NumS) {ts : List Tk} {k : Nat} (hk : k ≤ ts.length) (d : Nat) (asked : Bool) : RD num ts 0 0 0 k d asked =
    (match RD num ts 1 1 0 k d asked with
      | .inr e => .inr e
      | .inl (n, k) =>
        if (signAt ts k).toList == [63] then
          match RD num ts 0 0 0 (k + 1) d (asked && !(n == 0)) with
          | .inr e => .inr e
          | .inl (yes, k) =>
            if (signAt ts k).toList == [58] then
              match RD num ts 0 0 0 (k + 1) d (asked && n == 0) with
              | .inr e => .inr e
              | .inl (no, k) => .inl (if n == 0 then no else yes, k)
            else .inr (2, k)
        else .inl (n, k)) := by
  have h1 : Ask ts 1 1 k := ⟨hk, .inl (by omega), by omega⟩
  have e0 : RD num ts 0 0 0 k d asked = rdF num ts ((12 * ts.length + 39) + 1) 0 0 0 k d asked := rfl
  rw [e0, rd_choice, RD_at' num 0 d asked h1]
  have hf := RD_fine num 0 d asked h1
  rcases hr : RD num ts 1 1 0 k d asked with ⟨m, j⟩ | e
  · rw [hr] at hf
    dsimp only
    by_cases hq : ((signAt ts j).toList == [63]) = true
    · rw [if_pos hq, if_pos hq]
      have hj := sign_lt ts j 63 hq
      have h2 : Ask ts 0 0 (j + 1) := ⟨by omega, .inr (.inl rfl), by omega⟩
      rw [RD_at' num 0 d _ h2]
      have hf2 := RD_fine num 0 d (asked && !(m == 0)) h2
      rcases hr2 : RD num ts 0 0 0 (j + 1) d (asked && !(m == 0)) with ⟨y, i⟩ | e
      · rw [hr2] at hf2
        dsimp only
        by_cases hc : ((signAt ts i).toList == [58]) = true
        · rw [if_pos hc, if_pos hc]
          have hi := sign_lt ts i 58 hc
          rw [RD_at' num 0 d _ ⟨by omega, .inr (.inl rfl), by omega⟩]
          all_goals rfl
        · rw [if_neg hc, if_neg hc]
      · rfl
    · rw [if_neg hq, if_neg hq]
  · rfl
theorem RD_atom (num : NumS) {ts : List Tk} {k : Nat} (d : Nat) (asked : Bool) : RD num ts 3 0 0 k d asked = (if d = 30 then .inr (10, k) else match ts[k]? with
    | none => .inr (9, k)
    | some t =>
      if t.kind = 1 then .inl (0, k + 1)
      else if t.kind = 2 then (match num t.text.data.toList with | some v => .inl (v, k + 1) | none => .inr (3, k))
      else if t.kind = 3 then (match charL t.text.data.toList with | some v => .inl (v, k + 1) | none => .inr (3, k))
      else if (signAt ts k).toList == [40] then
        match RD num ts 0 0 0 (k + 1) (d + 1) asked with
        | .inr e => .inr e
        | .inl (v, k) => if (signAt ts k).toList == [41] then .inl (v, k + 1) else .inr (2, k)
      else if (signAt ts k).toList == [45] || (signAt ts k).toList == [43] || (signAt ts k).toList == [126] || (signAt ts k).toList == [33] then
        match RD num ts 3 0 0 (k + 1) (d + 1) asked with
        | .inr e => .inr e
        | .inl (v, j) => .inl (aheadL (signAt ts k).toList v, j)
      else .inr (2, k)) := by
  have e0 : RD num ts 3 0 0 k d asked = rdF num ts ((12 * ts.length + 39) + 1) 3 0 0 k d asked := rfl
  rw [e0, rd_operand]
  by_cases hd : d = 30
  · rw [if_pos hd, if_pos hd]
  · rw [if_neg hd, if_neg hd]
    rcases ht : ts[k]? with _ | t
    · rfl
    · have hlt := (List.getElem?_eq_some_iff.1 ht).1
      dsimp only
      unfold innerF
      rw [RD_at' num 0 (d + 1) asked (⟨by omega, .inr (.inl rfl), by omega⟩ : Ask ts 0 0 (k + 1)), RD_at' num 0 (d + 1) asked (⟨by omega, .inr (.inr rfl), by omega⟩ : Ask ts 3 0 (k + 1))]
      all_goals rfl

theorem level_most (l : List UInt8) : levelL l ≤ 10 := by
  unfold levelL
  repeat' split
  all_goals omega
/-- Where signs of a level on end, none of that level follows. -/
theorem RD_ends (num : NumS) {ts : List Tk} {level : Int} (hl : 1 ≤ level) (d : Nat) (asked : Bool) : ∀ (r k : Nat) (n m : Int) (j : Nat), ts.length - k = r → k ≤ ts.length → RD num ts 2 level n k d asked = .inl (m, j) → levelL (signAt ts j).toList < level := by
  intro r
  induction r using Nat.strongRecOn with
  | ind r ih =>
    intro k n m j hr hk h
    rw [RD_signs num hl hk] at h
    by_cases hlv : levelL (signAt ts k).toList < level
    · rw [if_pos hlv] at h
      cases h
      exact hlv
    · rw [if_neg hlv] at h
      have hlt := level_lt ts k level hl hlv
      have h1 : Ask ts 1 (levelL (signAt ts k).toList + 1) (k + 1) := ⟨by omega, .inl (by omega), by omega⟩
      have hf := RD_fine num 0 d (asked && asksL (signAt ts k).toList n) h1
      rcases hx : RD num ts 1 (levelL (signAt ts k).toList + 1) 0 (k + 1) d (asked && asksL (signAt ts k).toList n) with ⟨m', j'⟩ | e
      · rw [hx] at h hf
        obtain ⟨_, f2, f3⟩ := hf
        dsimp only at h
        cases asked
        · simp only [Bool.false_eq_true, if_false] at h
          exact ih _ (by omega) j' n m j rfl f3 h
        · simp only [if_true] at h
          split at h
          · exact ih _ (by omega) j' _ m j rfl f3 h
          · cases h
      · rw [hx] at h
        cases h
/-- Signs of a level on: those of the next one first. -/
theorem RD_split (num : NumS) {ts : List Tk} {level : Int} (hl : 1 ≤ level) (d : Nat) (asked : Bool) : ∀ (r k : Nat) (n : Int), ts.length - k = r → k ≤ ts.length → RD num ts 2 level n k d asked = (match RD num ts 2 (level + 1) n k d asked with
    | .inr e => .inr e
    | .inl (n', k') => RD num ts 2 level n' k' d asked) := by
  intro r
  induction r using Nat.strongRecOn with
  | ind r ih =>
    intro k n hr hk
    by_cases hlv : levelL (signAt ts k).toList < level + 1
    · have e1 : RD num ts 2 (level + 1) n k d asked = .inl (n, k) := by rw [RD_signs num (by omega) hk, if_pos hlv]
      rw [e1]
    · have hlv' : ¬ levelL (signAt ts k).toList < level := by omega
      have hlt := level_lt ts k level hl hlv'
      have h1 : Ask ts 1 (levelL (signAt ts k).toList + 1) (k + 1) := ⟨by omega, .inl (by omega), by omega⟩
      have hf := RD_fine num 0 d (asked && asksL (signAt ts k).toList n) h1
      rw [RD_signs num hl hk, RD_signs num (by omega : 1 ≤ level + 1) hk, if_neg hlv, if_neg hlv']
      rcases hx : RD num ts 1 (levelL (signAt ts k).toList + 1) 0 (k + 1) d (asked && asksL (signAt ts k).toList n) with ⟨m', j'⟩ | e
      · rw [hx] at hf
        obtain ⟨_, f2, f3⟩ := hf
        dsimp only
        cases asked
        · simp only [Bool.false_eq_true, if_false]
          exact ih _ (by omega) j' n rfl f3
        · simp only [if_true]
          split
          · exact ih _ (by omega) j' _ rfl f3
          · rfl
      · rfl
/-- A level: the next one, and its signs. -/
theorem RD_level (num : NumS) {ts : List Tk} {level : Int} (hl : 1 ≤ level) {k : Nat} (hk : k ≤ ts.length) (d : Nat) (asked : Bool) : RD num ts 1 level 0 k d asked = (match RD num ts 1 (level + 1) 0 k d asked with
    | .inr e => .inr e
    | .inl (n, k') => RD num ts 2 level n k' d asked) := by
  rw [RD_between num hl hk, RD_between num (by omega : 1 ≤ level + 1) hk]
  have h3 : Ask ts 3 0 k := ⟨hk, .inr (.inr rfl), by omega⟩
  have hf := RD_fine num 0 d asked h3
  rcases hr : RD num ts 3 0 0 k d asked with ⟨m, j⟩ | e
  · rw [hr] at hf
    dsimp only
    exact RD_split num hl d asked _ j m rfl hf.2.2
  · rfl
theorem RD_top (num : NumS) {ts : List Tk} {k : Nat} (hk : k ≤ ts.length) (d : Nat) (asked : Bool) : RD num ts 1 11 0 k d asked = RD num ts 3 0 0 k d asked := by
  rw [RD_between num (by omega) hk]
  have h3 : Ask ts 3 0 k := ⟨hk, .inr (.inr rfl), by omega⟩
  have hf := RD_fine num 0 d asked h3
  rcases hr : RD num ts 3 0 0 k d asked with ⟨m, j⟩ | e
  · rw [hr] at hf
    dsimp only
    rw [RD_signs num (by omega) hf.2.2, if_pos (by have := level_most (signAt ts j).toList; omega)]
  · rfl
end Go.Proofs.YtienjifhkmekcaaDoor
namespace Go.Proofs.YtienjifhkmekcaaDoor
open Go.RowKit Go.Shelf

/-- What a call of reading from token i on leaves: a value (what it is, where it is asked for) and the token behind it; or a fault. -/
def AnsOk (R : Nat) (a : Option Addr) (c : Nat) (ts : List Tk) (f g d q : Int) (i : Nat) (w : World) (r : Rd) (e : Ending) (w' : World) : Prop := Kept (· = R) w w' ∧ match r with
  | .inl (n, k) => ∃ v, e = .returned (.tuple #[.int .i64 v, .int .i64 ((k : Nat) : Int)]) ∧ IsI v ∧ (q = 0 → v = n) ∧ CAt w' R a c ts 0 f g d q
  | .inr (e0, p) => ∃ (v : Int) (k : Nat), e = .returned (.tuple #[.int .i64 v, .int .i64 (k : Int)]) ∧ k + i ≤ 2 * ts.length + 5 ∧ e0 ≠ 0 ∧ CAt w' R a c ts e0 (placeOf ts p).1 (placeOf ts p).2 d q
/-- The tokens' texts are neither empty nor long. -/
def Texts (ts : List Tk) : Prop := ∀ t ∈ ts, t.text.size ≠ 0 ∧ t.text.size ≤ 3000
/-- The document's own Num. -/
def RNumC : Prop := ∀ (s : ByteArray), s.size ≠ 0 → s.size ≤ 3000 → ∀ w : World, Calls Tryd.prog 8 #[.string s] w fun e w' => e = .returned (optV (numL s.data.toList)) ∧ Below w.heap.size w w'
def AtomC (R : Nat) (a : Option Addr) (c : Nat) (ts : List Tk) (f g : Int) (k : Nat) : Prop := ∀ (d : Nat) (q : Nat) (w : World), d ≤ 30 → q + (ts.length - k) ≤ 100000 → CAt w R a c ts 0 f g (d : Int) (q : Int) →
  Calls Tryd.prog 49 #[.pointer (some ⟨R, 0, none⟩), .int .i64 (k : Int)] w (AnsOk R a c ts f g (d : Int) (q : Int) k w (RD numL ts 3 0 0 k d (q == 0)))
def ChoiceRC (R : Nat) (a : Option Addr) (c : Nat) (ts : List Tk) (f g : Int) (k : Nat) : Prop := ∀ (d : Nat) (q : Nat) (w : World), d ≤ 30 → q + (ts.length - k) ≤ 100000 → CAt w R a c ts 0 f g (d : Int) (q : Int) →
  Calls Tryd.prog 18 #[.pointer (some ⟨R, 0, none⟩), .int .i64 (k : Int)] w (AnsOk R a c ts f g (d : Int) (q : Int) k w (RD numL ts 0 0 0 k d (q == 0)))
def LevelRC (R : Nat) (a : Option Addr) (c : Nat) (ts : List Tk) (f g : Int) (n k : Nat) : Prop := ∀ (d : Nat) (q : Nat) (w : World), d ≤ 30 → q + (ts.length - k) ≤ 100000 → CAt w R a c ts 0 f g (d : Int) (q : Int) →
  Calls Tryd.prog 32 #[.pointer (some ⟨R, 0, none⟩), .int .i64 (n : Int), .int .i64 (k : Int)] w (AnsOk R a c ts f g (d : Int) (q : Int) k w (RD numL ts 1 ((n : Int) + 1) 0 k d (q == 0)))

set_option maxRecDepth 100000 in
set_option maxHeartbeats 1000000 in
/-- Once there is a fault, Atom answers at once. -/
theorem atom_bad (R : Nat) (a : Option Addr) (c : Nat) (ts : List Tk) (e f g d q : Int) (he : e ≠ 0) (k : Int) (w : World) (h : CAt w R a c ts e f g d q) :
    Calls Tryd.prog 49 #[.pointer (some ⟨R, 0, none⟩), .int .i64 k] w fun e w' => e = .returned (.tuple #[.int .i64 0, .int .i64 k]) ∧ Below w.heap.size w w' := by
  obtain ⟨b0, b1, _⟩ := h.facts
  have hb : (e != 0) = true := by simpa using he
  clear h
  go_enter Tryd.func49, Tryd.ntmps49
  go_wp2_with fail
  go_ret2
  exact ⟨rfl, Below.refl _ _⟩

set_option maxRecDepth 100000 in
set_option maxHeartbeats 1000000 in
theorem level_bad (R : Nat) (a : Option Addr) (c : Nat) (ts : List Tk) (e f g d q : Int) (he : e ≠ 0) (k : Int) : ∀ (m n : Nat), n + m = 10 → ∀ (w : World), CAt w R a c ts e f g d q →
    Calls Tryd.prog 32 #[.pointer (some ⟨R, 0, none⟩), .int .i64 (n : Int), .int .i64 k] w fun e w' => e = .returned (.tuple #[.int .i64 0, .int .i64 k]) ∧ Below w.heap.size w w'
  | 0, n, hn, w, h => by
    have hn' : n = 10 := by omega
    subst hn'
    have HL := hid (levels_any w)
    have HA := hid (fun W (hW : Below w.heap.size w W) => atom_bad R a c ts e f g d q he k W (h.below hW))
    clear h
    go_enter Tryd.func32, Tryd.ntmps32
    go_wp2_with fail
    refine HL.out.mono ?_
    rintro e1 w1 ⟨B, rfl, _, hb1⟩
    have HB1 := hid hb1
    clear hb1 HL
    go_wp2_with fail
    refine (HA.out _ HB1.out).mono ?_
    rintro e2 w2 ⟨rfl, hb2⟩
    have HB2 := hid (HB1.out.trans (hb2.mono HB1.out.size))
    clear hb2 HA
    go_wp2_with fail
    go_ret2
    exact ⟨rfl, HB2.out⟩
  | m + 1, n, hn, w, h => by
    have HL := hid (levels_any w)
    have HA := hid (fun W (hW : Below w.heap.size w W) => level_bad R a c ts e f g d q he k m (n + 1) (by omega) W (h.below hW))
    have HC := hid h
    have hnn : ((n : Int) == 10) = false := by rw [beq_eq_false_iff_ne]; omega
    have hwn : wrap64 ((n : Int) + 1) = ((n + 1 : Nat) : Int) := by unfold wrap64; omega
    have hnb : (n : Int) + 1 ≤ 9223372036854775807 := by omega
    have hn0 : (0 : Int) ≤ (n : Int) := by omega
    push_cast at HA hwn
    have hb : (e == 0) = false := by simpa using he
    clear h
    go_enter Tryd.func32, Tryd.ntmps32
    go_wp2_with fail
    refine HL.out.mono ?_
    rintro e1 w1 ⟨B, rfl, _, hb1⟩
    have HB1 := hid hb1
    clear hb1 HL
    go_wp2_with fail
    refine (HA.out _ HB1.out).mono ?_
    rintro e2 w2 ⟨rfl, hb2⟩
    have HB2 := hid (HB1.out.trans (hb2.mono HB1.out.size))
    obtain ⟨b0, b1, _⟩ := (HC.out.below HB2.out).facts
    clear hb2 HA HC
    go_wp2_with fail
    refine wp_loop_rounds 1 ?_
    rw [rounds_succ]
    go_wp2_with fail
    go_ret2
    exact ⟨rfl, HB2.out⟩

set_option maxRecDepth 100000 in
set_option maxHeartbeats 1000000 in
theorem choice_bad (R : Nat) (a : Option Addr) (c : Nat) (ts : List Tk) (e f g d q : Int) (he : e ≠ 0) (k : Int) (w : World) (h : CAt w R a c ts e f g d q) :
    Calls Tryd.prog 18 #[.pointer (some ⟨R, 0, none⟩), .int .i64 k] w fun e w' => e = .returned (.tuple #[.int .i64 0, .int .i64 k]) ∧ Below w.heap.size w w' := by
  have HA := hid (level_bad R a c ts e f g d q he k 10 0 rfl w h)
  have HC := hid h
  have hb : (e != 0) = true := by simpa using he
  clear h
  go_enter Tryd.func18, Tryd.ntmps18
  go_wp2_with fail
  refine HA.out.mono ?_
  rintro e2 w2 ⟨rfl, hb2⟩
  have HB2 := hid hb2
  obtain ⟨b0, b1, _⟩ := (HC.out.below HB2.out).facts
  clear hb2 HA HC
  go_wp2_with fail
  go_ret2
  exact ⟨rfl, HB2.out⟩
end Go.Proofs.YtienjifhkmekcaaDoor
