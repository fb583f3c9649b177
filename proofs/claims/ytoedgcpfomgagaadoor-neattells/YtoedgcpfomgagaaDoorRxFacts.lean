/- Plain facts: what the document's own Skip, Sign, Quoted, Number and Piece answer, in the words of LxSpec. -/
import Derived.Test.YtoedgcpfomgagaaDoorLxNoteB
namespace Go.Proofs.YtoedgcpfomgagaaDoor
open Go.RowKit

theorem byteAt_drop (s : List UInt8) (a i : Nat) : byteAt (s.drop a) i = byteAt s (a + i) := by
  simp [byteAt, List.getD, List.getElem?_drop]
theorem skipF_shift (s : List UInt8) (a : Nat) : ∀ (f i : Nat) (sp fi : Bool),
    skipF s f (a + i) sp fi = ⟨a + (skipF (s.drop a) f i sp fi).to, (skipF (s.drop a) f i sp fi).space, (skipF (s.drop a) f i sp fi).first, (skipF (s.drop a) f i sp fi).lacks⟩
  | 0, _, _, _ => rfl
  | f + 1, i, sp, fi => by
    unfold skipF
    rw [List.drop_drop, byteAt_drop]
    split
    · rfl
    · split
      · rfl
      · rw [Nat.add_assoc, skipF_shift s a f]
/-- What is blank from byte a on, told by the rest of the text. -/
theorem skip_shift (s : List UInt8) (a : Nat) (sp fi : Bool) (ha : a ≤ s.length) :
    skip s a sp fi = ⟨a + (skip (s.drop a) 0 sp fi).to, (skip (s.drop a) 0 sp fi).space, (skip (s.drop a) 0 sp fi).first, (skip (s.drop a) 0 sp fi).lacks⟩ := by
  unfold skip
  rw [List.length_drop, show s.length - a + 1 - 0 = s.length + 1 - a by omega]
  exact skipF_shift s a (s.length + 1 - a) 0 sp fi
theorem skipF_flags (s : List UInt8) : ∀ (f i : Nat) (sp fi : Bool),
    (skipF s f i sp fi).first = (fi || (skipF s f i false false).first) ∧ (skipF s f i sp fi).to = (skipF s f i false false).to ∧ (skipF s f i sp fi).lacks = (skipF s f i false false).lacks ∧ (skipF s f i sp fi).space = (sp || decide (i < (skipF s f i sp fi).to))
  | 0, i, sp, fi => by simp [skipF]
  | f + 1, i, sp, fi => by
    unfold skipF
    split
    · simp
    · split
      · simp
      · rename_i h0 h1
        obtain ⟨a1, a2, a3, a4⟩ := skipF_flags s f (i + (blankSz (s.drop i)).toNat) true (fi || byteAt s i == 10)
        obtain ⟨b1, b2, b3, b4⟩ := skipF_flags s f (i + (blankSz (s.drop i)).toNat) true (false || byteAt s i == 10)
        have hge := skipF_ge s f (i + (blankSz (s.drop i)).toNat) true (fi || byteAt s i == 10)
        refine ⟨by rw [a1, b1]; simp [Bool.or_assoc], by rw [a2, b2], by rw [a3, b3], ?_⟩
        rw [a4, Bool.true_or]
        have : decide (i < (skipF s f (i + (blankSz (s.drop i)).toNat) true (fi || byteAt s i == 10)).to) = true := decide_eq_true (by omega)
        rw [this, Bool.or_true]
theorem skip_flags (s : List UInt8) (i : Nat) (sp fi : Bool) :
    (skip s i sp fi).first = (fi || (skip s i false false).first) ∧ (skip s i sp fi).to = (skip s i false false).to ∧ (skip s i sp fi).lacks = (skip s i false false).lacks ∧ (skip s i sp fi).space = (sp || decide (i < (skip s i sp fi).to)) :=
  skipF_flags s _ i sp fi

/-- What the document's own Skip answers. -/
def rskipN (s : List UInt8) : Int := if (skip s 0 false false).lacks then -1 - ((skip s 0 false false).to : Int) else ((skip s 0 false false).to : Int)
def rskipB (s : List UInt8) : Bool := (skip s 0 false false).first

/-- What is left of it at byte k. -/
def SkAt (s : List UInt8) (k : Nat) (feed : Bool) : Prop := k ≤ s.length ∧ (skip s k false feed).first = rskipB s ∧ (skip s k false feed).to = (skip s 0 false false).to ∧ (skip s k false feed).lacks = (skip s 0 false false).lacks
theorem SkAt.start (s : List UInt8) : SkAt s 0 false := ⟨Nat.zero_le _, rfl, rfl, rfl⟩
theorem SkAt.go {s : List UInt8} {k : Nat} {feed : Bool} (h : SkAt s k feed) (n : Nat) (hb : blankSz (s.drop k) = (n : Nat)) (hn : 0 < n) : SkAt s (k + n) (feed || byteAt s k == 10) := by
  obtain ⟨h1, h2, h3, h4⟩ := h
  have hle := blankSz_le (s.drop k)
  rw [List.length_drop] at hle
  rw [skip_go s k n false feed h1 hb hn] at h2 h3 h4
  obtain ⟨a1, a2, a3, _⟩ := skip_flags s (k + n) true (feed || byteAt s k == 10)
  obtain ⟨b1, b2, b3, _⟩ := skip_flags s (k + n) false (feed || byteAt s k == 10)
  exact ⟨by omega, by rw [b1, ← a1]; exact h2, by rw [b2, ← a2]; exact h3, by rw [b3, ← a3]; exact h4⟩
theorem SkAt.stop {s : List UInt8} {k : Nat} {feed : Bool} (h : SkAt s k feed) (hb : blankSz (s.drop k) = 0) : rskipN s = (k : Int) ∧ rskipB s = feed := by
  obtain ⟨h1, h2, h3, h4⟩ := h
  rw [skip_stop s k false feed h1 hb] at h2 h3 h4
  unfold rskipN
  rw [← h4, ← h3]
  exact ⟨rfl, h2.symm⟩
theorem SkAt.lacks {s : List UInt8} {k : Nat} {feed : Bool} (h : SkAt s k feed) (hb : blankSz (s.drop k) < 0) : rskipN s = -1 - (k : Int) ∧ rskipB s = feed := by
  obtain ⟨h1, h2, h3, h4⟩ := h
  have e : skip s k false feed = ⟨k, false, feed, true⟩ := by
    unfold skip
    rw [show s.length + 1 - k = (s.length - k) + 1 by omega]
    unfold skipF
    rw [if_neg (by omega), if_pos hb]
  rw [e] at h2 h3 h4
  unfold rskipN
  rw [← h4, ← h3]
  exact ⟨rfl, h2.symm⟩

theorem drop_cons (s : List UInt8) (k : Nat) (h : k < s.length) : s.drop k = byteAt s k :: s.drop (k + 1) := by
  rw [List.drop_eq_getElem_cons h]
  congr 1
  exact (byteAt_eq s k _ (List.getElem?_eq_getElem h)).symm
/-- How much is blank at byte k. -/
theorem blank_at (s : List UInt8) (k : Nat) (h : k < s.length) : blankSz (s.drop k) =
    if byteAt s k = 32 ∨ byteAt s k = 9 ∨ byteAt s k = 10 ∨ byteAt s k = 13 then 1
    else if byteAt s k = 47 ∧ k + 1 < s.length ∧ byteAt s (k + 1) = 47 then ((spanN (fun i => byteAt s (k + i) != 10) (s.length - k) : Nat) : Int)
    else if byteAt s k = 47 ∧ k + 1 < s.length ∧ byteAt s (k + 1) = 42 then (match noteEnd (s.drop (k + 2)) 0 with | some m => (m : Int) + 4 | none => -1)
    else 0 := by
  have hh : ∀ c, ((s.drop (k + 1)).head? = some c) ↔ (k + 1 < s.length ∧ byteAt s (k + 1) = c) := fun c => by
    by_cases h1 : k + 1 < s.length
    · rw [drop_cons s (k + 1) h1]; simp [h1]
    · rw [List.drop_of_length_le (by omega)]; simp [h1]
  have hb : ∀ i, byteAt (byteAt s k :: s.drop (k + 1)) i = byteAt s (k + i) := fun i => by rw [← drop_cons s k h, byteAt_drop]
  rw [drop_cons s k h]
  unfold blankSz
  simp only [hh, hb, List.tail_drop, List.length_cons, List.length_drop]
  rw [show s.length - (k + 1) + 1 = s.length - k by omega]
  first | done | rfl
theorem noteEnd_some : ∀ (m : Nat) (l : List UInt8) (i : Nat), (∀ j, j < m → ¬(byteAt l j = 42 ∧ byteAt l (j + 1) = 47)) → byteAt l m = 42 → byteAt l (m + 1) = 47 → m + 1 < l.length → noteEnd l i = some (i + m)
  | 0, c :: d :: r, i, _, h1, h2, _ => by
    have h1 : c = 42 := h1
    have h2 : d = 47 := h2
    simp [noteEnd, h1, h2]
  | m + 1, c :: d :: r, i, hn, h1, h2, hl => by
    have h0 : ¬(c = 42 ∧ d = 47) := hn 0 (by omega)
    rw [noteEnd, if_neg h0, noteEnd_some m (d :: r) (i + 1) (fun j hj => hn (j + 1) (by omega)) h1 h2 (by simp at hl ⊢; omega)]
    congr 1; omega
  | m, [], i, _, _, _, hl => by simp at hl
  | m, [c], i, _, _, _, hl => by simp at hl
theorem noteEnd_none : ∀ (l : List UInt8) (i : Nat), (∀ j, j + 1 < l.length → ¬(byteAt l j = 42 ∧ byteAt l (j + 1) = 47)) → noteEnd l i = none
  | [], _, _ => rfl
  | [_], _, _ => rfl
  | c :: d :: r, i, h => by
    have h0 : ¬(c = 42 ∧ d = 47) := h 0 (by simp)
    rw [noteEnd, if_neg h0]
    exact noteEnd_none (d :: r) (i + 1) (fun j hj => h (j + 1) (by simp at hj ⊢; omega))

/-- The longest sign of up to three bytes that stands first. -/
def sgnUp (s : List UInt8) : Nat → Nat
  | 0 => 0
  | n + 1 => if n + 1 ≤ s.length ∧ s.take (n + 1) ∈ signsL then n + 1 else sgnUp s n
theorem pre_take (p s : List UInt8) : p.isPrefixOf s = true ↔ (p.length ≤ s.length ∧ s.take p.length = p) := by
  rw [List.isPrefixOf_iff_prefix]
  constructor
  · intro h
    exact ⟨h.length_le, (List.prefix_iff_eq_take.1 h).symm⟩
  · intro h
    exact List.prefix_iff_eq_take.2 h.2.symm
theorem find_len (s : List UInt8) (n : Nat) : ∀ (L : List (List UInt8)), (∀ p ∈ L, p.length = n) → (L.find? (·.isPrefixOf s)).map List.length = if n ≤ s.length ∧ s.take n ∈ L then some n else none
  | [], _ => by simp
  | p :: L, h => by
    have hp := h p (by simp)
    have ih := find_len s n L (fun q hq => h q (by simp [hq]))
    rw [List.find?_cons]
    by_cases e : p.isPrefixOf s = true
    · rw [e]
      have := (pre_take p s).1 e
      rw [hp] at this
      simp [hp, this.1, this.2]
    · have e2 : p.isPrefixOf s = false := Bool.eq_false_iff.2 e
      rw [e2]
      simp only
      rw [ih]
      have : ¬(n ≤ s.length ∧ s.take n = p) := fun x => e ((pre_take p s).2 (by rw [hp]; exact x))
      by_cases hn : n ≤ s.length
      · simp only [hn, true_and] at this ⊢
        simp [this]
      · simp [hn]
def signs3 : List (List UInt8) := signsL.take 3
def signs2 : List (List UInt8) := (signsL.drop 3).take 20
def signs1 : List (List UInt8) := signsL.drop 23
theorem signSz_key (s : List UInt8) : signSz s = ((signsL.find? (·.isPrefixOf s)).map List.length).getD 0 := by
  unfold signSz
  cases signsL.find? (·.isPrefixOf s) <;> rfl
theorem sign_up (s : List UInt8) : signSz s = sgnUp s 3 := by
  have e : signsL = signs3 ++ (signs2 ++ signs1) := by decide
  have h3 : ∀ p ∈ signs3, p.length = 3 := by decide
  have h2 : ∀ p ∈ signs2, p.length = 2 := by decide
  have h1 : ∀ p ∈ signs1, p.length = 1 := by decide
  have mem : ∀ n, n ≤ s.length → (s.take n ∈ signsL ↔ (s.take n ∈ signs3 ∨ s.take n ∈ signs2 ∨ s.take n ∈ signs1)) := fun n _ => by rw [e]; simp
  have len : ∀ n, n ≤ s.length → (s.take n).length = n := fun n hn => by rw [List.length_take]; omega
  have m3 : (3 ≤ s.length ∧ s.take 3 ∈ signsL) ↔ (3 ≤ s.length ∧ s.take 3 ∈ signs3) := by
    refine and_congr_right (fun hn => ?_)
    rw [mem 3 hn]
    refine ⟨fun h => ?_, .inl⟩
    rcases h with h | h | h
    · exact h
    · have := h2 _ h; rw [len 3 hn] at this; omega
    · have := h1 _ h; rw [len 3 hn] at this; omega
  have m2 : (2 ≤ s.length ∧ s.take 2 ∈ signsL) ↔ (2 ≤ s.length ∧ s.take 2 ∈ signs2) := by
    refine and_congr_right (fun hn => ?_)
    rw [mem 2 hn]
    refine ⟨fun h => ?_, fun h => .inr (.inl h)⟩
    rcases h with h | h | h
    · have := h3 _ h; rw [len 2 hn] at this; omega
    · exact h
    · have := h1 _ h; rw [len 2 hn] at this; omega
  have m1 : (1 ≤ s.length ∧ s.take 1 ∈ signsL) ↔ (1 ≤ s.length ∧ s.take 1 ∈ signs1) := by
    refine and_congr_right (fun hn => ?_)
    rw [mem 1 hn]
    refine ⟨fun h => ?_, fun h => .inr (.inr h)⟩
    rcases h with h | h | h
    · have := h3 _ h; rw [len 1 hn] at this; omega
    · have := h2 _ h; rw [len 1 hn] at this; omega
    · exact h
  rw [signSz_key, e, List.find?_append, List.find?_append]
  have f3 := find_len s 3 signs3 h3
  have f2 := find_len s 2 signs2 h2
  have f1 := find_len s 1 signs1 h1
  have e3 : sgnUp s 3 = if 3 ≤ s.length ∧ s.take 3 ∈ signsL then 3 else if 2 ≤ s.length ∧ s.take 2 ∈ signsL then 2 else if 1 ≤ s.length ∧ s.take 1 ∈ signsL then 1 else 0 := rfl
  rw [e3]
  simp only [m3, m2, m1]
  clear m3 m2 m1 e3 mem
  cases o3 : signs3.find? (·.isPrefixOf s) with
  | some x =>
    rw [o3] at f3
    by_cases c : 3 ≤ s.length ∧ s.take 3 ∈ signs3
    · rw [if_pos c] at f3 ⊢; simpa using f3
    · rw [if_neg c] at f3; simp at f3
  | none =>
    rw [o3] at f3
    by_cases c : 3 ≤ s.length ∧ s.take 3 ∈ signs3
    · rw [if_pos c] at f3; simp at f3
    · rw [if_neg c]
      cases o2 : signs2.find? (·.isPrefixOf s) with
      | some x =>
        rw [o2] at f2
        by_cases c2 : 2 ≤ s.length ∧ s.take 2 ∈ signs2
        · rw [if_pos c2] at f2 ⊢; simpa using f2
        · rw [if_neg c2] at f2; simp at f2
      | none =>
        rw [o2] at f2
        by_cases c2 : 2 ≤ s.length ∧ s.take 2 ∈ signs2
        · rw [if_pos c2] at f2; simp at f2
        · rw [if_neg c2]
          simp only [Option.none_or]
          rw [f1]
          split <;> rfl

/-- What the document's own Piece answers of a text that is not empty. -/
def rpieceK (s : List UInt8) (path : Bool) : Int := if (pick (sizes s path)).1 = -1 then (if byteAt s 0 = 34 then 4 else 3) else (pick (sizes s path)).1
def rpieceT (s : List UInt8) (path : Bool) : List UInt8 := s.take (pick (sizes s path)).2.toNat
theorem pick_skip (k n : Int) (L : List (Int × Int)) (h : n = 0) : pick ((k, n) :: L) = pick L := by
  subst h; rfl
theorem pick_take (k n : Int) (L : List (Int × Int)) (h : 0 < n) : pick ((k, n) :: L) = (k, n) := by
  rw [pick, if_neg (by omega), if_pos h]
theorem nameSz_zero (s : List UInt8) (h : letB (byteAt s 0) = false) : nameSz s = 0 := by
  unfold nameSz; split
  · rfl
  · rw [h]; rfl
theorem piece_name (s : List UInt8) (path : Bool) (hs : s ≠ []) (h : letB (byteAt s 0) = true) : rpieceK s path = 1 ∧ rpieceT s path = s.take (nameSz s) := by
  have h1 : 0 < nameSz s := by
    have := spanN_le (fun i => wordB (byteAt s i)) s.length (List.length_pos_iff.2 hs)
    unfold nameSz; rw [if_neg hs, if_pos h]; omega
  have e : pick (sizes s path) = (1, (nameSz s : Int)) := pick_take _ _ _ (by omega)
  unfold rpieceK rpieceT
  rw [e]
  exact ⟨rfl, rfl⟩
theorem piece_num (s : List UInt8) (path : Bool) (hs : s ≠ []) (h0 : letB (byteAt s 0) = false) (h : startsNum s = true) : rpieceK s path = 2 ∧ rpieceT s path = s.take (numSz s) := by
  have h1 : 0 < numSz s := by
    have := spanN_le (numB s) s.length (List.length_pos_iff.2 hs)
    unfold numSz; rw [if_pos h]; omega
  have e : pick (sizes s path) = (2, (numSz s : Int)) := by
    unfold sizes
    rw [pick_skip _ _ _ (by rw [nameSz_zero s h0]; rfl)]
    exact pick_take _ _ _ (by omega)
  unfold rpieceK rpieceT
  rw [e]
  exact ⟨rfl, rfl⟩
theorem numSz_zero (s : List UInt8) (h : startsNum s = false) : numSz s = 0 := by unfold numSz; rw [h]; rfl
theorem quot_first (q : UInt8) (s : List UInt8) (hs : s ≠ []) (h : byteAt s 0 = q) : quotSz q s = quotGo q (s.drop 1) 1 := by
  cases s with
  | nil => exact absurd rfl hs
  | cons c r =>
    have h : c = q := h
    simp [quotSz, h]
theorem quot_other (q : UInt8) (s : List UInt8) (h : byteAt s 0 ≠ q) : quotSz q s = 0 := by
  cases s with
  | nil => rfl
  | cons c r =>
    have h : c ≠ q := h
    simp [quotSz, h]
theorem piece_text (s : List UInt8) (path : Bool) (hs : s ≠ []) (h : byteAt s 0 = 34) : rpieceK s path = 4 ∧ rpieceT s path = s.take (quotSz 34 s).toNat := by
  have h0 : letB (byteAt s 0) = false := by rw [h]; rfl
  have h1 : startsNum s = false := by
    cases s with
    | nil => rfl
    | cons c r => have h : c = 34 := h; subst h; rfl
  have hq := quotGo_le 34 (s.drop 1) 1
  have e : pick (sizes s path) = pick [(4, quotSz 34 s), (3, quotSz 39 s), (7, if path then (pathSz s : Int) else 0), (5, signSz s)] := by
    unfold sizes
    rw [pick_skip _ _ _ (by rw [nameSz_zero s h0]; rfl), pick_skip _ _ _ (by rw [numSz_zero s h1]; rfl)]
  rw [← quot_first 34 s hs h] at hq
  unfold rpieceK rpieceT
  rw [e]
  rcases hq with hq | hq
  · rw [pick, hq]; exact ⟨by simp [h], rfl⟩
  · rw [pick_take _ _ _ (by omega)]; exact ⟨rfl, rfl⟩
theorem piece_char (s : List UInt8) (path : Bool) (hs : s ≠ []) (h : byteAt s 0 = 39) : rpieceK s path = 3 ∧ rpieceT s path = s.take (quotSz 39 s).toNat := by
  have h0 : letB (byteAt s 0) = false := by rw [h]; rfl
  have h1 : startsNum s = false := by
    cases s with
    | nil => rfl
    | cons c r => have h : c = 39 := h; subst h; rfl
  have hq := quotGo_le 39 (s.drop 1) 1
  have e : pick (sizes s path) = pick [(3, quotSz 39 s), (7, if path then (pathSz s : Int) else 0), (5, signSz s)] := by
    unfold sizes
    rw [pick_skip _ _ _ (by rw [nameSz_zero s h0]; rfl), pick_skip _ _ _ (by rw [numSz_zero s h1]; rfl), pick_skip _ _ _ (quot_other 34 s (by rw [h]; decide))]
  rw [← quot_first 39 s hs h] at hq
  unfold rpieceK rpieceT
  rw [e]
  rcases hq with hq | hq
  · rw [pick, hq]; exact ⟨by simp [h], rfl⟩
  · rw [pick_take _ _ _ (by omega)]; exact ⟨rfl, rfl⟩
theorem piece_path (s : List UInt8) (h0 : letB (byteAt s 0) = false) (h1 : startsNum s = false) (h34 : byteAt s 0 ≠ 34) (h39 : byteAt s 0 ≠ 39) (h : 0 < pathSz s) : rpieceK s true = 7 ∧ rpieceT s true = s.take (pathSz s) := by
  have e : pick (sizes s true) = (7, (pathSz s : Int)) := by
    unfold sizes
    rw [pick_skip _ _ _ (by rw [nameSz_zero s h0]; rfl), pick_skip _ _ _ (by rw [numSz_zero s h1]; rfl), pick_skip _ _ _ (quot_other 34 s h34), pick_skip _ _ _ (quot_other 39 s h39)]
    exact pick_take _ _ _ (by simpa using h)
  unfold rpieceK rpieceT
  rw [e]
  exact ⟨rfl, rfl⟩
theorem piece_sign (s : List UInt8) (path : Bool) (h0 : letB (byteAt s 0) = false) (h1 : startsNum s = false) (h34 : byteAt s 0 ≠ 34) (h39 : byteAt s 0 ≠ 39) (hp : path = true → pathSz s = 0) :
    (0 < signSz s → rpieceK s path = 5 ∧ rpieceT s path = s.take (signSz s)) ∧ (signSz s = 0 → rpieceK s path = 6 ∧ rpieceT s path = s.take 1) := by
  have e : pick (sizes s path) = pick [(5, (signSz s : Int))] := by
    unfold sizes
    rw [pick_skip _ _ _ (by rw [nameSz_zero s h0]; rfl), pick_skip _ _ _ (by rw [numSz_zero s h1]; rfl), pick_skip _ _ _ (quot_other 34 s h34), pick_skip _ _ _ (quot_other 39 s h39)]
    exact pick_skip _ _ _ (by cases path; rfl; simp [hp rfl])
  unfold rpieceK rpieceT
  rw [e]
  refine ⟨fun h => ?_, fun h => ?_⟩
  · rw [pick_take _ _ _ (by omega)]; exact ⟨rfl, rfl⟩
  · rw [pick_skip _ _ _ (by omega)]; exact ⟨rfl, rfl⟩

/-- The document's own Name. -/
theorem name_yes (l : List UInt8) (h0 : l ≠ []) (h : ∀ i, i < l.length → (letB (byteAt l i) = true ∨ (i ≠ 0 ∧ digB (byteAt l i) = true))) : decide (l ≠ []) && decide (nameSz l = l.length) := by
  have hp := List.length_pos_iff.2 h0
  have hl : letB (byteAt l 0) = true := by
    rcases h 0 hp with h | h
    · exact h
    · exact absurd rfl h.1
  have : nameSz l = l.length := by
    unfold nameSz
    rw [if_neg h0, if_pos hl]
    refine spanN_eq _ _ _ hp (Nat.le_refl _) (fun i _ hi => ?_) (fun h => by omega)
    rcases h i hi with h | h
    · simp [wordB, h]
    · simp [wordB, h.2]
  simp [h0, this]
theorem name_no (l : List UInt8) (i : Nat) (hi : i < l.length) (h1 : letB (byteAt l i) = false) (h2 : i = 0 ∨ digB (byteAt l i) = false) : (decide (l ≠ []) && decide (nameSz l = l.length)) = false := by
  have h0 : l ≠ [] := fun e => by rw [e] at hi; simp at hi
  have : nameSz l ≠ l.length := by
    by_cases hz : i = 0
    · subst hz
      rw [nameSz_zero l h1]; omega
    · have h2 : digB (byteAt l i) = false := by
        rcases h2 with h | h
        · exact absurd h hz
        · exact h
      unfold nameSz
      rw [if_neg h0]
      split
      · obtain ⟨k, k1, k2, k3⟩ := spanN_ex (fun i => wordB (byteAt l i)) (l.length - 1) 1
        have hk : 1 + k ≤ i := by
          rcases Nat.lt_or_ge i (1 + k) with h | h
          · have := k2 i (by omega) h
            simp [wordB, h1, h2] at this
          · exact h
        rw [spanN_eq _ _ (k + 1) (by omega) (by omega) (fun j a b => k2 j a (by omega)) (fun hk => by rw [show k + 1 = 1 + k by omega]; exact k3 (by omega))]
        omega
      · omega
  simp [this]

/-- Where the document's own Tokens stands, at byte i, behind some pieces. -/
def PcAt (s : List UInt8) (i : Nat) (acc : List Pc) : Prop := i ≤ s.length ∧ (i == 0) = acc.isEmpty ∧ ∃ f, s.length + 1 ≤ f + i ∧ pcs s = pcsF s f i acc
theorem PcAt.start (s : List UInt8) : PcAt s 0 [] := ⟨Nat.zero_le _, rfl, s.length + 1, Nat.le_refl _, rfl⟩
theorem skip_of (s : List UInt8) (i : Nat) (fi : Bool) (hi : i ≤ s.length) : skip s i false fi = ⟨i + (skip (s.drop i) 0 false false).to, decide (0 < (skip (s.drop i) 0 false false).to), rskipB (s.drop i) || fi, (skip (s.drop i) 0 false false).lacks⟩ := by
  rw [skip_shift s i false fi hi]
  obtain ⟨h1, h2, h3, h4⟩ := skip_flags (s.drop i) 0 false fi
  rw [h4, h1, h2, h3]
  simp [rskipB, Bool.or_comm]
theorem PcAt.lacks {s : List UInt8} {i : Nat} {acc : List Pc} (h : PcAt s i acc) (hn : rskipN (s.drop i) < 0) : pcs s = .inl ((i : Int) - 1 - rskipN (s.drop i)).toNat ∧ ((i : Int) - 1 - rskipN (s.drop i)).toNat ≤ s.length ∧ 0 ≤ (i : Int) - 1 - rskipN (s.drop i) := by
  obtain ⟨hi, hz, f, hf, hp⟩ := h
  obtain ⟨f, rfl⟩ : ∃ g, f = g + 1 := ⟨f - 1, by omega⟩
  have hto := (skip_to (s.drop i) 0 false false (Nat.zero_le _)).2
  rw [List.length_drop] at hto
  unfold rskipN at hn ⊢
  rw [hp]
  unfold pcsF
  rw [skip_of s i _ hi]
  cases hl : (skip (s.drop i) 0 false false).lacks with
  | false => rw [hl] at hn; simp at hn; omega
  | true =>
    simp only [if_true]
    refine ⟨?_, by omega, by omega⟩
    congr 1
    omega
theorem PcAt.done {s : List UInt8} {i : Nat} {acc : List Pc} (h : PcAt s i acc) (hn : 0 ≤ rskipN (s.drop i)) (he : (s.length : Int) ≤ i + rskipN (s.drop i)) : pcs s = .inr acc := by
  obtain ⟨hi, hz, f, hf, hp⟩ := h
  obtain ⟨f, rfl⟩ : ∃ g, f = g + 1 := ⟨f - 1, by omega⟩
  unfold rskipN at hn he
  rw [hp]
  unfold pcsF
  rw [skip_of s i _ hi]
  cases hl : (skip (s.drop i) 0 false false).lacks with
  | true => rw [hl] at hn; simp at hn; omega
  | false =>
    rw [hl] at he
    simp only [Bool.false_eq_true, if_false] at he ⊢
    rw [if_pos (by omega)]
/-- Whether the next one is a line's first; whether a path may stand there; which one it is. -/
def rfirst (s : List UInt8) (i : Nat) (acc : List Pc) : Bool := rskipB (s.drop i) || acc.isEmpty
def rpath (s : List UInt8) (i : Nat) (acc : List Pc) : Bool := !rfirst s i acc && behind s acc
theorem PcAt.next {s : List UInt8} {i z : Nat} {acc : List Pc} (h : PcAt s i acc) (hn : rskipN (s.drop i) = (z : Nat)) (hlt : i + z < s.length) :
    ((pick (sizes (s.drop (i + z)) (rpath s i acc))).1 = -1 → pcs s = .inl (i + z)) ∧
    ((pick (sizes (s.drop (i + z)) (rpath s i acc))).1 ≠ -1 → 0 < (pick (sizes (s.drop (i + z)) (rpath s i acc))).2.toNat ∧ i + z + (pick (sizes (s.drop (i + z)) (rpath s i acc))).2.toNat ≤ s.length ∧
      PcAt s (i + z + (pick (sizes (s.drop (i + z)) (rpath s i acc))).2.toNat) (acc ++ [⟨(pick (sizes (s.drop (i + z)) (rpath s i acc))).1, i + z, i + z + (pick (sizes (s.drop (i + z)) (rpath s i acc))).2.toNat, decide (0 < z), rfirst s i acc⟩])) := by
  obtain ⟨hi, hz, f, hf, hp⟩ := h
  obtain ⟨f, rfl⟩ : ∃ g, f = g + 1 := ⟨f - 1, by omega⟩
  unfold pcsF at hp
  rw [skip_of s i _ hi] at hp
  unfold rskipN at hn
  cases hl : (skip (s.drop i) 0 false false).lacks with
  | true => rw [hl] at hn; simp at hn; omega
  | false =>
    rw [hl] at hn hp
    simp only [Bool.false_eq_true, if_false] at hn hp
    have hz2 : (skip (s.drop i) 0 false false).to = z := by omega
    rw [hz2, hz] at hp
    rw [if_neg (by omega)] at hp
    change pcs s = (if (pick (sizes (s.drop (i + z)) (rpath s i acc))).1 = -1 then Sum.inl (i + z) else pcsF s f (i + z + (pick (sizes (s.drop (i + z)) (rpath s i acc))).2.toNat) (acc ++ [⟨(pick (sizes (s.drop (i + z)) (rpath s i acc))).1, i + z, i + z + (pick (sizes (s.drop (i + z)) (rpath s i acc))).2.toNat, decide (0 < z), rfirst s i acc⟩])) at hp
    have hle := pick_le (s.drop (i + z)) (rpath s i acc) (by rw [List.length_drop]; omega)
    rw [List.length_drop] at hle
    refine ⟨fun h => by rw [if_pos h] at hp; exact hp, fun h => ?_⟩
    rw [if_neg h] at hp
    rcases hle with hle | hle
    · exact absurd hle h
    · refine ⟨by omega, by omega, by omega, ?_, f, by omega, hp⟩
      have : (i + z + (pick (sizes (s.drop (i + z)) (rpath s i acc))).2.toNat == 0) = false := by simp; omega
      rw [this]; simp
theorem rpiece_empty (s : List UInt8) (path : Bool) (hs : s ≠ []) : (rpieceT s path = [] ↔ (pick (sizes s path)).1 = -1) ∧ ((pick (sizes s path)).1 = -1 → (pick (sizes s path)).2 = 0) := by
  have hp := List.length_pos_iff.2 hs
  have h0 : ∀ L : List (Int × Int), (∀ p ∈ L, p.1 ≠ -1) → (pick L).1 = -1 → (pick L).2 = 0 := fun L => by
    induction L with
    | nil => intro _ h; simp [pick] at h
    | cons x L ih =>
      obtain ⟨k, n⟩ := x
      intro hk h
      unfold pick at h ⊢
      by_cases e1 : n = -1
      · rw [if_pos e1]
      · rw [if_neg e1] at h ⊢
        by_cases e2 : 0 < n
        · rw [if_pos e2] at h; exact absurd h (hk (k, n) (by simp))
        · rw [if_neg e2] at h ⊢
          exact ih (fun p hp => hk p (by simp [hp])) h
  have h2 := h0 (sizes s path) (fun p hp => (sizes_of s path p hp).1)
  refine ⟨⟨fun h => ?_, fun h => ?_⟩, h2⟩
  · rcases pick_le s path hp with h3 | h3
    · exact h3
    · unfold rpieceT at h
      have := congrArg List.length h
      rw [List.length_take] at this
      rw [List.length_nil] at this
      omega
  · unfold rpieceT; rw [h2 h]; rfl
end Go.Proofs.YtoedgcpfomgagaaDoor
