/- Plain facts: how long a piece is hangs on its line alone. -/
import Derived.Test.YtoedgcpfomgagaaDoorLxA
namespace Go.Proofs.YtoedgcpfomgagaaDoor
open Go.RowKit

theorem spanN_ex (q : Nat → Bool) : ∀ (m a : Nat), ∃ k, k ≤ m ∧ (∀ i, a ≤ i → i < a + k → q i = true) ∧ (k < m → q (a + k) = false)
  | 0, _ => ⟨0, Nat.le_refl _, fun i h1 h2 => by omega, fun h => by omega⟩
  | m + 1, a => by
    cases h : q a with
    | false => exact ⟨0, by omega, fun i h1 h2 => by omega, fun _ => h⟩
    | true =>
      obtain ⟨k, h1, h2, h3⟩ := spanN_ex q m (a + 1)
      refine ⟨k + 1, by omega, fun i hi hk => ?_, fun hk => ?_⟩
      · rcases Nat.eq_or_lt_of_le hi with e | e
        · rw [← e]; exact h
        · exact h2 i e (by omega)
      · have := h3 (by omega)
        rw [show a + (k + 1) = a + 1 + k by omega]; exact this

/-- Where two texts are the same up to place d, and neither goes on there, as much of both is in a row. -/
theorem spanN_line (q q' : Nat → Bool) (n n' d : Nat) (h1 : 1 ≤ d) (hn : d ≤ n) (hn' : d ≤ n') (he : ∀ i, i < d → q i = q' i) (hq : d < n → q d = false) (hq' : d < n' → q' d = false) : spanN q n = spanN q' n' := by
  obtain ⟨k, k1, k2, k3⟩ := spanN_ex q (d - 1) 1
  rw [spanN_eq q n (k + 1) (by omega) (by omega) (fun i a b => k2 i a (by omega)) (fun hk => ?_)]
  · rw [spanN_eq q' n' (k + 1) (by omega) (by omega) (fun i a b => by rw [← he i (by omega)]; exact k2 i a (by omega)) (fun hk => ?_)]
    by_cases hd : k < d - 1
    · rw [← he _ (by omega), show k + 1 = 1 + k by omega]; exact k3 hd
    · rw [show k + 1 = d by omega] at hk ⊢; exact hq' hk
  · by_cases hd : k < d - 1
    · rw [show k + 1 = 1 + k by omega]; exact k3 hd
    · rw [show k + 1 = d by omega] at hk ⊢; exact hq hk

/-- What may stand behind a line's bytes: nothing, a line feed, or a note. -/
def endsLine (r : List UInt8) : Prop := r = [] ∨ ∃ x, r = 10 :: x ∨ r = 47 :: x
theorem byteAt_left (u r : List UInt8) (i : Nat) (h : i < u.length) : byteAt (u ++ r) i = byteAt u i := by
  simp [byteAt, List.getD, List.getElem?_append_left h]
theorem byteAt_end (u r : List UInt8) (h : endsLine r) (hl : u.length < (u ++ r).length) : byteAt (u ++ r) u.length = 10 ∨ byteAt (u ++ r) u.length = 47 := by
  rcases h with rfl | ⟨x, rfl | rfl⟩
  · simp at hl
  · exact .inl (by simp [byteAt, List.getD])
  · exact .inr (by simp [byteAt, List.getD])

theorem nameSz_line (u r r' : List UInt8) (hu : u ≠ []) (h : endsLine r) (h' : endsLine r') : nameSz (u ++ r) = nameSz (u ++ r') := by
  have hp : 1 ≤ u.length := List.length_pos_iff.2 hu
  have ne : ∀ r, u ++ r ≠ [] := fun r e => hu (List.append_eq_nil_iff.1 e).1
  have w : ∀ r, endsLine r → u.length < (u ++ r).length → wordB (byteAt (u ++ r) u.length) = false := fun r h hl => by
    rcases byteAt_end u r h hl with e | e <;> rw [e] <;> rfl
  unfold nameSz
  rw [if_neg (ne r), if_neg (ne r'), byteAt_left u r 0 hp, byteAt_left u r' 0 hp]
  split
  · exact spanN_line _ _ _ _ u.length hp (by simp) (by simp) (fun i hi => by simp only [byteAt_left u _ i hi]) (w r h) (w r' h')
  · rfl

theorem numSz_line (u r r' : List UInt8) (hu : u ≠ []) (h : endsLine r) (h' : endsLine r') : numSz (u ++ r) = numSz (u ++ r') := by
  have hp : 1 ≤ u.length := List.length_pos_iff.2 hu
  have w : ∀ r, endsLine r → u.length < (u ++ r).length → numB (u ++ r) u.length = false := fun r h hl => by
    unfold numB
    rcases byteAt_end u r h hl with e | e <;> simp only [e] <;> rfl
  have s : startsNum (u ++ r) = startsNum (u ++ r') := by
    have one : ∀ c r, endsLine r → startsNum ([c] ++ r) = (if c = 46 then false else digB c) := fun c r h => by
      rcases h with rfl | ⟨x, rfl | rfl⟩ <;> rfl
    match u, hu with
    | [c], _ => rw [one c r h, one c r' h']
    | c :: d :: v, _ => rfl
  unfold numSz
  rw [s]
  split
  · refine spanN_line _ _ _ _ u.length hp (by simp) (by simp) (fun i hi => ?_) (w r h) (w r' h')
    unfold numB
    simp only [byteAt_left u _ i hi, byteAt_left u _ (i - 1) (by omega)]
  · rfl

theorem sign_pre : ∀ (p u r : List UInt8), (∀ c ∈ p.tail, c ≠ 10 ∧ c ≠ 47) → u ≠ [] → endsLine r → (p.isPrefixOf (u ++ r) = p.isPrefixOf u)
  | [], u, r, _, _, _ => rfl
  | a :: p, c :: u, r, hp, _, h => by
    simp only [List.cons_append, List.isPrefixOf_cons_cons]
    congr 1
    induction p generalizing u with
    | nil => rfl
    | cons b p ih =>
      have hb := hp b (by simp)
      cases u with
      | nil =>
        rcases h with rfl | ⟨x, rfl | rfl⟩
        · rfl
        · simp [List.isPrefixOf, hb.1]
        · simp [List.isPrefixOf, hb.2]
      | cons d u =>
        simp only [List.cons_append, List.isPrefixOf_cons_cons]
        congr 1
        exact ih u (fun c hc => hp c (by simp at hc ⊢; exact .inr hc)) (by simp)
theorem signs_tail : ∀ p ∈ signsL, ∀ c ∈ p.tail, c ≠ 10 ∧ c ≠ 47 := by decide
theorem signSz_line (u r r' : List UInt8) (hu : u ≠ []) (h : endsLine r) (h' : endsLine r') : signSz (u ++ r) = signSz (u ++ r') := by
  have key : ∀ L : List (List UInt8), (∀ p ∈ L, ∀ c ∈ p.tail, c ≠ 10 ∧ c ≠ 47) → L.find? (·.isPrefixOf (u ++ r)) = L.find? (·.isPrefixOf (u ++ r')) := fun L hL => by
    induction L with
    | nil => rfl
    | cons p L ih =>
      simp only [List.find?_cons, sign_pre p u r (hL p (by simp)) hu h, sign_pre p u r' (hL p (by simp)) hu h']
      rw [ih (fun q hq => hL q (by simp [hq]))]
  unfold signSz
  rw [key signsL signs_tail]

/-- The same, where a note is the statement's last one. -/
def endsLast (r : List UInt8) : Prop := r = [] ∨ (∃ x, r = 10 :: x) ∨ r = [47, 47, 32, 121]
theorem endsLast.line {r : List UInt8} (h : endsLast r) : endsLine r := by
  rcases h with rfl | ⟨x, rfl⟩ | rfl
  · exact .inl rfl
  · exact .inr ⟨x, .inl rfl⟩
  · exact .inr ⟨_, .inr rfl⟩

theorem pathSz_last (u r : List UInt8) (hu : u ≠ []) (h : endsLast r) : pathSz (u ++ r) = pathSz u := by
  have hp : 0 < u.length := List.length_pos_iff.2 hu
  have h0 : (u ++ r)[0]? = u[0]? := List.getElem?_append_left hp
  unfold pathSz
  rw [h0]
  by_cases hx : u.findIdx (fun c => c == 62 || c == 10) < u.length
  · have e : pathEnd (u ++ r) = pathEnd u := by unfold pathEnd; rw [List.findIdx_append, if_pos hx]
    rw [e, show (u ++ r)[pathEnd u]? = u[pathEnd u]? from List.getElem?_append_left hx]
  · have e : pathEnd (u ++ r) = r.findIdx (fun c => c == 62 || c == 10) + u.length := by unfold pathEnd; rw [List.findIdx_append, if_neg hx]
    have e2 : u[pathEnd u]? = none := List.getElem?_eq_none (by unfold pathEnd; omega)
    have e3 : (u ++ r)[pathEnd (u ++ r)]? ≠ some 62 := by
      rw [e, List.getElem?_append_right (by omega), Nat.add_sub_cancel]
      rcases h with rfl | ⟨x, rfl⟩ | rfl
      · simp
      · simp [List.findIdx_cons]
      · decide
    rw [if_neg (fun k => e3 k.2), if_neg (fun k => by rw [e2] at k; cases k.2)]

theorem quotGo_cons (q c : UInt8) (l : List UInt8) (i : Nat) (h1 : c ≠ 10) (h2 : c ≠ 92) : quotGo q (c :: l) i = if c = q then (i : Int) + 1 else quotGo q l (i + 1) := by
  cases l with
  | nil => simp [quotGo, h1]
  | cons d l => simp [quotGo, h1, h2]
theorem quotGo_line (q : UInt8) (r r' : List UInt8) (h : r = [] ∨ ∃ x, r = 10 :: x) : ∀ (u : List UInt8) (i : Nat), (∀ c ∈ u, c ≠ 10 ∧ c ≠ 92) → quotGo q (u ++ r) i ≠ -1 → quotGo q (u ++ r') i = quotGo q (u ++ r) i
  | [], i, _, hn => by
    exfalso
    apply hn
    rcases h with rfl | ⟨x, rfl⟩
    · rfl
    · cases x <;> rfl
  | c :: u, i, hu, hn => by
    have hc := hu c (by simp)
    simp only [List.cons_append, quotGo_cons q c _ i hc.1 hc.2] at hn ⊢
    by_cases e : c = q
    · rw [if_pos e, if_pos e]
    · rw [if_neg e] at hn ⊢
      rw [if_neg e]
      exact quotGo_line q r r' h u (i + 1) (fun d hd => hu d (by simp [hd])) hn
theorem quotSz_line (q : UInt8) (r r' u : List UInt8) (h : r = [] ∨ ∃ x, r = 10 :: x) (hu : u ≠ []) (hc : ∀ c ∈ u, c ≠ 10 ∧ c ≠ 92) (hn : quotSz q (u ++ r) ≠ -1) : quotSz q (u ++ r') = quotSz q (u ++ r) := by
  match u, hu with
  | c :: v, _ =>
    simp only [List.cons_append, quotSz] at hn ⊢
    by_cases e : c = q
    · rw [if_pos e] at hn ⊢
      rw [if_pos e]
      exact quotGo_line q r r' h v 1 (fun d hd => hc d (by simp [hd])) hn
    · rw [if_neg e, if_neg e]

theorem pick_same (k n : Int) (L L' : List (Int × Int)) (h0 : n ≠ -1) (h : ¬ 0 < n → pick L' = pick L) : pick ((k, n) :: L') = pick ((k, n) :: L) := by
  simp only [pick, if_neg h0]
  split
  · rfl
  · rename_i hn; exact h hn
/-- The piece that is picked hangs on its line alone, where it has an end. -/
theorem pick_line (u r r' : List UInt8) (path : Bool) (hr : r = [] ∨ ∃ x, r = 10 :: x) (h' : endsLast r') (hu : u ≠ []) (hc : ∀ c ∈ u, c ≠ 10 ∧ c ≠ 92) (hk : (pick (sizes (u ++ r) path)).1 ≠ -1) : pick (sizes (u ++ r') path) = pick (sizes (u ++ r) path) := by
  have h : endsLast r := by
    rcases hr with h | h
    · exact .inl h
    · exact .inr (.inl h)
  unfold sizes at hk ⊢
  rw [nameSz_line u r' r hu h'.line h.line, numSz_line u r' r hu h'.line h.line, signSz_line u r' r hu h'.line h.line, pathSz_last u r' hu h', pathSz_last u r hu h]
  rw [pathSz_last u r hu h] at hk
  refine pick_same _ _ _ _ (by omega) (fun n1 => ?_)
  rw [pick, if_neg (by omega), if_neg n1] at hk
  refine pick_same _ _ _ _ (by omega) (fun n2 => ?_)
  rw [pick, if_neg (by omega), if_neg n2] at hk
  have q1 : quotSz 34 (u ++ r) ≠ -1 := fun e => hk (by rw [pick, if_pos e])
  rw [quotSz_line 34 r r' u hr hu hc q1]
  refine pick_same _ _ _ _ q1 (fun n3 => ?_)
  rw [pick, if_neg q1, if_neg n3] at hk
  have q2 : quotSz 39 (u ++ r) ≠ -1 := fun e => hk (by rw [pick, if_pos e])
  rw [quotSz_line 39 r r' u hr hu hc q2]
end Go.Proofs.YtoedgcpfomgagaaDoor
