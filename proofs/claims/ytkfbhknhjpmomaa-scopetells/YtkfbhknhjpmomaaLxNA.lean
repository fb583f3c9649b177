/- Plain facts: how long a piece is hangs on its line alone. · Plain facts: a text with a note behind each line feed has the same pieces. · Plain facts: what the document's own Skip, Sign, Quoted, Number and Piece answer, in the words of LxSpec. -/
import Derived.Test.YtkfbhknhjpmomaaLxA
namespace Go.Proofs.Ytkfbhknhjpmomaa
section
open Go.RowKit

theorem spanN_ex (q : Nat → Bool) : ∀ (m a : Nat), ∃ k, k ≤ m ∧ (∀ i, a ≤ i → i < a + k → q i = true) ∧ (k < m → q (a + k) = false)
  | 0, _ => ⟨0, Nat.le_refl _, fun i h1 h2 => by omega, fun h => by omega⟩
  | m + 1, a => by
    cases h : q a with
    | false => exact ⟨0, by omega, fun i h1 h2 => by omega, fun _ => h⟩
    | true =>
      obtain ⟨k, h1, h2, h3⟩ := spanN_ex q m (a + 1)
      refine ⟨k + 1, by omega, fun i hi hk => ?_, fun hk => ?_⟩
      · rcases Nat.eq_or_lt_of_le hi with e | e
        · rw [← e]; exact h
        · exact h2 i e (by omega)
      · have := h3 (by omega)
        rw [show a + (k + 1) = a + 1 + k by omega]; exact this

/-- Where two texts are the same up to place d, and neither goes on there, as much of both is in a row. -/
theorem spanN_line (q q' : Nat → Bool) (n n' d : Nat) (h1 : 1 ≤ d) (hn : d ≤ n) (hn' : d ≤ n') (he : ∀ i, i < d → q i = q' i) (hq : d < n → q d = false) (hq' : d < n' → q' d = false) : spanN q n = spanN q' n' := by
  obtain ⟨k, k1, k2, k3⟩ := spanN_ex q (d - 1) 1
  rw [spanN_eq q n (k + 1) (by omega) (by omega) (fun i a b => k2 i a (by omega)) (fun hk => ?_)]
  · rw [spanN_eq q' n' (k + 1) (by omega) (by omega) (fun i a b => by rw [← he i (by omega)]; exact k2 i a (by omega)) (fun hk => ?_)]
    by_cases hd : k < d - 1
    · rw [← he _ (by omega), show k + 1 = 1 + k by omega]; exact k3 hd
    · rw [show k + 1 = d by omega] at hk ⊢; exact hq' hk
  · by_cases hd : k < d - 1
    · rw [show k + 1 = 1 + k by omega]; exact k3 hd
    · rw [show k + 1 = d by omega] at hk ⊢; exact hq hk

/-- What may stand behind a line's bytes: nothing, a line feed, or a note. -/
def endsLine (r : List UInt8) : Prop := r = [] ∨ ∃ x, r = 10 :: x ∨ r = 47 :: x
theorem byteAt_left (u r : List UInt8) (i : Nat) (h : i < u.length) : byteAt (u ++ r) i = byteAt u i := by
  simp [byteAt, List.getD, List.getElem?_append_left h]
theorem byteAt_end (u r : List UInt8) (h : endsLine r) (hl : u.length < (u ++ r).length) : byteAt (u ++ r) u.length = 10 ∨ byteAt (u ++ r) u.length = 47 := by
  rcases h with rfl | ⟨x, rfl | rfl⟩
  · simp at hl
  · exact .inl (by simp [byteAt, List.getD])
  · exact .inr (by simp [byteAt, List.getD])

theorem nameSz_line (u r r' : List UInt8) (hu : u ≠ []) (h : endsLine r) (h' : endsLine r') : nameSz (u ++ r) = nameSz (u ++ r') := by
  have hp : 1 ≤ u.length := List.length_pos_iff.2 hu
  have ne : ∀ r, u ++ r ≠ [] := fun r e => hu (List.append_eq_nil_iff.1 e).1
  have w : ∀ r, endsLine r → u.length < (u ++ r).length → wordB (byteAt (u ++ r) u.length) = false := fun r h hl => by
    rcases byteAt_end u r h hl with e | e <;> rw [e] <;> rfl
  unfold nameSz
  rw [if_neg (ne r), if_neg (ne r'), byteAt_left u r 0 hp, byteAt_left u r' 0 hp]
  split
  · exact spanN_line _ _ _ _ u.length hp (by simp) (by simp) (fun i hi => by simp only [byteAt_left u _ i hi]) (w r h) (w r' h')
  · rfl

theorem numSz_line (u r r' : List UInt8) (hu : u ≠ []) (h : endsLine r) (h' : endsLine r') : numSz (u ++ r) = numSz (u ++ r') := by
  have hp : 1 ≤ u.length := List.length_pos_iff.2 hu
  have w : ∀ r, endsLine r → u.length < (u ++ r).length → numB (u ++ r) u.length = false := fun r h hl => by
    unfold numB
    rcases byteAt_end u r h hl with e | e <;> simp only [e] <;> rfl
  have s : startsNum (u ++ r) = startsNum (u ++ r') := by
    have one : ∀ c r, endsLine r → startsNum ([c] ++ r) = (if c = 46 then false else digB c) := fun c r h => by
      rcases h with rfl | ⟨x, rfl | rfl⟩ <;> rfl
    match u, hu with
    | [c], _ => rw [one c r h, one c r' h']
    | c :: d :: v, _ => rfl
  unfold numSz
  rw [s]
  split
  · refine spanN_line _ _ _ _ u.length hp (by simp) (by simp) (fun i hi => ?_) (w r h) (w r' h')
    unfold numB
    simp only [byteAt_left u _ i hi, byteAt_left u _ (i - 1) (by omega)]
  · rfl

theorem sign_pre : ∀ (p u r : List UInt8), (∀ c ∈ p.tail, c ≠ 10 ∧ c ≠ 47) → u ≠ [] → endsLine r → (p.isPrefixOf (u ++ r) = p.isPrefixOf u)
  | [], u, r, _, _, _ => rfl
  | a :: p, c :: u, r, hp, _, h => by
    simp only [List.cons_append, List.isPrefixOf_cons_cons]
    congr 1
    induction p generalizing u with
    | nil => rfl
    | cons b p ih =>
      have hb := hp b (by simp)
      cases u with
      | nil =>
        rcases h with rfl | ⟨x, rfl | rfl⟩
        · rfl
        · simp [List.isPrefixOf, hb.1]
        · simp [List.isPrefixOf, hb.2]
      | cons d u =>
        simp only [List.cons_append, List.isPrefixOf_cons_cons]
        congr 1
        exact ih u (fun c hc => hp c (by simp at hc ⊢; exact .inr hc)) (by simp)
theorem signs_tail : ∀ p ∈ signsL, ∀ c ∈ p.tail, c ≠ 10 ∧ c ≠ 47 := by decide
theorem signSz_line (u r r' : List UInt8) (hu : u ≠ []) (h : endsLine r) (h' : endsLine r') : signSz (u ++ r) = signSz (u ++ r') := by
  have key : ∀ L : List (List UInt8), (∀ p ∈ L, ∀ c ∈ p.tail, c ≠ 10 ∧ c ≠ 47) → L.find? (·.isPrefixOf (u ++ r)) = L.find? (·.isPrefixOf (u ++ r')) := fun L hL => by
    induction L with
    | nil => rfl
    | cons p L ih =>
      simp only [List.find?_cons, sign_pre p u r (hL p (by simp)) hu h, sign_pre p u r' (hL p (by simp)) hu h']
      rw [ih (fun q hq => hL q (by simp [hq]))]
  unfold signSz
  rw [key signsL signs_tail]

/-- The same, where a note is the statement's last one. -/
def endsLast (r : List UInt8) : Prop := r = [] ∨ (∃ x, r = 10 :: x) ∨ r = [47, 47, 32, 121]
theorem endsLast.line {r : List UInt8} (h : endsLast r) : endsLine r := by
  rcases h with rfl | ⟨x, rfl⟩ | rfl
  · exact .inl rfl
  · exact .inr ⟨x, .inl rfl⟩
  · exact .inr ⟨_, .inr rfl⟩

theorem pathSz_last (u r : List UInt8) (hu : u ≠ []) (h : endsLast r) : pathSz (u ++ r) = pathSz u := by
  have hp : 0 < u.length := List.length_pos_iff.2 hu
  have h0 : (u ++ r)[0]? = u[0]? := List.getElem?_append_left hp
  unfold pathSz
  rw [h0]
  by_cases hx : u.findIdx (fun c => c == 62 || c == 10) < u.length
  · have e : pathEnd (u ++ r) = pathEnd u := by unfold pathEnd; rw [List.findIdx_append, if_pos hx]
    rw [e, show (u ++ r)[pathEnd u]? = u[pathEnd u]? from List.getElem?_append_left hx]
  · have e : pathEnd (u ++ r) = r.findIdx (fun c => c == 62 || c == 10) + u.length := by unfold pathEnd; rw [List.findIdx_append, if_neg hx]
    have e2 : u[pathEnd u]? = none := List.getElem?_eq_none (by unfold pathEnd; omega)
    have e3 : (u ++ r)[pathEnd (u ++ r)]? ≠ some 62 := by
      rw [e, List.getElem?_append_right (by omega), Nat.add_sub_cancel]
      rcases h with rfl | ⟨x, rfl⟩ | rfl
      · simp
      · simp [List.findIdx_cons]
      · decide
    rw [if_neg (fun k => e3 k.2), if_neg (fun k => by rw [e2] at k; cases k.2)]

theorem quotGo_cons (q c : UInt8) (l : List UInt8) (i : Nat) (h1 : c ≠ 10) (h2 : c ≠ 92) : quotGo q (c :: l) i = if c = q then (i : Int) + 1 else quotGo q l (i + 1) := by
  cases l with
  | nil => simp [quotGo, h1]
  | cons d l => simp [quotGo, h1, h2]
theorem quotGo_line (q : UInt8) (r r' : List UInt8) (h : r = [] ∨ ∃ x, r = 10 :: x) : ∀ (u : List UInt8) (i : Nat), (∀ c ∈ u, c ≠ 10 ∧ c ≠ 92) → quotGo q (u ++ r) i ≠ -1 → quotGo q (u ++ r') i = quotGo q (u ++ r) i
  | [], i, _, hn => by
    exfalso
    apply hn
    rcases h with rfl | ⟨x, rfl⟩
    · rfl
    · cases x <;> rfl
  | c :: u, i, hu, hn => by
    have hc := hu c (by simp)
    simp only [List.cons_append, quotGo_cons q c _ i hc.1 hc.2] at hn ⊢
    by_cases e : c = q
    · rw [if_pos e, if_pos e]
    · rw [if_neg e] at hn ⊢
      rw [if_neg e]
      exact quotGo_line q r r' h u (i + 1) (fun d hd => hu d (by simp [hd])) hn
theorem quotSz_line (q : UInt8) (r r' u : List UInt8) (h : r = [] ∨ ∃ x, r = 10 :: x) (hu : u ≠ []) (hc : ∀ c ∈ u, c ≠ 10 ∧ c ≠ 92) (hn : quotSz q (u ++ r) ≠ -1) : quotSz q (u ++ r') = quotSz q (u ++ r) := by
  match u, hu with
  | c :: v, _ =>
    simp only [List.cons_append, quotSz] at hn ⊢
    by_cases e : c = q
    · rw [if_pos e] at hn ⊢
      rw [if_pos e]
      exact quotGo_line q r r' h v 1 (fun d hd => hc d (by simp [hd])) hn
    · rw [if_neg e, if_neg e]

theorem pick_same (k n : Int) (L L' : List (Int × Int)) (h0 : n ≠ -1) (h : ¬ 0 < n → pick L' = pick L) : pick ((k, n) :: L') = pick ((k, n) :: L) := by
  simp only [pick, if_neg h0]
  split
  · rfl
  · rename_i hn; exact h hn
/-- The piece that is picked hangs on its line alone, where it has an end. -/
theorem pick_line (u r r' : List UInt8) (path : Bool) (hr : r = [] ∨ ∃ x, r = 10 :: x) (h' : endsLast r') (hu : u ≠ []) (hc : ∀ c ∈ u, c ≠ 10 ∧ c ≠ 92) (hk : (pick (sizes (u ++ r) path)).1 ≠ -1) : pick (sizes (u ++ r') path) = pick (sizes (u ++ r) path) := by
  have h : endsLast r := by
    rcases hr with h | h
    · exact .inl h
    · exact .inr (.inl h)
  unfold sizes at hk ⊢
  rw [nameSz_line u r' r hu h'.line h.line, numSz_line u r' r hu h'.line h.line, signSz_line u r' r hu h'.line h.line, pathSz_last u r' hu h', pathSz_last u r hu h]
  rw [pathSz_last u r hu h] at hk
  refine pick_same _ _ _ _ (by omega) (fun n1 => ?_)
  rw [pick, if_neg (by omega), if_neg n1] at hk
  refine pick_same _ _ _ _ (by omega) (fun n2 => ?_)
  rw [pick, if_neg (by omega), if_neg n2] at hk
  have q1 : quotSz 34 (u ++ r) ≠ -1 := fun e => hk (by rw [pick, if_pos e])
  rw [quotSz_line 34 r r' u hr hu hc q1]
  refine pick_same _ _ _ _ q1 (fun n3 => ?_)
  rw [pick, if_neg q1, if_neg n3] at hk
  have q2 : quotSz 39 (u ++ r) ≠ -1 := fun e => hk (by rw [pick, if_pos e])
  rw [quotSz_line 39 r r' u hr hu hc q2]
end
section
open Go.RowKit

def noteB : List UInt8 := [32, 32, 47, 42, 32, 120, 32, 42, 47, 9]
def lastB : List UInt8 := [47, 47, 32, 121]
def noted : List UInt8 → List UInt8
  | [] => []
  | c :: r => if c = 10 then 10 :: (noteB ++ noted r) else c :: noted r
theorem noted_append : ∀ (a b : List UInt8), noted (a ++ b) = noted a ++ noted b
  | [], _ => rfl
  | c :: r, b => by
    simp only [List.cons_append, noted, noted_append r b]
    split <;> simp
theorem noted_line : ∀ (u : List UInt8), (∀ c ∈ u, c ≠ 10) → noted u = u
  | [], _ => rfl
  | c :: r, h => by
    rw [noted, if_neg (h c (by simp)), noted_line r (fun d hd => h d (by simp [hd]))]
theorem noted_len : ∀ (s : List UInt8), s.length ≤ (noted s).length
  | [] => Nat.le_refl _
  | c :: r => by
    have := noted_len r
    unfold noted
    split <;> simp <;> omega
def plN (s : List UInt8) (i : Nat) : Nat := (noted (s.take i)).length
def withN (s : List UInt8) : List UInt8 := noted s ++ lastB
theorem withN_drop (s : List UInt8) (i : Nat) : (withN s).drop (plN s i) = noted (s.drop i) ++ lastB := by
  unfold withN plN
  have e : noted s = noted (s.take i) ++ noted (s.drop i) := by rw [← noted_append, List.take_append_drop]
  rw [e, List.append_assoc, List.drop_left]
theorem plN_ge (s : List UInt8) (i : Nat) (h : i ≤ s.length) : i ≤ plN s i := by
  have := noted_len (s.take i)
  rw [List.length_take] at this
  unfold plN; omega
theorem plN_zero (s : List UInt8) : plN s 0 = 0 := rfl
theorem plN_le (s : List UInt8) (i : Nat) : plN s i + 4 ≤ (withN s).length := by
  unfold withN plN
  have e : noted s = noted (s.take i) ++ noted (s.drop i) := by rw [← noted_append, List.take_append_drop]
  rw [e]; simp [lastB]
theorem plN_end (s : List UInt8) : plN s s.length + 4 = (withN s).length := by
  unfold withN plN; simp [lastB]
theorem plN_add (s : List UInt8) (i n : Nat) : plN s (i + n) = plN s i + (noted ((s.drop i).take n)).length := by
  unfold plN
  rw [List.take_add, noted_append, List.length_append]
theorem plN_mono (s : List UInt8) (i k : Nat) (h : i ≤ k) : plN s i ≤ plN s k := by
  obtain ⟨n, rfl⟩ : ∃ n, k = i + n := ⟨k - i, by omega⟩
  rw [plN_add]; omega
theorem plN_line (s : List UInt8) (i n : Nat) (h : ∀ c ∈ (s.drop i).take n, c ≠ 10) (hn : i + n ≤ s.length) : plN s (i + n) = plN s i + n := by
  rw [plN_add, noted_line _ h, List.length_take, List.length_drop]; omega

theorem skipF_more (s : List UInt8) : ∀ (f f' i : Nat) (sp fi : Bool), s.length + 1 ≤ f + i → s.length + 1 ≤ f' + i → i ≤ s.length → skipF s f i sp fi = skipF s f' i sp fi
  | 0, _, i, _, _, h, _, hi => by omega
  | _ + 1, 0, i, _, _, _, h, hi => by omega
  | f + 1, f' + 1, i, sp, fi, h, h', hi => by
    unfold skipF
    split
    · rfl
    · rename_i n0
      split
      · rfl
      · rename_i n1
        have hb := blankSz_le (s.drop i)
        rw [List.length_drop] at hb
        exact skipF_more s f f' _ _ _ (by omega) (by omega) (by omega)
theorem skip_stop (s : List UInt8) (i : Nat) (sp fi : Bool) (hi : i ≤ s.length) (h : blankSz (s.drop i) = 0) : skip s i sp fi = ⟨i, sp, fi, false⟩ := by
  unfold skip
  rw [show s.length + 1 - i = (s.length - i) + 1 by omega]
  unfold skipF
  rw [if_pos h]
theorem skip_go (s : List UInt8) (i n : Nat) (sp fi : Bool) (hi : i ≤ s.length) (h : blankSz (s.drop i) = (n : Nat)) (hn : 0 < n) : skip s i sp fi = skip s (i + n) true (fi || byteAt s i == 10) := by
  have hb := blankSz_le (s.drop i)
  rw [List.length_drop] at hb
  unfold skip
  rw [show s.length + 1 - i = (s.length - i) + 1 by omega]
  conv => lhs; unfold skipF
  rw [if_neg (by omega), if_neg (by omega), h, Int.toNat_natCast]
  exact skipF_more s _ _ _ _ _ (by omega) (by omega) (by omega)
/-- The same, of a rest of the text. -/
theorem skip_at (s : List UInt8) (i n : Nat) (sp fi : Bool) (c : UInt8) (r : List UInt8) (hd : s.drop i = c :: r) (h : blankSz (c :: r) = (n : Nat)) (hn : 0 < n) : skip s i sp fi = skip s (i + n) true (fi || c == 10) := by
  have hi : i ≤ s.length := by
    rcases Nat.lt_or_ge s.length i with h | h
    · rw [List.drop_of_length_le (by omega)] at hd; cases hd
    · exact h
  have e : byteAt s i = c := byteAt_eq s i c (by have := congrArg (·[0]?) hd; simpa [List.getElem?_drop] using this)
  rw [skip_go s i n sp fi hi (by rw [hd]; exact h) hn, e]

def plainL (s : List UInt8) : Prop := ∀ c ∈ s, c ≠ 92 ∧ c ≠ 47 ∧ c ≠ 42 ∧ c ≠ 13

theorem blankSz_plain (c : UInt8) (r : List UInt8) (h : c ≠ 47) (h2 : c ≠ 13) : blankSz (c :: r) = if c = 32 ∨ c = 9 ∨ c = 10 then 1 else 0 := by
  simp [blankSz, h, h2]

theorem drop_next (s : List UInt8) (i n : Nat) (a b : List UInt8) (h : s.drop i = a ++ b) (hn : a.length = n) : s.drop (i + n) = b := by
  rw [← List.drop_drop, h, ← hn, List.drop_left]

/-- A line feed with its note is passed. -/
theorem skip_note (t r : List UInt8) (j : Nat) (sp fi : Bool) (hd : t.drop j = 10 :: (noteB ++ r)) : skip t j sp fi = skip t (j + 11) true true := by
  have d1 : t.drop (j + 1) = 32 :: ([32, 47, 42, 32, 120, 32, 42, 47, 9] ++ r) := drop_next t j 1 [10] _ hd rfl
  have d2 : t.drop (j + 2) = 32 :: ([47, 42, 32, 120, 32, 42, 47, 9] ++ r) := drop_next t j 2 [10, 32] _ hd rfl
  have d3 : t.drop (j + 3) = 47 :: ([42, 32, 120, 32, 42, 47, 9] ++ r) := drop_next t j 3 [10, 32, 32] _ hd rfl
  have d4 : t.drop (j + 10) = 9 :: r := drop_next t j 10 [10, 32, 32, 47, 42, 32, 120, 32, 42, 47] _ hd rfl
  rw [skip_at t j 1 sp fi _ _ hd (by simp [blankSz]) (by omega)]
  rw [skip_at t (j + 1) 1 _ _ _ _ d1 (by simp [blankSz]) (by omega)]
  rw [skip_at t (j + 1 + 1) 1 _ _ _ _ d2 (by simp [blankSz]) (by omega)]
  rw [skip_at t (j + 1 + 1 + 1) 7 _ _ _ _ d3 (by simp [blankSz, noteEnd]) (by omega)]
  rw [skip_at t (j + 1 + 1 + 1 + 7) 1 _ _ _ _ d4 (by simp [blankSz]) (by omega)]
  simp

theorem skip_noted (s : List UInt8) (hs : plainL s) : ∀ (n i : Nat) (sp fi : Bool), s.length - i = n → i ≤ s.length →
    ∃ k sp' fi', i ≤ k ∧ k ≤ s.length ∧ skip s i sp fi = ⟨k, sp', fi', false⟩ ∧
      (k < s.length → skip (withN s) (plN s i) sp fi = ⟨plN s k, sp', fi', false⟩ ∧ s[k]? ≠ some 10) ∧
      (k = s.length → (skip (withN s) (plN s i) sp fi).to = (withN s).length ∧ (skip (withN s) (plN s i) sp fi).lacks = false)
  | 0, i, sp, fi, hn, hi => by
    have e : i = s.length := by omega
    subst e
    refine ⟨s.length, sp, fi, Nat.le_refl _, Nat.le_refl _, skip_stop s _ sp fi (Nat.le_refl _) (by simp [blankSz]), fun h => by omega, fun _ => ?_⟩
    have hd := withN_drop s s.length
    rw [List.drop_length] at hd
    have hd : (withN s).drop (plN s s.length) = 47 :: [47, 32, 121] := hd
    have he := plN_end s
    rw [skip_at _ _ 4 sp fi _ _ hd (by decide) (by omega), he, skip_stop _ _ _ _ (Nat.le_refl _) (by simp [blankSz])]
    exact ⟨rfl, rfl⟩
  | n + 1, i, sp, fi, hn, hi => by
    have hlt : i < s.length := by omega
    have hd : s.drop i = s[i] :: s.drop (i + 1) := List.drop_eq_getElem_cons hlt
    have hp := hs s[i] (List.getElem_mem hlt)
    have hT := withN_drop s i
    have hget : s[i]? = some s[i] := List.getElem?_eq_getElem hlt
    have hpl : plN s (i + 1) = plN s i + (noted [s[i]]).length := by
      rw [plN_add, hd]; rfl
    rw [hd] at hT
    generalize s[i] = c at hd hp hT hget hpl
    by_cases h10 : c = 10
    · subst h10
      have hT2 : (withN s).drop (plN s i) = 10 :: (noteB ++ (noted (s.drop (i + 1)) ++ lastB)) := by rw [hT]; simp [noted]
      have hpl2 : plN s (i + 1) = plN s i + 11 := by rw [hpl]; rfl
      obtain ⟨k, sp', fi', h1, h2, h3, h4, h5⟩ := skip_noted s hs n (i + 1) true true (by omega) (by omega)
      refine ⟨k, sp', fi', by omega, h2, ?_, ?_, ?_⟩
      · rw [skip_at s i 1 sp fi _ _ hd (by simp [blankSz]) (by omega)]; simpa using h3
      · rw [skip_note _ _ _ sp fi hT2, ← hpl2]; exact h4
      · rw [skip_note _ _ _ sp fi hT2, ← hpl2]; exact h5
    · have hT2 : (withN s).drop (plN s i) = c :: (noted (s.drop (i + 1)) ++ lastB) := by rw [hT]; simp [noted, h10]
      have hpl2 : plN s (i + 1) = plN s i + 1 := by rw [hpl]; simp [noted, h10]
      by_cases hb : c = 32 ∨ c = 9
      · have hbz : ∀ r, blankSz (c :: r) = ((1 : Nat) : Int) := fun r => by
          rw [blankSz_plain c r hp.2.1 hp.2.2.2, if_pos (by rcases hb with h | h; exact .inl h; exact .inr (.inl h))]; rfl
        have hf : (fi || c == 10) = fi := by simp [h10]
        obtain ⟨k, sp', fi', h1, h2, h3, h4, h5⟩ := skip_noted s hs n (i + 1) true fi (by omega) (by omega)
        refine ⟨k, sp', fi', by omega, h2, ?_, ?_, ?_⟩
        · rw [skip_at s i 1 sp fi _ _ hd (hbz _) (by omega), hf]; exact h3
        · rw [skip_at _ _ 1 sp fi _ _ hT2 (hbz _) (by omega), hf, ← hpl2]; exact h4
        · rw [skip_at _ _ 1 sp fi _ _ hT2 (hbz _) (by omega), hf, ← hpl2]; exact h5
      · have hbz : ∀ r, blankSz (c :: r) = 0 := fun r => by
          rw [blankSz_plain c r hp.2.1 hp.2.2.2, if_neg (by intro h; rcases h with h | h | h; exact hb (.inl h); exact hb (.inr h); exact h10 h)]
        refine ⟨i, sp, fi, Nat.le_refl _, hi, skip_stop s i sp fi hi (by rw [hd]; exact hbz _), fun _ => ⟨skip_stop _ _ sp fi ?_ (by rw [hT2]; exact hbz _), ?_⟩, fun h => by omega⟩
        · have := plN_le s i; omega
        · rw [hget]; intro h; injection h with h; exact h10 h

/-- What of a piece is compared. -/
def viewPc (s : List UInt8) (p : Pc) : Int × List UInt8 × Bool := (p.kind, textOfPc s p, p.first)
def behindV (vs : List (Int × List UInt8 × Bool)) : Bool := match vs.reverse with
  | w :: h :: _ => h.2.2 && (h.2.1 == [35]) && !w.2.2 && (w.2.1 == [105, 110, 99, 108, 117, 100, 101])
  | _ => false
theorem behind_view (s : List UInt8) (acc : List Pc) : behind s acc = behindV (acc.map (viewPc s)) := by
  unfold behind behindV
  rw [← List.map_reverse]
  rcases acc.reverse with _ | ⟨x, _ | ⟨y, r⟩⟩ <;> rfl

theorem pcsF_noted (s : List UInt8) (hs : plainL s) : ∀ (f f' i : Nat) (acc acc' A : List Pc), s.length + 1 ≤ f + i → (withN s).length + 1 ≤ f' + plN s i → i ≤ s.length →
    acc.map (viewPc s) = acc'.map (viewPc (withN s)) → pcsF s f i acc = .inr A → ∃ A', pcsF (withN s) f' (plN s i) acc' = .inr A' ∧ A.map (viewPc s) = A'.map (viewPc (withN s))
  | 0, _, i, _, _, _, h, _, hi, _, _ => by omega
  | _ + 1, 0, i, _, _, _, _, h, hi, _, _ => by have := plN_le s i; omega
  | f + 1, f' + 1, i, acc, acc', A, hf, hf', hi, hv, hA => by
    obtain ⟨k, sp, fi, k1, k2, k3, k4, k5⟩ := skip_noted s hs _ i false (i == 0) rfl hi
    have hz : (plN s i == 0) = (i == 0) := by
      by_cases h : i = 0
      · subst h; rfl
      · have := plN_ge s i hi
        rw [show (i == 0) = false by simpa using h, show (plN s i == 0) = false by simp; omega]
    have hbe : behind (withN s) acc' = behind s acc := by rw [behind_view, behind_view, hv]
    unfold pcsF at hA ⊢
    rw [hz]
    simp only [k3] at hA
    rcases Nat.lt_or_ge k s.length with hk | hk
    · obtain ⟨k6, k7⟩ := k4 hk
      have hplk := plN_le s k
      simp only [k6, hbe, Bool.false_eq_true, if_false] at hA ⊢
      rw [if_neg (by omega)] at hA ⊢
      -- the line's rest
      have hsplit : s.drop k = (s.drop k).takeWhile (· != 10) ++ (s.drop k).dropWhile (· != 10) := List.takeWhile_append_dropWhile.symm
      have hu : ∀ c ∈ (s.drop k).takeWhile (· != 10), c ≠ 10 ∧ c ≠ 92 := fun c hc => by
        have h1 := List.all_eq_true.1 List.all_takeWhile c hc
        have h2 : c ∈ s := List.mem_of_mem_drop ((List.takeWhile_sublist _).subset hc)
        exact ⟨by simpa using h1, (hs c h2).1⟩
      have hne : (s.drop k).takeWhile (· != 10) ≠ [] := by
        rw [List.drop_eq_getElem_cons hk, List.takeWhile_cons]
        have : s[k] ≠ 10 := fun e => k7 (by rw [List.getElem?_eq_getElem hk, e])
        simp [this]
      have hr : (s.drop k).dropWhile (· != 10) = [] ∨ ∃ x, (s.drop k).dropWhile (· != 10) = 10 :: x := by
        cases hx : (s.drop k).dropWhile (· != 10) with
        | nil => exact .inl rfl
        | cons c x =>
          have := List.head_dropWhile_not (· != 10) (l := s.drop k) (by rw [hx]; simp)
          simp only [hx, List.head_cons] at this
          have : c = 10 := by simpa using this
          exact .inr ⟨x, by rw [this]⟩
      have hT := withN_drop s k
      generalize (s.drop k).takeWhile (· != 10) = u at hsplit hu hne
      generalize (s.drop k).dropWhile (· != 10) = r at hsplit hr
      have hT2 : (withN s).drop (plN s k) = u ++ (noted r ++ lastB) := by
        rw [hT, hsplit, noted_append, noted_line u (fun c hc => (hu c hc).1), List.append_assoc]
      have hr' : endsLast (noted r ++ lastB) := by
        rcases hr with h | ⟨x, h⟩
        · rw [h]; exact .inr (.inr rfl)
        · rw [h]; exact .inr (.inl ⟨noteB ++ noted x ++ lastB, by simp [noted]⟩)
      rw [hsplit] at hA
      have hul : 1 ≤ u.length := List.length_pos_iff.2 hne
      by_cases hm : (pick (sizes (u ++ r) (!fi && behind s acc))).1 = -1
      · rw [if_pos hm] at hA; cases hA
      · have e1 := pick_line u r (noted r ++ lastB) (!fi && behind s acc) hr hr' hne hu hm
        have e2 := pick_line u r [] (!fi && behind s acc) hr (.inl rfl) hne hu hm
        rw [hT2, e1, if_neg hm]
        rw [if_neg hm] at hA
        have hle := pick_le (u ++ []) (!fi && behind s acc) (by simp; omega)
        rw [e2, List.append_nil] at hle
        generalize pick (sizes (u ++ r) (!fi && behind s acc)) = m at hA hm hle
        obtain ⟨mk, mn⟩ := m
        dsimp only at hA hm hle ⊢
        rcases hle with h | ⟨hle1, hle2⟩
        · exact absurd h hm
        obtain ⟨z, rfl⟩ : ∃ z : Nat, mn = z := ⟨mn.toNat, by omega⟩
        rw [Int.toNat_natCast] at hA ⊢
        have hz1 : 0 < z := by omega
        have hz2 : z ≤ u.length := by omega
        have hlen : k + u.length ≤ s.length := by
          have := congrArg List.length hsplit
          rw [List.length_drop, List.length_append] at this
          omega
        have hpl : plN s (k + z) = plN s k + z := by
          refine plN_line s k z (fun c hc => ?_) (by omega)
          rw [hsplit, List.take_append_of_le_length hz2] at hc
          exact (hu c (List.mem_of_mem_take hc)).1
        rw [← hpl]
        refine pcsF_noted s hs f f' (k + z) _ _ A (by omega) (by have := plN_mono s i k k1; omega) (by omega) ?_ hA
        rw [List.map_append, List.map_append, hv]
        congr 1
        simp only [List.map_cons, List.map_nil, viewPc, textOfPc]
        rw [List.drop_take, List.drop_take, hT2, hsplit, hpl, Nat.add_sub_cancel_left, Nat.add_sub_cancel_left, List.take_append_of_le_length hz2, List.take_append_of_le_length hz2]
    · have hke : k = s.length := by omega
      obtain ⟨k6, k7⟩ := k5 hke
      simp only [Bool.false_eq_true, if_false] at hA
      rw [if_pos (by omega)] at hA
      injection hA with hA
      subst hA
      refine ⟨acc', ?_, hv⟩
      dsimp only
      rw [k7, if_neg (by simp), if_pos (by omega)]

theorem kept_plain (s : List UInt8) (h : ∀ c ∈ s, c ≠ 92 ∧ c ≠ 13) : kept s = List.range s.length := by
  have hg : ∀ i, goneAt s i = 0 := fun i => by
    have n1 : s[i]? ≠ some 92 := fun e => (h _ (List.mem_of_getElem? e)).1 rfl
    have n2 : s[i]? ≠ some 13 := fun e => (h _ (List.mem_of_getElem? e)).2 rfl
    unfold goneAt
    rw [if_neg (fun x => n1 x.1), if_neg (fun x => n1 x.1), if_neg (fun x => n2 x.1)]
  have key : ∀ f i, f + i = s.length → keptF s f i = List.range' i f := fun f => by
    induction f with
    | zero => intro i _; rfl
    | succ f ih =>
      intro i hi
      rw [keptF, if_pos (by omega), if_pos (hg i), ih (i + 1) (by omega), List.range'_succ]
  rw [kept, key _ _ (by omega), List.range_eq_range']
theorem bytes_plain (s : List UInt8) (h : ∀ c ∈ s, c ≠ 92 ∧ c ≠ 13) : bytesAt s (kept s) = s := by
  rw [kept_plain s h]
  unfold bytesAt
  apply List.ext_getElem
  · simp
  · intro i h1 h2
    simp [List.getD, List.getElem?_eq_getElem h2]
theorem noted_mem : ∀ (s : List UInt8) (c : UInt8), c ∈ noted s → c ∈ s ∨ c ∈ noteB
  | [], c, h => by cases h
  | d :: r, c, h => by
    unfold noted at h
    split at h
    · rename_i e
      rcases List.mem_cons.1 h with h | h
      · exact .inl (by simp [h, e])
      · rcases List.mem_append.1 h with h | h
        · exact .inr h
        · rcases noted_mem r c h with h | h
          · exact .inl (by simp [h])
          · exact .inr h
    · rcases List.mem_cons.1 h with h | h
      · exact .inl (by simp [h])
      · rcases noted_mem r c h with h | h
        · exact .inl (by simp [h])
        · exact .inr h
theorem withN_plain (s : List UInt8) (hs : plainL s) : ∀ c ∈ withN s, c ≠ 92 ∧ c ≠ 13 := fun c hc => by
  rcases List.mem_append.1 hc with h | h
  · rcases noted_mem s c h with h | h
    · exact ⟨(hs c h).1, (hs c h).2.2.2⟩
    · exact (by decide : ∀ c ∈ noteB, c ≠ 92 ∧ c ≠ 13) c h
  · exact (by decide : ∀ c ∈ lastB, c ≠ 92 ∧ c ≠ 13) c h
end
section
open Go.RowKit

theorem byteAt_drop (s : List UInt8) (a i : Nat) : byteAt (s.drop a) i = byteAt s (a + i) := by
  simp [byteAt, List.getD, List.getElem?_drop]
theorem skipF_shift (s : List UInt8) (a : Nat) : ∀ (f i : Nat) (sp fi : Bool),
    skipF s f (a + i) sp fi = ⟨a + (skipF (s.drop a) f i sp fi).to, (skipF (s.drop a) f i sp fi).space, (skipF (s.drop a) f i sp fi).first, (skipF (s.drop a) f i sp fi).lacks⟩
  | 0, _, _, _ => rfl
  | f + 1, i, sp, fi => by
    unfold skipF
    rw [List.drop_drop, byteAt_drop]
    split
    · rfl
    · split
      · rfl
      · rw [Nat.add_assoc, skipF_shift s a f]
/-- What is blank from byte a on, told by the rest of the text. -/
theorem skip_shift (s : List UInt8) (a : Nat) (sp fi : Bool) (ha : a ≤ s.length) :
    skip s a sp fi = ⟨a + (skip (s.drop a) 0 sp fi).to, (skip (s.drop a) 0 sp fi).space, (skip (s.drop a) 0 sp fi).first, (skip (s.drop a) 0 sp fi).lacks⟩ := by
  unfold skip
  rw [List.length_drop, show s.length - a + 1 - 0 = s.length + 1 - a by omega]
  exact skipF_shift s a (s.length + 1 - a) 0 sp fi
theorem skipF_flags (s : List UInt8) : ∀ (f i : Nat) (sp fi : Bool),
    (skipF s f i sp fi).first = (fi || (skipF s f i false false).first) ∧ (skipF s f i sp fi).to = (skipF s f i false false).to ∧ (skipF s f i sp fi).lacks = (skipF s f i false false).lacks ∧ (skipF s f i sp fi).space = (sp || decide (i < (skipF s f i sp fi).to))
  | 0, i, sp, fi => by simp [skipF]
  | f + 1, i, sp, fi => by
    unfold skipF
    split
    · simp
    · split
      · simp
      · rename_i h0 h1
        obtain ⟨a1, a2, a3, a4⟩ := skipF_flags s f (i + (blankSz (s.drop i)).toNat) true (fi || byteAt s i == 10)
        obtain ⟨b1, b2, b3, b4⟩ := skipF_flags s f (i + (blankSz (s.drop i)).toNat) true (false || byteAt s i == 10)
        have hge := skipF_ge s f (i + (blankSz (s.drop i)).toNat) true (fi || byteAt s i == 10)
        refine ⟨by rw [a1, b1]; simp [Bool.or_assoc], by rw [a2, b2], by rw [a3, b3], ?_⟩
        rw [a4, Bool.true_or]
        have : decide (i < (skipF s f (i + (blankSz (s.drop i)).toNat) true (fi || byteAt s i == 10)).to) = true := decide_eq_true (by omega)
        rw [this, Bool.or_true]
theorem skip_flags (s : List UInt8) (i : Nat) (sp fi : Bool) :
    (skip s i sp fi).first = (fi || (skip s i false false).first) ∧ (skip s i sp fi).to = (skip s i false false).to ∧ (skip s i sp fi).lacks = (skip s i false false).lacks ∧ (skip s i sp fi).space = (sp || decide (i < (skip s i sp fi).to)) :=
  skipF_flags s _ i sp fi

/-- What the document's own Skip answers. -/
def rskipN (s : List UInt8) : Int := if (skip s 0 false false).lacks then -1 - ((skip s 0 false false).to : Int) else ((skip s 0 false false).to : Int)
def rskipB (s : List UInt8) : Bool := (skip s 0 false false).first

/-- What is left of it at byte k. -/
def SkAt (s : List UInt8) (k : Nat) (feed : Bool) : Prop := k ≤ s.length ∧ (skip s k false feed).first = rskipB s ∧ (skip s k false feed).to = (skip s 0 false false).to ∧ (skip s k false feed).lacks = (skip s 0 false false).lacks
theorem SkAt.start (s : List UInt8) : SkAt s 0 false := ⟨Nat.zero_le _, rfl, rfl, rfl⟩
theorem SkAt.go {s : List UInt8} {k : Nat} {feed : Bool} (h : SkAt s k feed) (n : Nat) (hb : blankSz (s.drop k) = (n : Nat)) (hn : 0 < n) : SkAt s (k + n) (feed || byteAt s k == 10) := by
  obtain ⟨h1, h2, h3, h4⟩ := h
  have hle := blankSz_le (s.drop k)
  rw [List.length_drop] at hle
  rw [skip_go s k n false feed h1 hb hn] at h2 h3 h4
  obtain ⟨a1, a2, a3, _⟩ := skip_flags s (k + n) true (feed || byteAt s k == 10)
  obtain ⟨b1, b2, b3, _⟩ := skip_flags s (k + n) false (feed || byteAt s k == 10)
  exact ⟨by omega, by rw [b1, ← a1]; exact h2, by rw [b2, ← a2]; exact h3, by rw [b3, ← a3]; exact h4⟩
theorem SkAt.stop {s : List UInt8} {k : Nat} {feed : Bool} (h : SkAt s k feed) (hb : blankSz (s.drop k) = 0) : rskipN s = (k : Int) ∧ rskipB s = feed := by
  obtain ⟨h1, h2, h3, h4⟩ := h
  rw [skip_stop s k false feed h1 hb] at h2 h3 h4
  unfold rskipN
  rw [← h4, ← h3]
  exact ⟨rfl, h2.symm⟩
theorem SkAt.lacks {s : List UInt8} {k : Nat} {feed : Bool} (h : SkAt s k feed) (hb : blankSz (s.drop k) < 0) : rskipN s = -1 - (k : Int) ∧ rskipB s = feed := by
  obtain ⟨h1, h2, h3, h4⟩ := h
  have e : skip s k false feed = ⟨k, false, feed, true⟩ := by
    unfold skip
    rw [show s.length + 1 - k = (s.length - k) + 1 by omega]
    unfold skipF
    rw [if_neg (by omega), if_pos hb]
  rw [e] at h2 h3 h4
  unfold rskipN
  rw [← h4, ← h3]
  exact ⟨rfl, h2.symm⟩

theorem drop_cons (s : List UInt8) (k : Nat) (h : k < s.length) : s.drop k = byteAt s k :: s.drop (k + 1) := by
  rw [List.drop_eq_getElem_cons h]
  congr 1
  exact (byteAt_eq s k _ (List.getElem?_eq_getElem h)).symm
/-- How much is blank at byte k. -/
theorem blank_at (s : List UInt8) (k : Nat) (h : k < s.length) : blankSz (s.drop k) =
    if byteAt s k = 32 ∨ byteAt s k = 9 ∨ byteAt s k = 10 ∨ byteAt s k = 13 then 1
    else if byteAt s k = 47 ∧ k + 1 < s.length ∧ byteAt s (k + 1) = 47 then ((spanN (fun i => byteAt s (k + i) != 10) (s.length - k) : Nat) : Int)
    else if byteAt s k = 47 ∧ k + 1 < s.length ∧ byteAt s (k + 1) = 42 then (match noteEnd (s.drop (k + 2)) 0 with | some m => (m : Int) + 4 | none => -1)
    else 0 := by
  have hh : ∀ c, ((s.drop (k + 1)).head? = some c) ↔ (k + 1 < s.length ∧ byteAt s (k + 1) = c) := fun c => by
    by_cases h1 : k + 1 < s.length
    · rw [drop_cons s (k + 1) h1]; simp [h1]
    · rw [List.drop_of_length_le (by omega)]; simp [h1]
  have hb : ∀ i, byteAt (byteAt s k :: s.drop (k + 1)) i = byteAt s (k + i) := fun i => by rw [← drop_cons s k h, byteAt_drop]
  rw [drop_cons s k h]
  unfold blankSz
  simp only [hh, hb, List.tail_drop, List.length_cons, List.length_drop]
  rw [show s.length - (k + 1) + 1 = s.length - k by omega]
  first | done | rfl
theorem noteEnd_some : ∀ (m : Nat) (l : List UInt8) (i : Nat), (∀ j, j < m → ¬(byteAt l j = 42 ∧ byteAt l (j + 1) = 47)) → byteAt l m = 42 → byteAt l (m + 1) = 47 → m + 1 < l.length → noteEnd l i = some (i + m)
  | 0, c :: d :: r, i, _, h1, h2, _ => by
    have h1 : c = 42 := h1
    have h2 : d = 47 := h2
    simp [noteEnd, h1, h2]
  | m + 1, c :: d :: r, i, hn, h1, h2, hl => by
    have h0 : ¬(c = 42 ∧ d = 47) := hn 0 (by omega)
    rw [noteEnd, if_neg h0, noteEnd_some m (d :: r) (i + 1) (fun j hj => hn (j + 1) (by omega)) h1 h2 (by simp at hl ⊢; omega)]
    congr 1; omega
  | m, [], i, _, _, _, hl => by simp at hl
  | m, [c], i, _, _, _, hl => by simp at hl
theorem noteEnd_none : ∀ (l : List UInt8) (i : Nat), (∀ j, j + 1 < l.length → ¬(byteAt l j = 42 ∧ byteAt l (j + 1) = 47)) → noteEnd l i = none
  | [], _, _ => rfl
  | [_], _, _ => rfl
  | c :: d :: r, i, h => by
    have h0 : ¬(c = 42 ∧ d = 47) := h 0 (by simp)
    rw [noteEnd, if_neg h0]
    exact noteEnd_none (d :: r) (i + 1) (fun j hj => h (j + 1) (by simp at hj ⊢; omega))

/-- The longest sign of up to three bytes that stands first. -/
def sgnUp (s : List UInt8) : Nat → Nat
  | 0 => 0
  | n + 1 => if n + 1 ≤ s.length ∧ s.take (n + 1) ∈ signsL then n + 1 else sgnUp s n
theorem pre_take (p s : List UInt8) : p.isPrefixOf s = true ↔ (p.length ≤ s.length ∧ s.take p.length = p) := by
  rw [List.isPrefixOf_iff_prefix]
  constructor
  · intro h
    exact ⟨h.length_le, (List.prefix_iff_eq_take.1 h).symm⟩
  · intro h
    exact List.prefix_iff_eq_take.2 h.2.symm
theorem find_len (s : List UInt8) (n : Nat) : ∀ (L : List (List UInt8)), (∀ p ∈ L, p.length = n) → (L.find? (·.isPrefixOf s)).map List.length = if n ≤ s.length ∧ s.take n ∈ L then some n else none
  | [], _ => by simp
  | p :: L, h => by
    have hp := h p (by simp)
    have ih := find_len s n L (fun q hq => h q (by simp [hq]))
    rw [List.find?_cons]
    by_cases e : p.isPrefixOf s = true
    · rw [e]
      have := (pre_take p s).1 e
      rw [hp] at this
      simp [hp, this.1, this.2]
    · have e2 : p.isPrefixOf s = false := Bool.eq_false_iff.2 e
      rw [e2]
      simp only
      rw [ih]
      have : ¬(n ≤ s.length ∧ s.take n = p) := fun x => e ((pre_take p s).2 (by rw [hp]; exact x))
      by_cases hn : n ≤ s.length
      · simp only [hn, true_and] at this ⊢
        simp [this]
      · simp [hn]
def signs3 : List (List UInt8) := signsL.take 3
def signs2 : List (List UInt8) := (signsL.drop 3).take 20
def signs1 : List (List UInt8) := signsL.drop 23
theorem signSz_key (s : List UInt8) : signSz s = ((signsL.find? (·.isPrefixOf s)).map List.length).getD 0 := by
  unfold signSz
  cases signsL.find? (·.isPrefixOf s) <;> rfl
theorem sign_up (s : List UInt8) : signSz s = sgnUp s 3 := by
  have e : signsL = signs3 ++ (signs2 ++ signs1) := by decide
  have h3 : ∀ p ∈ signs3, p.length = 3 := by decide
  have h2 : ∀ p ∈ signs2, p.length = 2 := by decide
  have h1 : ∀ p ∈ signs1, p.length = 1 := by decide
  have mem : ∀ n, n ≤ s.length → (s.take n ∈ signsL ↔ (s.take n ∈ signs3 ∨ s.take n ∈ signs2 ∨ s.take n ∈ signs1)) := fun n _ => by rw [e]; simp
  have len : ∀ n, n ≤ s.length → (s.take n).length = n := fun n hn => by rw [List.length_take]; omega
  have m3 : (3 ≤ s.length ∧ s.take 3 ∈ signsL) ↔ (3 ≤ s.length ∧ s.take 3 ∈ signs3) := by
    refine and_congr_right (fun hn => ?_)
    rw [mem 3 hn]
    refine ⟨fun h => ?_, .inl⟩
    rcases h with h | h | h
    · exact h
    · have := h2 _ h; rw [len 3 hn] at this; omega
    · have := h1 _ h; rw [len 3 hn] at this; omega
  have m2 : (2 ≤ s.length ∧ s.take 2 ∈ signsL) ↔ (2 ≤ s.length ∧ s.take 2 ∈ signs2) := by
    refine and_congr_right (fun hn => ?_)
    rw [mem 2 hn]
    refine ⟨fun h => ?_, fun h => .inr (.inl h)⟩
    rcases h with h | h | h
    · have := h3 _ h; rw [len 2 hn] at this; omega
    · exact h
    · have := h1 _ h; rw [len 2 hn] at this; omega
  have m1 : (1 ≤ s.length ∧ s.take 1 ∈ signsL) ↔ (1 ≤ s.length ∧ s.take 1 ∈ signs1) := by
    refine and_congr_right (fun hn => ?_)
    rw [mem 1 hn]
    refine ⟨fun h => ?_, fun h => .inr (.inr h)⟩
    rcases h with h | h | h
    · have := h3 _ h; rw [len 1 hn] at this; omega
    · have := h2 _ h; rw [len 1 hn] at this; omega
    · exact h
  rw [signSz_key, e, List.find?_append, List.find?_append]
  have f3 := find_len s 3 signs3 h3
  have f2 := find_len s 2 signs2 h2
  have f1 := find_len s 1 signs1 h1
  have e3 : sgnUp s 3 = if 3 ≤ s.length ∧ s.take 3 ∈ signsL then 3 else if 2 ≤ s.length ∧ s.take 2 ∈ signsL then 2 else if 1 ≤ s.length ∧ s.take 1 ∈ signsL then 1 else 0 := rfl
  rw [e3]
  simp only [m3, m2, m1]
  clear m3 m2 m1 e3 mem
  cases o3 : signs3.find? (·.isPrefixOf s) with
  | some x =>
    rw [o3] at f3
    by_cases c : 3 ≤ s.length ∧ s.take 3 ∈ signs3
    · rw [if_pos c] at f3 ⊢; simpa using f3
    · rw [if_neg c] at f3; simp at f3
  | none =>
    rw [o3] at f3
    by_cases c : 3 ≤ s.length ∧ s.take 3 ∈ signs3
    · rw [if_pos c] at f3; simp at f3
    · rw [if_neg c]
      cases o2 : signs2.find? (·.isPrefixOf s) with
      | some x =>
        rw [o2] at f2
        by_cases c2 : 2 ≤ s.length ∧ s.take 2 ∈ signs2
        · rw [if_pos c2] at f2 ⊢; simpa using f2
        · rw [if_neg c2] at f2; simp at f2
      | none =>
        rw [o2] at f2
        by_cases c2 : 2 ≤ s.length ∧ s.take 2 ∈ signs2
        · rw [if_pos c2] at f2; simp at f2
        · rw [if_neg c2]
          simp only [Option.none_or]
          rw [f1]
          split <;> rfl

/-- What the document's own Piece answers of a text that is not empty. -/
def rpieceK (s : List UInt8) (path : Bool) : Int := if (pick (sizes s path)).1 = -1 then (if byteAt s 0 = 34 then 4 else 3) else (pick (sizes s path)).1
def rpieceT (s : List UInt8) (path : Bool) : List UInt8 := s.take (pick (sizes s path)).2.toNat
theorem pick_skip (k n : Int) (L : List (Int × Int)) (h : n = 0) : pick ((k, n) :: L) = pick L := by
  subst h; rfl
theorem pick_take (k n : Int) (L : List (Int × Int)) (h : 0 < n) : pick ((k, n) :: L) = (k, n) := by
  rw [pick, if_neg (by omega), if_pos h]
theorem nameSz_zero (s : List UInt8) (h : letB (byteAt s 0) = false) : nameSz s = 0 := by
  unfold nameSz; split
  · rfl
  · rw [h]; rfl
theorem piece_name (s : List UInt8) (path : Bool) (hs : s ≠ []) (h : letB (byteAt s 0) = true) : rpieceK s path = 1 ∧ rpieceT s path = s.take (nameSz s) := by
  have h1 : 0 < nameSz s := by
    have := spanN_le (fun i => wordB (byteAt s i)) s.length (List.length_pos_iff.2 hs)
    unfold nameSz; rw [if_neg hs, if_pos h]; omega
  have e : pick (sizes s path) = (1, (nameSz s : Int)) := pick_take _ _ _ (by omega)
  unfold rpieceK rpieceT
  rw [e]
  exact ⟨rfl, rfl⟩
theorem piece_num (s : List UInt8) (path : Bool) (hs : s ≠ []) (h0 : letB (byteAt s 0) = false) (h : startsNum s = true) : rpieceK s path = 2 ∧ rpieceT s path = s.take (numSz s) := by
  have h1 : 0 < numSz s := by
    have := spanN_le (numB s) s.length (List.length_pos_iff.2 hs)
    unfold numSz; rw [if_pos h]; omega
  have e : pick (sizes s path) = (2, (numSz s : Int)) := by
    unfold sizes
    rw [pick_skip _ _ _ (by rw [nameSz_zero s h0]; rfl)]
    exact pick_take _ _ _ (by omega)
  unfold rpieceK rpieceT
  rw [e]
  exact ⟨rfl, rfl⟩
theorem numSz_zero (s : List UInt8) (h : startsNum s = false) : numSz s = 0 := by unfold numSz; rw [h]; rfl
theorem quot_first (q : UInt8) (s : List UInt8) (hs : s ≠ []) (h : byteAt s 0 = q) : quotSz q s = quotGo q (s.drop 1) 1 := by
  cases s with
  | nil => exact absurd rfl hs
  | cons c r =>
    have h : c = q := h
    simp [quotSz, h]
theorem quot_other (q : UInt8) (s : List UInt8) (h : byteAt s 0 ≠ q) : quotSz q s = 0 := by
  cases s with
  | nil => rfl
  | cons c r =>
    have h : c ≠ q := h
    simp [quotSz, h]
theorem piece_text (s : List UInt8) (path : Bool) (hs : s ≠ []) (h : byteAt s 0 = 34) : rpieceK s path = 4 ∧ rpieceT s path = s.take (quotSz 34 s).toNat := by
  have h0 : letB (byteAt s 0) = false := by rw [h]; rfl
  have h1 : startsNum s = false := by
    cases s with
    | nil => rfl
    | cons c r => have h : c = 34 := h; subst h; rfl
  have hq := quotGo_le 34 (s.drop 1) 1
  have e : pick (sizes s path) = pick [(4, quotSz 34 s), (3, quotSz 39 s), (7, if path then (pathSz s : Int) else 0), (5, signSz s)] := by
    unfold sizes
    rw [pick_skip _ _ _ (by rw [nameSz_zero s h0]; rfl), pick_skip _ _ _ (by rw [numSz_zero s h1]; rfl)]
  rw [← quot_first 34 s hs h] at hq
  unfold rpieceK rpieceT
  rw [e]
  rcases hq with hq | hq
  · rw [pick, hq]; exact ⟨by simp [h], rfl⟩
  · rw [pick_take _ _ _ (by omega)]; exact ⟨rfl, rfl⟩
theorem piece_char (s : List UInt8) (path : Bool) (hs : s ≠ []) (h : byteAt s 0 = 39) : rpieceK s path = 3 ∧ rpieceT s path = s.take (quotSz 39 s).toNat := by
  have h0 : letB (byteAt s 0) = false := by rw [h]; rfl
  have h1 : startsNum s = false := by
    cases s with
    | nil => rfl
    | cons c r => have h : c = 39 := h; subst h; rfl
  have hq := quotGo_le 39 (s.drop 1) 1
  have e : pick (sizes s path) = pick [(3, quotSz 39 s), (7, if path then (pathSz s : Int) else 0), (5, signSz s)] := by
    unfold sizes
    rw [pick_skip _ _ _ (by rw [nameSz_zero s h0]; rfl), pick_skip _ _ _ (by rw [numSz_zero s h1]; rfl), pick_skip _ _ _ (quot_other 34 s (by rw [h]; decide))]
  rw [← quot_first 39 s hs h] at hq
  unfold rpieceK rpieceT
  rw [e]
  rcases hq with hq | hq
  · rw [pick, hq]; exact ⟨by simp [h], rfl⟩
  · rw [pick_take _ _ _ (by omega)]; exact ⟨rfl, rfl⟩
theorem piece_path (s : List UInt8) (h0 : letB (byteAt s 0) = false) (h1 : startsNum s = false) (h34 : byteAt s 0 ≠ 34) (h39 : byteAt s 0 ≠ 39) (h : 0 < pathSz s) : rpieceK s true = 7 ∧ rpieceT s true = s.take (pathSz s) := by
  have e : pick (sizes s true) = (7, (pathSz s : Int)) := by
    unfold sizes
    rw [pick_skip _ _ _ (by rw [nameSz_zero s h0]; rfl), pick_skip _ _ _ (by rw [numSz_zero s h1]; rfl), pick_skip _ _ _ (quot_other 34 s h34), pick_skip _ _ _ (quot_other 39 s h39)]
    exact pick_take _ _ _ (by simpa using h)
  unfold rpieceK rpieceT
  rw [e]
  exact ⟨rfl, rfl⟩
theorem piece_sign (s : List UInt8) (path : Bool) (h0 : letB (byteAt s 0) = false) (h1 : startsNum s = false) (h34 : byteAt s 0 ≠ 34) (h39 : byteAt s 0 ≠ 39) (hp : path = true → pathSz s = 0) :
    (0 < signSz s → rpieceK s path = 5 ∧ rpieceT s path = s.take (signSz s)) ∧ (signSz s = 0 → rpieceK s path = 6 ∧ rpieceT s path = s.take 1) := by
  have e : pick (sizes s path) = pick [(5, (signSz s : Int))] := by
    unfold sizes
    rw [pick_skip _ _ _ (by rw [nameSz_zero s h0]; rfl), pick_skip _ _ _ (by rw [numSz_zero s h1]; rfl), pick_skip _ _ _ (quot_other 34 s h34), pick_skip _ _ _ (quot_other 39 s h39)]
    exact pick_skip _ _ _ (by cases path; rfl; simp [hp rfl])
  unfold rpieceK rpieceT
  rw [e]
  refine ⟨fun h => ?_, fun h => ?_⟩
  · rw [pick_take _ _ _ (by omega)]; exact ⟨rfl, rfl⟩
  · rw [pick_skip _ _ _ (by omega)]; exact ⟨rfl, rfl⟩

/-- The document's own Name. -/
theorem name_yes (l : List UInt8) (h0 : l ≠ []) (h : ∀ i, i < l.length → (letB (byteAt l i) = true ∨ (i ≠ 0 ∧ digB (byteAt l i) = true))) : decide (l ≠ []) && decide (nameSz l = l.length) := by
  have hp := List.length_pos_iff.2 h0
  have hl : letB (byteAt l 0) = true := by
    rcases h 0 hp with h | h
    · exact h
    · exact absurd rfl h.1
  have : nameSz l = l.length := by
    unfold nameSz
    rw [if_neg h0, if_pos hl]
    refine spanN_eq _ _ _ hp (Nat.le_refl _) (fun i _ hi => ?_) (fun h => by omega)
    rcases h i hi with h | h
    · simp [wordB, h]
    · simp [wordB, h.2]
  simp [h0, this]
theorem name_no (l : List UInt8) (i : Nat) (hi : i < l.length) (h1 : letB (byteAt l i) = false) (h2 : i = 0 ∨ digB (byteAt l i) = false) : (decide (l ≠ []) && decide (nameSz l = l.length)) = false := by
  have h0 : l ≠ [] := fun e => by rw [e] at hi; simp at hi
  have : nameSz l ≠ l.length := by
    by_cases hz : i = 0
    · subst hz
      rw [nameSz_zero l h1]; omega
    · have h2 : digB (byteAt l i) = false := by
        rcases h2 with h | h
        · exact absurd h hz
        · exact h
      unfold nameSz
      rw [if_neg h0]
      split
      · obtain ⟨k, k1, k2, k3⟩ := spanN_ex (fun i => wordB (byteAt l i)) (l.length - 1) 1
        have hk : 1 + k ≤ i := by
          rcases Nat.lt_or_ge i (1 + k) with h | h
          · have := k2 i (by omega) h
            simp [wordB, h1, h2] at this
          · exact h
        rw [spanN_eq _ _ (k + 1) (by omega) (by omega) (fun j a b => k2 j a (by omega)) (fun hk => by rw [show k + 1 = 1 + k by omega]; exact k3 (by omega))]
        omega
      · omega
  simp [this]

/-- Where the document's own Tokens stands, at byte i, behind some pieces. -/
def PcAt (s : List UInt8) (i : Nat) (acc : List Pc) : Prop := i ≤ s.length ∧ (i == 0) = acc.isEmpty ∧ ∃ f, s.length + 1 ≤ f + i ∧ pcs s = pcsF s f i acc
theorem PcAt.start (s : List UInt8) : PcAt s 0 [] := ⟨Nat.zero_le _, rfl, s.length + 1, Nat.le_refl _, rfl⟩
theorem skip_of (s : List UInt8) (i : Nat) (fi : Bool) (hi : i ≤ s.length) : skip s i false fi = ⟨i + (skip (s.drop i) 0 false false).to, decide (0 < (skip (s.drop i) 0 false false).to), rskipB (s.drop i) || fi, (skip (s.drop i) 0 false false).lacks⟩ := by
  rw [skip_shift s i false fi hi]
  obtain ⟨h1, h2, h3, h4⟩ := skip_flags (s.drop i) 0 false fi
  rw [h4, h1, h2, h3]
  simp [rskipB, Bool.or_comm]
theorem PcAt.lacks {s : List UInt8} {i : Nat} {acc : List Pc} (h : PcAt s i acc) (hn : rskipN (s.drop i) < 0) : pcs s = .inl ((i : Int) - 1 - rskipN (s.drop i)).toNat ∧ ((i : Int) - 1 - rskipN (s.drop i)).toNat ≤ s.length ∧ 0 ≤ (i : Int) - 1 - rskipN (s.drop i) := by
  obtain ⟨hi, hz, f, hf, hp⟩ := h
  obtain ⟨f, rfl⟩ : ∃ g, f = g + 1 := ⟨f - 1, by omega⟩
  have hto := (skip_to (s.drop i) 0 false false (Nat.zero_le _)).2
  rw [List.length_drop] at hto
  unfold rskipN at hn ⊢
  rw [hp]
  unfold pcsF
  rw [skip_of s i _ hi]
  cases hl : (skip (s.drop i) 0 false false).lacks with
  | false => rw [hl] at hn; simp at hn; omega
  | true =>
    simp only [if_true]
    refine ⟨?_, by omega, by omega⟩
    congr 1
    omega
theorem PcAt.done {s : List UInt8} {i : Nat} {acc : List Pc} (h : PcAt s i acc) (hn : 0 ≤ rskipN (s.drop i)) (he : (s.length : Int) ≤ i + rskipN (s.drop i)) : pcs s = .inr acc := by
  obtain ⟨hi, hz, f, hf, hp⟩ := h
  obtain ⟨f, rfl⟩ : ∃ g, f = g + 1 := ⟨f - 1, by omega⟩
  unfold rskipN at hn he
  rw [hp]
  unfold pcsF
  rw [skip_of s i _ hi]
  cases hl : (skip (s.drop i) 0 false false).lacks with
  | true => rw [hl] at hn; simp at hn; omega
  | false =>
    rw [hl] at he
    simp only [Bool.false_eq_true, if_false] at he ⊢
    rw [if_pos (by omega)]
/-- Whether the next one is a line's first; whether a path may stand there; which one it is. -/
def rfirst (s : List UInt8) (i : Nat) (acc : List Pc) : Bool := rskipB (s.drop i) || acc.isEmpty
def rpath (s : List UInt8) (i : Nat) (acc : List Pc) : Bool := !rfirst s i acc && behind s acc
theorem PcAt.next {s : List UInt8} {i z : Nat} {acc : List Pc} (h : PcAt s i acc) (hn : rskipN (s.drop i) = (z : Nat)) (hlt : i + z < s.length) :
    ((pick (sizes (s.drop (i + z)) (rpath s i acc))).1 = -1 → pcs s = .inl (i + z)) ∧
    ((pick (sizes (s.drop (i + z)) (rpath s i acc))).1 ≠ -1 → 0 < (pick (sizes (s.drop (i + z)) (rpath s i acc))).2.toNat ∧ i + z + (pick (sizes (s.drop (i + z)) (rpath s i acc))).2.toNat ≤ s.length ∧
      PcAt s (i + z + (pick (sizes (s.drop (i + z)) (rpath s i acc))).2.toNat) (acc ++ [⟨(pick (sizes (s.drop (i + z)) (rpath s i acc))).1, i + z, i + z + (pick (sizes (s.drop (i + z)) (rpath s i acc))).2.toNat, decide (0 < z), rfirst s i acc⟩])) := by
  obtain ⟨hi, hz, f, hf, hp⟩ := h
  obtain ⟨f, rfl⟩ : ∃ g, f = g + 1 := ⟨f - 1, by omega⟩
  unfold pcsF at hp
  rw [skip_of s i _ hi] at hp
  unfold rskipN at hn
  cases hl : (skip (s.drop i) 0 false false).lacks with
  | true => rw [hl] at hn; simp at hn; omega
  | false =>
    rw [hl] at hn hp
    simp only [Bool.false_eq_true, if_false] at hn hp
    have hz2 : (skip (s.drop i) 0 false false).to = z := by omega
    rw [hz2, hz] at hp
    rw [if_neg (by omega)] at hp
    change pcs s = (if (pick (sizes (s.drop (i + z)) (rpath s i acc))).1 = -1 then Sum.inl (i + z) else pcsF s f (i + z + (pick (sizes (s.drop (i + z)) (rpath s i acc))).2.toNat) (acc ++ [⟨(pick (sizes (s.drop (i + z)) (rpath s i acc))).1, i + z, i + z + (pick (sizes (s.drop (i + z)) (rpath s i acc))).2.toNat, decide (0 < z), rfirst s i acc⟩])) at hp
    have hle := pick_le (s.drop (i + z)) (rpath s i acc) (by rw [List.length_drop]; omega)
    rw [List.length_drop] at hle
    refine ⟨fun h => by rw [if_pos h] at hp; exact hp, fun h => ?_⟩
    rw [if_neg h] at hp
    rcases hle with hle | hle
    · exact absurd hle h
    · refine ⟨by omega, by omega, by omega, ?_, f, by omega, hp⟩
      have : (i + z + (pick (sizes (s.drop (i + z)) (rpath s i acc))).2.toNat == 0) = false := by simp; omega
      rw [this]; simp
theorem rpiece_empty (s : List UInt8) (path : Bool) (hs : s ≠ []) : (rpieceT s path = [] ↔ (pick (sizes s path)).1 = -1) ∧ ((pick (sizes s path)).1 = -1 → (pick (sizes s path)).2 = 0) := by
  have hp := List.length_pos_iff.2 hs
  have h0 : ∀ L : List (Int × Int), (∀ p ∈ L, p.1 ≠ -1) → (pick L).1 = -1 → (pick L).2 = 0 := fun L => by
    induction L with
    | nil => intro _ h; simp [pick] at h
    | cons x L ih =>
      obtain ⟨k, n⟩ := x
      intro hk h
      unfold pick at h ⊢
      by_cases e1 : n = -1
      · rw [if_pos e1]
      · rw [if_neg e1] at h ⊢
        by_cases e2 : 0 < n
        · rw [if_pos e2] at h; exact absurd h (hk (k, n) (by simp))
        · rw [if_neg e2] at h ⊢
          exact ih (fun p hp => hk p (by simp [hp])) h
  have h2 := h0 (sizes s path) (fun p hp => (sizes_of s path p hp).1)
  refine ⟨⟨fun h => ?_, fun h => ?_⟩, h2⟩
  · rcases pick_le s path hp with h3 | h3
    · exact h3
    · unfold rpieceT at h
      have := congrArg List.length h
      rw [List.length_take] at this
      rw [List.length_nil] at this
      omega
  · unfold rpieceT; rw [h2 h]; rfl
end
end Go.Proofs.Ytkfbhknhjpmomaa
