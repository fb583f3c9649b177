/- Plain facts: pieces stand one behind the other; what a token has of the text, joined, is its text. -/
import Derived.Test.YtkfbhknhjpmomaaLxTokens
namespace Go.Proofs.Ytkfbhknhjpmomaa
open Go.RowKit Go.Shelf

theorem Went.each {l : List UInt8} {i : Nat} {ps : List Nat} (h : Went l i ps) : ∀ (j : Nat) p, ps[j]? = some p → Went l p (ps.take j) ∧ goneAt l p = 0 ∧ p < l.length := by
  induction h using Went.rounds with
  | start => intro j p hp; simp at hp
  | gone _ _ ih => exact ih
  | @keep i ps hw hi hg ih =>
    intro j p hp
    by_cases hj : j < ps.length
    · rw [List.getElem?_append_left hj] at hp
      rw [List.take_append_of_le_length (by omega)]
      exact ih j p hp
    · rw [List.getElem?_append_right (by omega)] at hp
      cases h0 : j - ps.length with
      | zero =>
        rw [h0] at hp
        simp at hp
        subst hp
        have : j = ps.length := by omega
        subst this
        rw [List.take_append_of_le_length (by omega), List.take_length]
        exact ⟨hw, hg, hi⟩
      | succ m => rw [h0] at hp; simp at hp

theorem take_get (l : List UInt8) (e i : Nat) : (l.take e)[i]? = if i < e then l[i]? else none := by
  rw [List.getElem?_take]
theorem goneAt_take_zero (l : List UInt8) (e i : Nat) (h : goneAt l i = 0) : goneAt (l.take e) i = 0 := by
  have H : ∀ k c, (l.take e)[k]? = some c → l[k]? = some c := fun k c hk => by
    rw [take_get] at hk
    split at hk
    · exact hk
    · cases hk
  unfold goneAt at h ⊢
  split at h
  · cases h
  · rename_i n1
    split at h
    · cases h
    · rename_i n2
      split at h
      · cases h
      · rename_i n3
        rw [if_neg (fun x => n1 ⟨H _ _ x.1, H _ _ x.2⟩), if_neg (fun x => n2 ⟨H _ _ x.1, H _ _ x.2.1, H _ _ x.2.2⟩), if_neg (fun x => n3 ⟨H _ _ x.1, H _ _ x.2⟩)]
theorem goneAt_take (l : List UInt8) (e i : Nat) (h : i + goneAt l i < e) (hg : goneAt l i ≠ 0) : goneAt (l.take e) i = goneAt l i := by
  have H : ∀ k, k < e → (l.take e)[k]? = l[k]? := fun k hk => by rw [take_get, if_pos hk]
  have hpos := Nat.pos_of_ne_zero hg
  unfold goneAt
  rw [H i (by omega), H (i + 1) (by omega)]
  by_cases h2 : i + 2 < e
  · rw [H (i + 2) h2]
  · have hg1 : goneAt l i = 1 := by omega
    have n1 : ¬(l[i]? = some 92) := fun x => by
      unfold goneAt at hg1
      split at hg1
      · cases hg1
      · split at hg1
        · cases hg1
        · split at hg1
          · rename_i n3; rw [n3.1] at x; simp at x
          · cases hg1
    simp only [n1, false_and, if_false]

theorem Went.take {l : List UInt8} (e : Nat) {i : Nat} {ps : List Nat} (h : Went l i ps) : i < e → Went (l.take e) i ps := by
  induction h using Went.rounds with
  | start => exact fun _ => .start
  | @gone i ps hw hg ih =>
    intro hlt
    have h1 := ih (by omega)
    have h2 := goneAt_take l e i hlt hg
    have h3 := h1.gone (by rw [h2]; exact hg)
    rw [h2] at h3
    exact h3
  | @keep i ps hw hi hg ih =>
    intro hlt
    exact (ih (by omega)).keep (by rw [List.length_take]; omega) (goneAt_take_zero l e i hg)

/-- Up to behind a byte that stays: those ahead of it stay, and it. -/
theorem kept_take (l : List UInt8) (j p : Nat) (h : (kept l)[j]? = some p) : kept (l.take (p + 1)) = (kept l).take (j + 1) := by
  obtain ⟨h1, h2, h3⟩ := (went_kept l).each j p h
  have h4 := (h1.take (p + 1) (by omega)).keep (by rw [List.length_take]; omega) (goneAt_take_zero l (p + 1) p h2)
  have e : p + 1 = (l.take (p + 1)).length := by rw [List.length_take]; omega
  have e2 : (kept l).take (j + 1) = (kept l).take j ++ [p] := by rw [List.take_add_one, h]; rfl
  rw [e2]
  refine (Went.done ?_).symm
  rw [← e]
  exact h4

theorem goneAt_from (l : List UInt8) (a i : Nat) : goneAt (l.drop a) i = goneAt l (a + i) := by
  simp [goneAt, Nat.add_assoc]
theorem keptF_drop (l : List UInt8) (a : Nat) : ∀ f i, keptF l f (a + i) = (keptF (l.drop a) f i).map (a + ·)
  | 0, _ => rfl
  | f + 1, i => by
    have h1 := keptF_drop l a f (i + 1)
    have h2 := keptF_drop l a f (i + goneAt (l.drop a) i)
    unfold keptF
    rw [goneAt_from] at h2 ⊢
    have hd := List.length_drop (l := l) (i := a)
    by_cases hi : a + i < l.length
    · have hi2 : i < (l.drop a).length := by omega
      simp only [hi, hi2, if_true]
      by_cases hg : goneAt l (a + i) = 0
      · simp only [hg, if_true]
        rw [Nat.add_assoc, h1]; rfl
      · simp only [hg, if_false]
        rw [Nat.add_assoc, h2]
    · have hi2 : ¬i < (l.drop a).length := by omega
      simp only [hi, hi2, if_false]; rfl
theorem keptF_more (l : List UInt8) : ∀ f f' i, l.length ≤ i + f → l.length ≤ i + f' → keptF l f i = keptF l f' i
  | 0, 0, _, _, _ => rfl
  | 0, f' + 1, i, h, _ => by unfold keptF; rw [if_neg (by omega)]
  | f + 1, 0, i, _, h => by unfold keptF; rw [if_neg (by omega)]
  | f + 1, f' + 1, i, h, h' => by
    unfold keptF
    split
    · split
      · rw [keptF_more l f f' (i + 1) (by omega) (by omega)]
      · rename_i hg; have := Nat.pos_of_ne_zero hg; rw [keptF_more l f f' (i + goneAt l i) (by omega) (by omega)]
    · rfl

/-- From a byte that stays on: it and those behind it stay. -/
theorem kept_drop (l : List UInt8) (j p : Nat) (h : (kept l)[j]? = some p) : (kept (l.drop p)).map (p + ·) = (kept l).drop j := by
  obtain ⟨h1, h2, h3⟩ := (went_kept l).each j p h
  obtain ⟨f, hf, hk⟩ := h1.kept
  have hj : j < (kept l).length := (List.getElem?_eq_some_iff.1 h).1
  have e := keptF_drop l p f 0
  rw [Nat.add_zero] at e
  rw [e, keptF_more (l.drop p) f (l.drop p).length 0 (by rw [List.length_drop]; omega) (by omega)] at hk
  show (keptF (l.drop p) (l.drop p).length 0).map (p + ·) = _
  have hlen : ((kept l).take j).length = j := by rw [List.length_take]; omega
  have key : ∀ (A B C : List Nat), A = B ++ C → B.length = j → C = A.drop j := fun A B C h hB => by rw [h, List.drop_append, List.drop_of_length_le (by omega), hB, Nat.sub_self]; rfl
  exact key _ _ _ hk hlen

/-- What stands from one byte that stays up to another, joined. -/
theorem part_text (l : List UInt8) (lo hi a p : Nat) (hlo : (kept l)[lo]? = some a) (hhi : (kept l)[hi]? = some p) (hle : lo ≤ hi) :
    bytesAt ((l.take (p + 1)).drop a) (kept ((l.take (p + 1)).drop a)) = ((bytesAt l (kept l)).take (hi + 1)).drop lo := by
  have h1 := kept_take l hi p hhi
  have h2 : (kept (l.take (p + 1)))[lo]? = some a := by rw [h1, List.getElem?_take, if_pos (by omega)]; exact hlo
  have h3 := kept_drop (l.take (p + 1)) lo a h2
  have hm : bytesAt ((l.take (p + 1)).drop a) (kept ((l.take (p + 1)).drop a)) = bytesAt l ((kept ((l.take (p + 1)).drop a)).map (a + ·)) := by
    unfold bytesAt
    rw [List.map_map]
    refine List.map_congr_left (fun q hq => ?_)
    have hq2 := (went_kept ((l.take (p + 1)).drop a)).rising.2 q hq
    rw [List.length_drop, List.length_take] at hq2
    simp only [List.getD, List.getElem?_drop, List.getElem?_take, Function.comp]
    rw [if_pos (by omega)]
  rw [hm, h3, h1]
  simp [bytesAt, List.map_drop, List.map_take]

def risesTo (n : Nat) : Nat → List Pc → Prop
  | _, [] => True
  | a, p :: r => a ≤ p.lo ∧ p.lo < p.hi ∧ p.hi ≤ n ∧ risesTo n p.hi r
def endOf : Nat → List Pc → Nat
  | a, [] => a
  | _, p :: r => endOf p.hi r
theorem rises_snoc (n : Nat) (p : Pc) : ∀ (acc : List Pc) a, risesTo n a acc → endOf a acc ≤ p.lo → p.lo < p.hi → p.hi ≤ n → risesTo n a (acc ++ [p]) ∧ endOf a (acc ++ [p]) = p.hi
  | [], a, _, h1, h2, h3 => ⟨⟨h1, h2, h3, trivial⟩, rfl⟩
  | q :: r, a, h, h1, h2, h3 => by
    obtain ⟨i1, i2⟩ := rises_snoc n p r q.hi h.2.2.2 h1 h2 h3
    exact ⟨⟨h.1, h.2.1, h.2.2.1, i1⟩, i2⟩
theorem pcsF_rise (s : List UInt8) : ∀ f i acc ps, pcsF s f i acc = .inr ps → risesTo s.length 0 acc → endOf 0 acc ≤ i → i ≤ s.length → risesTo s.length 0 ps
  | 0, _, acc, ps, h, ha, _, _ => by unfold pcsF at h; injection h with h; subst h; exact ha
  | f + 1, i, acc, ps, h, ha, he, hi => by
    rw [pcsF_next] at h
    split at h
    · cases h
    · rename_i n1
      split at h
      · injection h with h; subst h; exact ha
      · rename_i n0
        obtain ⟨h1, h2, h3, h4⟩ := nextPc_in s i (behind s acc) hi n1 n0
        obtain ⟨r1, r2⟩ := rises_snoc s.length (nextPc s i (behind s acc)) acc 0 ha (by omega) h2 h3
        exact pcsF_rise s f _ _ ps h r1 (by omega) (by omega)

/-- What LexStands asks of tokens. -/
def standsT (l : List UInt8) : Int → List Tk → Prop
  | _, [] => True
  | a, t :: r => a ≤ t.lo ∧ t.lo < t.hi ∧ t.hi ≤ (l.length : Int) ∧ 0 < t.text.size ∧ bytesAt ((l.take t.hi.toNat).drop t.lo.toNat) (kept ((l.take t.hi.toNat).drop t.lo.toNat)) = t.text.data.toList ∧ standsT l t.hi r

theorem kept_up (l : List UInt8) (i j p q : Nat) (hi : (kept l)[i]? = some p) (hj : (kept l)[j]? = some q) (h : i < j) : p < q := by
  have := List.pairwise_iff_getElem.1 (went_kept l).rising.1 i j (List.getElem?_eq_some_iff.1 hi).1 (List.getElem?_eq_some_iff.1 hj).1 h
  rw [(List.getElem?_eq_some_iff.1 hi).2, (List.getElem?_eq_some_iff.1 hj).2] at this
  exact this
theorem whereI_at (l : List UInt8) (j p : Nat) (h : (kept l)[j]? = some p) : whereI (kept l ++ [l.length]) (j : Int) = (p : Int) := by
  have hj := (List.getElem?_eq_some_iff.1 h).1
  rw [← whereI_in (kept l ++ [l.length]) j (by simp; omega), List.getElem_append_left hj, (List.getElem?_eq_some_iff.1 h).2]

theorem rise_stands (file : Int) (l : List UInt8) : ∀ (ps : List Pc) (a : Nat) (A : Int), risesTo (bytesAt l (kept l)).length a ps → (∀ j p, a ≤ j → (kept l)[j]? = some p → A ≤ (p : Int)) → standsT l A (tksOf file l ps)
  | [], _, _, _, _ => trivial
  | p :: r, a, A, h, hA => by
    obtain ⟨h1, h2, h3, h4⟩ := h
    rw [bytesAt_length] at h3
    have e1 : (kept l)[p.lo]? = some (kept l)[p.lo] := List.getElem?_eq_getElem (by omega)
    have e2 : (kept l)[p.hi - 1]? = some (kept l)[p.hi - 1] := List.getElem?_eq_getElem (by omega)
    have w1 := whereI_at l _ _ e1
    have w2 := whereI_at l _ _ e2
    have hA1 := hA _ _ h1 e1
    have hle : (kept l)[p.lo] ≤ (kept l)[p.hi - 1] := by
      rcases Nat.eq_or_lt_of_le (show p.lo ≤ p.hi - 1 by omega) with h | h
      · simp [h]
      · exact Nat.le_of_lt (kept_up l _ _ _ _ e1 e2 h)
    have hlt := ((went_kept l).each _ _ e2).2.2
    have ht := part_text l p.lo (p.hi - 1) _ _ e1 e2 (by omega)
    generalize (kept l)[p.lo] = x at *
    generalize hy : (kept l)[p.hi - 1] = y at *
    rw [show (((p.hi - 1 : Nat) : Nat) : Int) = (p.hi : Int) - 1 by omega] at w2
    rw [show p.hi - 1 + 1 = p.hi by omega] at ht
    have hlen : (textOfPc (bytesAt l (kept l)) p).length = p.hi - p.lo := by
      unfold textOfPc; rw [List.length_drop, List.length_take, bytesAt_length]; omega
    refine ⟨?_, ?_, ?_, ?_, ?_, ?_⟩
    · show A ≤ whereI _ _; rw [w1]; exact hA1
    · show whereI _ _ < whereI _ _ + 1; rw [w1, w2]; omega
    · show whereI _ _ + 1 ≤ _; rw [w2]; omega
    · show 0 < (textOfPc (bytesAt l (kept l)) p).toArray.size
      rw [List.size_toArray, hlen]; omega
    · show bytesAt ((l.take (whereI _ _ + 1).toNat).drop (whereI _ _).toNat) (kept ((l.take (whereI _ _ + 1).toNat).drop (whereI _ _).toNat)) = (textOfPc (bytesAt l (kept l)) p).toArray.toList
      rw [w1, w2, show ((y : Int) + 1).toNat = y + 1 by omega, Int.toNat_natCast]
      rw [ht]; simp [textOfPc]
    · show standsT l (whereI _ _ + 1) (tksOf file l r)
      rw [w2]
      refine rise_stands file l r p.hi _ h4 (fun j q hj hq => ?_)
      have := kept_up l _ _ _ _ e2 hq (by omega)
      omega

/-- Tokens of any text stand where they say. -/
theorem toks_stand (file : Int) (l : List UInt8) : standsT l 0 (toksF file l).1 := by
  unfold toksF
  split
  · exact trivial
  · cases hp : pcs (bytesAt l (kept l)) with
    | inl k => exact trivial
    | inr ps =>
      exact rise_stands file l ps 0 0 (pcsF_rise _ _ 0 [] ps hp trivial (Nat.le_refl _) (Nat.zero_le _)) (fun j p _ _ => by omega)
theorem stands_len (l : List UInt8) : ∀ (ts : List Tk) (A : Int), standsT l A ts → ts.length = 0 ∨ A + ts.length ≤ l.length
  | [], _, _ => .inl rfl
  | t :: r, A, h => by
    obtain ⟨h1, h2, h3, _, _, h6⟩ := h
    rcases stands_len l r t.hi h6 with h | h
    · right; simp [h]; omega
    · right; simp; omega
end Go.Proofs.Ytkfbhknhjpmomaa
