/- Plain facts: what is quoted is one token. -/
import Derived.Test.YteklakpfbkcegaaGreatDoorMcB
import Derived.Test.YteklakpfbkcegaaGreatDoorLxTokens
namespace Go.Proofs.YteklakpfbkcegaaGreatDoor
open Go.RowKit

theorem goneAt_line (s : List UInt8) (h : ∀ c ∈ s, c ≠ 10) (i : Nat) : goneAt s i = 0 := by
  have H : ∀ (k : Nat) (c : UInt8), s[k]? = some c → c ≠ 10 := fun k c hk => h c (List.mem_of_getElem? hk)
  unfold goneAt
  rw [if_neg (fun e => H _ _ e.2 rfl), if_neg (fun e => H _ _ e.2.2 rfl), if_neg (fun e => H _ _ e.2 rfl)]
theorem keptF_line (s : List UInt8) (h : ∀ c ∈ s, c ≠ 10) : ∀ (f i : Nat), s.length = i + f → keptF s f i = List.range' i f
  | 0, i, _ => rfl
  | f + 1, i, hf => by
    unfold keptF
    rw [if_pos (by omega), if_pos (goneAt_line s h i), keptF_line s h f (i + 1) (by omega)]
    rfl
theorem bytes_line (s : List UInt8) (h : ∀ c ∈ s, c ≠ 10) : bytesAt s (kept s) = s := by
  unfold kept
  rw [keptF_line s h s.length 0 (by omega)]
  unfold bytesAt
  apply List.ext_getElem
  · simp
  · intro i h1 h2
    simp [List.getD, h2]
/-- Bytes that may stand between quotes. -/
def goodQ : List UInt8 → Bool
  | [] => true
  | [c] => c != 10 && c != 34 && c != 92
  | c :: d :: r => if c == 92 then d != 10 && goodQ r else c != 10 && c != 34 && goodQ (d :: r)
theorem goodQ_append : ∀ (a b : List UInt8), goodQ a = true → goodQ b = true → goodQ (a ++ b) = true
  | [], b, _, hb => hb
  | [c], [], ha, _ => ha
  | [c], d :: r, ha, hb => by
    simp only [goodQ, Bool.and_eq_true, bne_iff_ne] at ha
    have hc : (c == 92) = false := by simpa using ha.2
    show goodQ (c :: d :: r) = true
    unfold goodQ
    rw [hc]
    simp [ha.1.1, ha.1.2, hb]
  | c :: d :: r, b, ha, hb => by
    show goodQ (c :: d :: (r ++ b)) = true
    unfold goodQ at ha ⊢
    cases hc : (c == 92) with
    | true =>
      rw [hc] at ha
      simp only [if_true, Bool.and_eq_true] at ha ⊢
      exact ⟨ha.1, goodQ_append r b ha.2 hb⟩
    | false =>
      rw [hc] at ha
      simp only [Bool.false_eq_true, if_false, Bool.and_eq_true] at ha ⊢
      exact ⟨ha.1, goodQ_append (d :: r) b ha.2 hb⟩
theorem quotGo_good : ∀ (l : List UInt8) (i : Nat), goodQ l = true → quotGo 34 (l ++ [34]) i = ((i + l.length + 1 : Nat) : Int)
  | [], i, _ => by simp [quotGo]
  | [c], i, h => by
    simp only [goodQ, Bool.and_eq_true, bne_iff_ne] at h
    show quotGo 34 (c :: 34 :: []) i = _
    unfold quotGo
    rw [if_neg h.1.1, if_neg h.1.2, if_neg (fun e => h.2 e.1)]
    simp [quotGo]
  | c :: d :: r, i, h => by
    show quotGo 34 (c :: d :: (r ++ [34])) i = _
    unfold goodQ at h
    unfold quotGo
    cases hc : (c == 92) with
    | true =>
      rw [hc] at h
      have hc' : c = 92 := by simpa using hc
      subst hc'
      simp only [if_true, Bool.and_eq_true, bne_iff_ne] at h
      rw [if_neg (by decide), if_neg (by decide), if_pos ⟨rfl, h.1⟩, quotGo_good r (i + 2) h.2]
      simp; omega
    | false =>
      rw [hc] at h
      have hc' : c ≠ 92 := by simpa using hc
      simp only [Bool.false_eq_true, if_false, Bool.and_eq_true, bne_iff_ne] at h
      have := quotGo_good (d :: r) (i + 1) h.2
      rw [if_neg h.1.1, if_neg h.1.2, if_neg (fun e => hc' e.1)]
      rw [show d :: (r ++ [34]) = d :: r ++ [34] from rfl, this]
      simp; omega
theorem goodQ_line : ∀ (l : List UInt8), goodQ l = true → ∀ c ∈ l, c ≠ 10
  | [], _, c, hc => by cases hc
  | [x], h, c, hc => by
    simp only [goodQ, Bool.and_eq_true, bne_iff_ne] at h
    rw [List.mem_singleton] at hc
    subst hc
    exact h.1.1
  | x :: d :: r, h, c, hc => by
    unfold goodQ at h
    cases hx : (x == 92) with
    | true =>
      rw [hx] at h
      have hx' : x = 92 := by simpa using hx
      simp only [if_true, Bool.and_eq_true, bne_iff_ne] at h
      rcases List.mem_cons.1 hc with rfl | hc
      · rw [hx']; decide
      · rcases List.mem_cons.1 hc with rfl | hc
        · exact h.1
        · exact goodQ_line r h.2 c hc
    | false =>
      rw [hx] at h
      simp only [Bool.false_eq_true, if_false, Bool.and_eq_true, bne_iff_ne] at h
      rcases List.mem_cons.1 hc with rfl | hc
      · exact h.1.1
      · exact goodQ_line (d :: r) h.2 c hc
theorem goodQ_plain : ∀ (l : List UInt8), (∀ c ∈ l, c ≠ 10 ∧ c ≠ 34 ∧ c ≠ 92) → goodQ l = true
  | [], _ => rfl
  | c :: r, h => by
    have h1 := h c (List.mem_cons_self ..)
    exact goodQ_append [c] r (by simp [goodQ, h1]) (goodQ_plain r fun x hx => h x (List.mem_cons_of_mem _ hx))
theorem goodQ_esc : ∀ (l : List UInt8), (∀ c ∈ l, c ≠ 10) → goodQ (escS l) = true
  | [], _ => rfl
  | c :: r, h => by
    have h1 := h c (List.mem_cons_self ..)
    have e : escS (c :: r) = (if c == 34 || c == 92 then [92, c] else [c]) ++ escS r := by simp [escS]
    rw [e]
    refine goodQ_append _ _ ?_ (goodQ_esc r fun x hx => h x (List.mem_cons_of_mem _ hx))
    by_cases hq : (c == 34 || c == 92) = true
    · rw [if_pos hq]; simp [goodQ, h1]
    · rw [if_neg hq]
      have : c ≠ 34 ∧ c ≠ 92 := by simpa using hq
      simp [goodQ, h1, this]
theorem escS_ge : ∀ (l : List UInt8), l.length ≤ (escS l).length
  | [] => Nat.zero_le _
  | c :: r => by
    have e : escS (c :: r) = (if c == 34 || c == 92 then [92, c] else [c]) ++ escS r := by simp [escS]
    have := escS_ge r
    rw [e, List.length_append]
    split <;> simp <;> omega

theorem pick_mem : ∀ (ss : List (Int × Int)), (pick ss).1 ≠ -1 → (pick ss ∈ ss ∧ 0 < (pick ss).2) ∨ pick ss = (6, 1)
  | [], _ => .inr rfl
  | (k, n) :: r, h => by
    unfold pick at h ⊢
    by_cases h1 : n = -1
    · rw [if_pos h1] at h; exact absurd rfl h
    · rw [if_neg h1] at h ⊢
      by_cases h2 : 0 < n
      · rw [if_pos h2]; exact .inl ⟨List.mem_cons_self .., h2⟩
      · rw [if_neg h2] at h ⊢
        rcases pick_mem r h with ⟨a, b⟩ | a
        · exact .inl ⟨List.mem_cons_of_mem _ a, b⟩
        · exact .inr a
theorem spanN_all (q : Nat → Bool) (n i : Nat) (h1 : 1 ≤ i) (hi : i < spanN q n) : q i = true := by
  unfold spanN at hi
  have hlt : i - 1 < ((List.range' 1 (n - 1)).takeWhile q).length := by omega
  have hm := List.getElem_mem hlt
  have hp : ∀ x ∈ (List.range' 1 (n - 1)).takeWhile q, q x = true := fun x hx => by
    have := List.all_takeWhile (l := List.range' 1 (n - 1)) (p := q)
    exact List.all_eq_true.1 this x hx
  have he : ((List.range' 1 (n - 1)).takeWhile q)[i - 1] = i := by
    have hpre := List.takeWhile_prefix (l := List.range' 1 (n - 1)) q
    have := hpre.getElem hlt
    rw [this, List.getElem_range']
    omega
  have := hp _ hm
  rwa [he] at this
theorem take_byte {l : List UInt8} {n : Nat} {c : UInt8} (h : c ∈ l.take n) : ∃ i, i < n ∧ i < l.length ∧ byteAt l i = c := by
  obtain ⟨i, hi, e⟩ := List.getElem_of_mem h
  have hl : i < n ∧ i < l.length := by rw [List.length_take] at hi; omega
  refine ⟨i, hl.1, hl.2, ?_⟩
  rw [List.getElem_take] at e
  exact byteAt_eq l i c (by rw [List.getElem?_eq_getElem hl.2, e])
def plainB (c : UInt8) : Prop := c ≠ 10 ∧ c ≠ 34 ∧ c ≠ 92
theorem plain_word {c : UInt8} (h : wordB c = true) : plainB c := by
  refine ⟨?_, ?_, ?_⟩ <;> (rintro rfl; revert h; decide)
theorem name_plain (l : List UInt8) : ∀ c ∈ l.take (nameSz l), plainB c := by
  intro c hc
  obtain ⟨i, hi, hl, rfl⟩ := take_byte hc
  unfold nameSz at hi
  split at hi
  · exact absurd hi (Nat.not_lt_zero _)
  · split at hi
    · rename_i h1
      rcases Nat.eq_zero_or_pos i with rfl | hp
      · exact plain_word (by unfold wordB; rw [h1]; rfl)
      · exact plain_word (spanN_all _ _ i hp hi)
    · exact absurd hi (Nat.not_lt_zero _)
theorem num_plain (l : List UInt8) : ∀ c ∈ l.take (numSz l), plainB c := by
  intro c hc
  obtain ⟨i, hi, hl, rfl⟩ := take_byte hc
  unfold numSz at hi
  split at hi
  · rename_i h1
    rcases Nat.eq_zero_or_pos i with rfl | hp
    · cases l with
      | nil => exact absurd hl (Nat.not_lt_zero _)
      | cons d r =>
        rw [show byteAt (d :: r) 0 = d from rfl]
        unfold startsNum at h1
        dsimp only at h1
        by_cases hd : d = 46
        · subst hd; exact ⟨by decide, by decide, by decide⟩
        · rw [if_neg hd] at h1
          exact plain_word (by unfold wordB; rw [h1]; simp)
    · have := spanN_all _ _ i hp hi
      unfold numB at this
      split at this
      · rename_i h2; rw [h2]; exact ⟨by decide, by decide, by decide⟩
      · split at this
        · rename_i h2
          rcases h2 with h2 | h2 <;> (rw [h2]; exact ⟨by decide, by decide, by decide⟩)
        · exact plain_word this
  · exact absurd hi (Nat.not_lt_zero _)
theorem signs_plain : ∀ s ∈ signsL, ∀ c ∈ s, c ≠ 10 ∧ c ≠ 34 ∧ c ≠ 92 := by decide
theorem sign_plain (l : List UInt8) : ∀ c ∈ l.take (signSz l), plainB c := by
  unfold signSz
  cases hf : signsL.find? (·.isPrefixOf l) with
  | none => intro c hc; simp at hc
  | some s =>
    intro c hc
    have hm := List.mem_of_find?_eq_some hf
    have hp := List.find?_some hf
    have hpre : s <+: l := by simpa using hp
    have e : l.take s.length = s := (List.prefix_iff_eq_take.1 hpre).symm
    dsimp only at hc
    rw [e] at hc
    exact signs_plain s hm c hc
theorem quotGo_noLf (q : UInt8) (hq : q ≠ 10) : ∀ (l : List UInt8) (i : Nat), quotGo q l i ≠ -1 → ∀ c ∈ l.take ((quotGo q l i).toNat - i), c ≠ 10
  | [], _, _, c, hc => by simp at hc
  | [x], i, h, c, hc => by
    have hx : x ≠ 10 := by
      rintro rfl
      simp [quotGo] at h
    have := List.mem_of_mem_take hc
    rw [List.mem_singleton] at this
    subst this
    exact hx
  | x :: d :: r, i, h, c, hc => by
    have hx : x ≠ 10 := by
      rintro rfl
      simp [quotGo] at h
    unfold quotGo at h hc
    rw [if_neg hx] at h hc
    by_cases h2 : x = q
    · rw [if_pos h2] at hc
      have e : ((i : Int) + 1).toNat - i = 1 := by omega
      rw [e] at hc
      simp at hc
      subst hc
      exact hx
    · rw [if_neg h2] at h hc
      by_cases h3 : x = 92 ∧ d ≠ 10
      · rw [if_pos h3] at h hc
        have hle := quotGo_le q r (i + 2)
        have hge : i + 3 ≤ (quotGo q r (i + 2)).toNat := by
          rcases hle with h' | h'
          · exact absurd h' h
          · omega
        obtain ⟨m, hm⟩ : ∃ m, (quotGo q r (i + 2)).toNat - i = m + 2 := ⟨(quotGo q r (i + 2)).toNat - i - 2, by omega⟩
        rw [hm, List.take_succ_cons, List.take_succ_cons] at hc
        rcases List.mem_cons.1 hc with rfl | hc
        · exact hx
        · rcases List.mem_cons.1 hc with rfl | hc
          · exact h3.2
          · exact quotGo_noLf q hq r (i + 2) h c (by rw [show (quotGo q r (i + 2)).toNat - (i + 2) = m by omega]; exact hc)
      · rw [if_neg h3] at h hc
        have hle := quotGo_le q (d :: r) (i + 1)
        have hge : i + 2 ≤ (quotGo q (d :: r) (i + 1)).toNat := by
          rcases hle with h' | h'
          · exact absurd h' h
          · omega
        obtain ⟨m, hm⟩ : ∃ m, (quotGo q (d :: r) (i + 1)).toNat - i = m + 1 := ⟨(quotGo q (d :: r) (i + 1)).toNat - i - 1, by omega⟩
        rw [hm, List.take_succ_cons] at hc
        rcases List.mem_cons.1 hc with rfl | hc
        · exact hx
        · exact quotGo_noLf q hq (d :: r) (i + 1) h c (by rw [show (quotGo q (d :: r) (i + 1)).toNat - (i + 1) = m by omega]; exact hc)
theorem quot_line (q : UInt8) (hq : q ≠ 10) (l : List UInt8) (h : 0 < quotSz q l) : ∀ c ∈ l.take (quotSz q l).toNat, c ≠ 10 := by
  unfold quotSz at h ⊢
  cases l with
  | nil => intro c hc; simp at hc
  | cons x r =>
    dsimp only at h ⊢
    by_cases hx : x = q
    · rw [if_pos hx] at h ⊢
      intro c hc
      have hge := quotGo_le q r 1
      obtain ⟨m, hm⟩ : ∃ m, (quotGo q r 1).toNat = m + 1 := ⟨(quotGo q r 1).toNat - 1, by omega⟩
      rw [hm, List.take_succ_cons] at hc
      rcases List.mem_cons.1 hc with rfl | hc
      · rw [hx]; exact hq
      · exact quotGo_noLf q hq r 1 (by omega) c (by rw [hm]; exact hc)
    · rw [if_neg hx] at h
      exact absurd h (by decide)
/-- What a kind says of a text's bytes. -/
def KindSays (k : Int) (x : List UInt8) : Prop := (k = 4 ∨ k = 3 → ∀ c ∈ x, c ≠ 10) ∧ (k = 1 ∨ k = 2 ∨ k = 5 → ∀ c ∈ x, plainB c) ∧ (k = 1 ∨ k = 2 ∨ k = 3 ∨ k = 4 ∨ k = 5 ∨ k = 6 ∨ k = 7)
theorem pick_says (l : List UInt8) (path : Bool) (h : (pick (sizes l path)).1 ≠ -1) : KindSays (pick (sizes l path)).1 (l.take (pick (sizes l path)).2.toNat) := by
  rcases pick_mem _ h with ⟨hm, hp⟩ | he
  · generalize pick (sizes l path) = p at h hm hp ⊢
    unfold sizes at hm
    simp only [List.mem_cons, List.not_mem_nil, or_false] at hm
    rcases hm with rfl | rfl | rfl | rfl | rfl | rfl
    · exact ⟨fun h => by simp at h, fun _ => by simpa using name_plain l, by simp⟩
    · exact ⟨fun h => by simp at h, fun _ => by simpa using num_plain l, by simp⟩
    · exact ⟨fun _ => quot_line 34 (by decide) l hp, fun h => by simp at h, by simp⟩
    · exact ⟨fun _ => quot_line 39 (by decide) l hp, fun h => by simp at h, by simp⟩
    · exact ⟨fun h => by simp at h, fun h => by simp at h, by simp⟩
    · exact ⟨fun h => by simp at h, fun _ => by simpa using sign_plain l, by simp⟩
  · rw [he]
    exact ⟨fun h => by simp at h, fun h => by simp at h, by simp⟩
theorem pcsF_says (s : List UInt8) : ∀ (f i : Nat) (acc A : List Pc), (∀ p ∈ acc, KindSays p.kind (textOfPc s p)) → pcsF s f i acc = .inr A → ∀ p ∈ A, KindSays p.kind (textOfPc s p)
  | 0, _, acc, A, ha, h => by cases h; exact ha
  | f + 1, i, acc, A, ha, h => by
    unfold pcsF at h
    generalize skip s i false (i == 0) = g at h
    obtain ⟨k, sp, fi, lk⟩ := g
    dsimp only at h
    split at h
    · cases h
    · split at h
      · cases h; exact ha
      · split at h
        · cases h
        · rename_i hm
          refine pcsF_says s f _ _ A (fun p hp => ?_) h
          rcases List.mem_append.1 hp with hp | hp
          · exact ha p hp
          · rw [List.mem_singleton] at hp
            subst hp
            have := pick_says (s.drop k) (!fi && behind s acc) hm
            unfold textOfPc
            dsimp only
            rw [List.drop_take, Nat.add_sub_cancel_left]
            exact this
theorem toks_says (file : Int) (l : List UInt8) : ∀ t ∈ (toksF file l).1, KindSays t.kind t.text.data.toList := by
  unfold toksF
  split
  · exact fun t ht => by cases ht
  · rcases hp : pcs (bytesAt l (kept l)) with k | ps
    · exact fun t ht => by cases ht
    · dsimp only
      have hf := pcsF_says _ _ 0 [] ps (fun p hp => by cases hp) hp
      intro t ht
      unfold tksOf at ht
      obtain ⟨p, hpm, rfl⟩ := List.mem_map.1 ht
      exact hf p hpm
theorem quoteN_good (ts : List Tk) (h : ∀ t ∈ ts, KindSays t.kind t.text.data.toList ∧ t.kind ≠ 6 ∧ t.kind ≠ 7) : ∀ k, goodQ ((List.range k).flatMap (quoteAt ts)) = true
  | 0 => rfl
  | k + 1 => by
    rw [List.range_succ, List.flatMap_append]
    refine goodQ_append _ _ (quoteN_good ts h k) ?_
    rw [List.flatMap_singleton]
    unfold quoteAt
    cases hk : ts[k]? with
    | none => rfl
    | some t =>
      dsimp only
      obtain ⟨⟨h1, h2, h3⟩, h6, h7⟩ := h t (List.mem_of_getElem? hk)
      refine goodQ_append _ _ ?_ ?_
      · split <;> rfl
      · by_cases hq : t.kind = 4 ∨ t.kind = 3
        · rw [if_pos hq]; exact goodQ_esc _ (h1 hq)
        · rw [if_neg hq]
          refine goodQ_plain _ (h2 ?_)
          rcases h3 with h3 | h3 | h3 | h3 | h3 | h3 | h3
          · exact .inl h3
          · exact .inr (.inl h3)
          · exact absurd (.inr h3) hq
          · exact absurd (.inl h3) hq
          · exact .inr (.inr h3)
          · exact absurd h3 h6
          · exact absurd h3 h7
theorem pcs_quoted (x : List UInt8) (h : goodQ x = true) : pcs ([34] ++ x ++ [34]) = .inr [⟨4, 0, x.length + 2, false, true⟩] := by
  unfold pcs
  have e0 : [34] ++ x ++ [34] = 34 :: (x ++ [34]) := rfl
  rw [e0]
  have hn : nameSz (34 :: (x ++ [34])) = 0 := by
    unfold nameSz
    rw [if_neg (by simp), if_neg (by rw [show byteAt (34 :: (x ++ [34])) 0 = 34 from rfl]; decide)]
  have hm : numSz (34 :: (x ++ [34])) = 0 := by
    unfold numSz
    rw [if_neg (by unfold startsNum; dsimp only; rw [if_neg (by decide)]; decide)]
  have hq : quotSz 34 (34 :: (x ++ [34])) = ((x.length + 2 : Nat) : Int) := by
    unfold quotSz
    dsimp only
    rw [if_pos rfl, quotGo_good x 1 h]
    congr 1
    omega
  have hb : blankSz (34 :: (x ++ [34])) = 0 := by simp [blankSz]
  have hl : (34 :: (x ++ [34])).length = x.length + 2 := by simp
  generalize 34 :: (x ++ [34]) = S at hn hm hq hb hl ⊢
  have hp : ∀ b, pick (sizes S b) = (4, ((x.length + 2 : Nat) : Int)) := by
    intro b
    unfold sizes
    rw [hn, hm, hq]
    unfold pick
    rw [if_neg (by decide), if_neg (by decide)]
    unfold pick
    rw [if_neg (by decide), if_neg (by decide)]
    unfold pick
    rw [if_neg (by omega), if_pos (by omega)]
  have hs0 : skip S 0 false true = ⟨0, false, true, false⟩ := by
    unfold skip
    rw [Nat.sub_zero]
    unfold skipF
    rw [List.drop_zero, if_pos hb]
  have hs1 : skip S (x.length + 2) false false = ⟨x.length + 2, false, false, false⟩ := by
    unfold skip
    rw [hl, show x.length + 2 + 1 - (x.length + 2) = 1 by omega]
    unfold skipF
    rw [show S.drop (x.length + 2) = [] from List.drop_of_length_le (by omega)]
    rfl
  rw [hl, show x.length + 2 + 1 = x.length + 1 + 1 + 1 from rfl]
  unfold pcsF
  rw [show ((0 : Nat) == 0) = true from rfl, hs0]
  dsimp only
  rw [if_neg (by decide), if_neg (by omega), List.drop_zero, hp]
  dsimp only
  rw [if_neg (by decide), Int.toNat_natCast, Nat.zero_add, List.nil_append]
  unfold pcsF
  rw [show ((x.length + 2 : Nat) == 0) = false from rfl, hs1]
  dsimp only
  rw [if_neg (by decide), if_pos (by omega)]
/-- What is quoted is one token, and a text. -/
theorem toks_quoted (file : Int) (ts : List Tk) (h : ∀ t ∈ ts, KindSays t.kind t.text.data.toList ∧ t.kind ≠ 6 ∧ t.kind ≠ 7) (hl : (quoteL ts).length ≤ 3000) :
    ∃ t, toksF file (quoteL ts) = ([t], (0, -1, 0)) ∧ t.kind = 4 ∧ t.text.data.toList = quoteL ts := by
  obtain ⟨x, hx, hg⟩ : ∃ x, quoteL ts = [34] ++ x ++ [34] ∧ goodQ x = true := ⟨_, rfl, quoteN_good ts h ts.length⟩
  have hline : ∀ c ∈ quoteL ts, c ≠ 10 := by
    rw [hx]
    intro c hc
    simp only [List.mem_append, List.mem_singleton] at hc
    rcases hc with (rfl | hc) | rfl
    · decide
    · exact goodQ_line x hg c hc
    · decide
  have hp := pcs_quoted x hg
  refine ⟨tkOf file (quoteL ts) ⟨4, 0, x.length + 2, false, true⟩, ?_, rfl, ?_⟩
  · unfold toksF
    rw [if_neg (by omega), bytes_line _ hline, hx, hp]
    rfl
  · unfold tkOf textOfPc
    dsimp only
    rw [bytes_line _ hline, List.drop_zero, hx]
    apply List.take_of_length_le
    simp
/-- The bytes of the first k tokens. -/
def textsN (ts : List Tk) (k : Nat) : Nat := ((ts.take k).map fun t => t.text.size).sum
theorem textsN_succ (ts : List Tk) (k : Nat) (t : Tk) (h : ts[k]? = some t) : textsN ts (k + 1) = textsN ts k + t.text.size := by
  unfold textsN
  rw [List.take_add_one, h]
  simp
theorem textsN_le (ts : List Tk) (M : Nat) (h : ∀ t ∈ ts, t.text.size ≤ M) : ∀ k, textsN ts k ≤ k * M
  | 0 => by simp [textsN]
  | k + 1 => by
    have ih := textsN_le ts M h k
    rw [Nat.add_mul, Nat.one_mul]
    cases hk : ts[k]? with
    | none =>
      have e : textsN ts (k + 1) = textsN ts k := by
        unfold textsN
        rw [List.take_add_one, hk]
        simp
      omega
    | some t =>
      rw [textsN_succ ts k t hk]
      have := h t (List.mem_of_getElem? hk)
      omega
theorem quoteN_ge (ts : List Tk) : ∀ k, k ≤ ts.length → textsN ts k + 1 ≤ (quoteN ts k).length
  | 0, _ => by simp [textsN, quoteN]
  | k + 1, hk => by
    have ih := quoteN_ge ts k (by omega)
    have hx : ts[k]? = some ts[k] := List.getElem?_eq_getElem (by omega)
    rw [textsN_succ ts k _ hx, quoteN_succ, List.length_append]
    have : ts[k].text.size ≤ (quoteAt ts k).length := by
      unfold quoteAt
      rw [hx]
      dsimp only
      rw [List.length_append]
      have h2 : ts[k].text.size ≤ (if ts[k].kind = 4 ∨ ts[k].kind = 3 then escS ts[k].text.data.toList else ts[k].text.data.toList).length := by
        split
        · have := escS_ge ts[k].text.data.toList
          rw [size_data] at this
          exact this
        · rw [size_data]; exact Nat.le_refl _
      omega
    omega
theorem quoteL_ge (ts : List Tk) : textsN ts ts.length + 2 ≤ (quoteL ts).length := by
  have := quoteN_ge ts ts.length (Nat.le_refl _)
  unfold quoteL
  rw [List.length_append]
  simp
  omega
end Go.Proofs.YteklakpfbkcegaaGreatDoor
