/- Plain facts: what is quoted is one token. · Plain facts: a token is a name where it begins with a letter. · Plain facts for the document's own Parse. · Walk of the document's own Params. -/
import Derived.Test.YtedmcefckcmheaaGreatDoorMcB
import Derived.Test.YtedmcefckcmheaaGreatDoorLxTokens
import Derived.Test.YtedmcefckcmheaaGreatDoorMcD
import Derived.Test.YtedmcefckcmheaaGreatDoorMcJ
namespace Go.Proofs.YtedmcefckcmheaaGreatDoor
section
open Go.RowKit

theorem goneAt_line (s : List UInt8) (h : ∀ c ∈ s, c ≠ 10) (i : Nat) : goneAt s i = 0 := by
  have H : ∀ (k : Nat) (c : UInt8), s[k]? = some c → c ≠ 10 := fun k c hk => h c (List.mem_of_getElem? hk)
  unfold goneAt
  rw [if_neg (fun e => H _ _ e.2 rfl), if_neg (fun e => H _ _ e.2.2 rfl), if_neg (fun e => H _ _ e.2 rfl)]
theorem keptF_line (s : List UInt8) (h : ∀ c ∈ s, c ≠ 10) : ∀ (f i : Nat), s.length = i + f → keptF s f i = List.range' i f
  | 0, i, _ => rfl
  | f + 1, i, hf => by
    unfold keptF
    rw [if_pos (by omega), if_pos (goneAt_line s h i), keptF_line s h f (i + 1) (by omega)]
    rfl
theorem bytes_line (s : List UInt8) (h : ∀ c ∈ s, c ≠ 10) : bytesAt s (kept s) = s := by
  unfold kept
  rw [keptF_line s h s.length 0 (by omega)]
  unfold bytesAt
  apply List.ext_getElem
  · simp
  · intro i h1 h2
    simp [List.getD, h2]
/-- Bytes that may stand between quotes. -/
def goodQ : List UInt8 → Bool
  | [] => true
  | [c] => c != 10 && c != 34 && c != 92
  | c :: d :: r => if c == 92 then d != 10 && goodQ r else c != 10 && c != 34 && goodQ (d :: r)
theorem goodQ_append : ∀ (a b : List UInt8), goodQ a = true → goodQ b = true → goodQ (a ++ b) = true
  | [], b, _, hb => hb
  | [c], [], ha, _ => ha
  | [c], d :: r, ha, hb => by
    simp only [goodQ, Bool.and_eq_true, bne_iff_ne] at ha
    have hc : (c == 92) = false := by simpa using ha.2
    show goodQ (c :: d :: r) = true
    unfold goodQ
    rw [hc]
    simp [ha.1.1, ha.1.2, hb]
  | c :: d :: r, b, ha, hb => by
    show goodQ (c :: d :: (r ++ b)) = true
    unfold goodQ at ha ⊢
    cases hc : (c == 92) with
    | true =>
      rw [hc] at ha
      simp only [if_true, Bool.and_eq_true] at ha ⊢
      exact ⟨ha.1, goodQ_append r b ha.2 hb⟩
    | false =>
      rw [hc] at ha
      simp only [Bool.false_eq_true, if_false, Bool.and_eq_true] at ha ⊢
      exact ⟨ha.1, goodQ_append (d :: r) b ha.2 hb⟩
theorem quotGo_good : ∀ (l : List UInt8) (i : Nat), goodQ l = true → quotGo 34 (l ++ [34]) i = ((i + l.length + 1 : Nat) : Int)
  | [], i, _ => by simp [quotGo]
  | [c], i, h => by
    simp only [goodQ, Bool.and_eq_true, bne_iff_ne] at h
    show quotGo 34 (c :: 34 :: []) i = _
    unfold quotGo
    rw [if_neg h.1.1, if_neg h.1.2, if_neg (fun e => h.2 e.1)]
    simp [quotGo]
  | c :: d :: r, i, h => by
    show quotGo 34 (c :: d :: (r ++ [34])) i = _
    unfold goodQ at h
    unfold quotGo
    cases hc : (c == 92) with
    | true =>
      rw [hc] at h
      have hc' : c = 92 := by simpa using hc
      subst hc'
      simp only [if_true, Bool.and_eq_true, bne_iff_ne] at h
      rw [if_neg (by decide), if_neg (by decide), if_pos ⟨rfl, h.1⟩, quotGo_good r (i + 2) h.2]
      simp; omega
    | false =>
      rw [hc] at h
      have hc' : c ≠ 92 := by simpa using hc
      simp only [Bool.false_eq_true, if_false, Bool.and_eq_true, bne_iff_ne] at h
      have := quotGo_good (d :: r) (i + 1) h.2
      rw [if_neg h.1.1, if_neg h.1.2, if_neg (fun e => hc' e.1)]
      rw [show d :: (r ++ [34]) = d :: r ++ [34] from rfl, this]
      simp; omega
theorem goodQ_line : ∀ (l : List UInt8), goodQ l = true → ∀ c ∈ l, c ≠ 10
  | [], _, c, hc => by cases hc
  | [x], h, c, hc => by
    simp only [goodQ, Bool.and_eq_true, bne_iff_ne] at h
    rw [List.mem_singleton] at hc
    subst hc
    exact h.1.1
  | x :: d :: r, h, c, hc => by
    unfold goodQ at h
    cases hx : (x == 92) with
    | true =>
      rw [hx] at h
      have hx' : x = 92 := by simpa using hx
      simp only [if_true, Bool.and_eq_true, bne_iff_ne] at h
      rcases List.mem_cons.1 hc with rfl | hc
      · rw [hx']; decide
      · rcases List.mem_cons.1 hc with rfl | hc
        · exact h.1
        · exact goodQ_line r h.2 c hc
    | false =>
      rw [hx] at h
      simp only [Bool.false_eq_true, if_false, Bool.and_eq_true, bne_iff_ne] at h
      rcases List.mem_cons.1 hc with rfl | hc
      · exact h.1.1
      · exact goodQ_line (d :: r) h.2 c hc
theorem goodQ_plain : ∀ (l : List UInt8), (∀ c ∈ l, c ≠ 10 ∧ c ≠ 34 ∧ c ≠ 92) → goodQ l = true
  | [], _ => rfl
  | c :: r, h => by
    have h1 := h c (List.mem_cons_self ..)
    exact goodQ_append [c] r (by simp [goodQ, h1]) (goodQ_plain r fun x hx => h x (List.mem_cons_of_mem _ hx))
theorem goodQ_esc : ∀ (l : List UInt8), (∀ c ∈ l, c ≠ 10) → goodQ (escS l) = true
  | [], _ => rfl
  | c :: r, h => by
    have h1 := h c (List.mem_cons_self ..)
    have e : escS (c :: r) = (if c == 34 || c == 92 then [92, c] else [c]) ++ escS r := by simp [escS]
    rw [e]
    refine goodQ_append _ _ ?_ (goodQ_esc r fun x hx => h x (List.mem_cons_of_mem _ hx))
    by_cases hq : (c == 34 || c == 92) = true
    · rw [if_pos hq]; simp [goodQ, h1]
    · rw [if_neg hq]
      have : c ≠ 34 ∧ c ≠ 92 := by simpa using hq
      simp [goodQ, h1, this]
theorem escS_ge : ∀ (l : List UInt8), l.length ≤ (escS l).length
  | [] => Nat.zero_le _
  | c :: r => by
    have e : escS (c :: r) = (if c == 34 || c == 92 then [92, c] else [c]) ++ escS r := by simp [escS]
    have := escS_ge r
    rw [e, List.length_append]
    split <;> simp <;> omega

theorem pick_mem : ∀ (ss : List (Int × Int)), (pick ss).1 ≠ -1 → (pick ss ∈ ss ∧ 0 < (pick ss).2) ∨ pick ss = (6, 1)
  | [], _ => .inr rfl
  | (k, n) :: r, h => by
    unfold pick at h ⊢
    by_cases h1 : n = -1
    · rw [if_pos h1] at h; exact absurd rfl h
    · rw [if_neg h1] at h ⊢
      by_cases h2 : 0 < n
      · rw [if_pos h2]; exact .inl ⟨List.mem_cons_self .., h2⟩
      · rw [if_neg h2] at h ⊢
        rcases pick_mem r h with ⟨a, b⟩ | a
        · exact .inl ⟨List.mem_cons_of_mem _ a, b⟩
        · exact .inr a
theorem spanN_all (q : Nat → Bool) (n i : Nat) (h1 : 1 ≤ i) (hi : i < spanN q n) : q i = true := by
  unfold spanN at hi
  have hlt : i - 1 < ((List.range' 1 (n - 1)).takeWhile q).length := by omega
  have hm := List.getElem_mem hlt
  have hp : ∀ x ∈ (List.range' 1 (n - 1)).takeWhile q, q x = true := fun x hx => by
    have := List.all_takeWhile (l := List.range' 1 (n - 1)) (p := q)
    exact List.all_eq_true.1 this x hx
  have he : ((List.range' 1 (n - 1)).takeWhile q)[i - 1] = i := by
    have hpre := List.takeWhile_prefix (l := List.range' 1 (n - 1)) q
    have := hpre.getElem hlt
    rw [this, List.getElem_range']
    omega
  have := hp _ hm
  rwa [he] at this
theorem take_byte {l : List UInt8} {n : Nat} {c : UInt8} (h : c ∈ l.take n) : ∃ i, i < n ∧ i < l.length ∧ byteAt l i = c := by
  obtain ⟨i, hi, e⟩ := List.getElem_of_mem h
  have hl : i < n ∧ i < l.length := by rw [List.length_take] at hi; omega
  refine ⟨i, hl.1, hl.2, ?_⟩
  rw [List.getElem_take] at e
  exact byteAt_eq l i c (by rw [List.getElem?_eq_getElem hl.2, e])
def plainB (c : UInt8) : Prop := c ≠ 10 ∧ c ≠ 34 ∧ c ≠ 92
theorem plain_word {c : UInt8} (h : wordB c = true) : plainB c := by
  refine ⟨?_, ?_, ?_⟩ <;> (rintro rfl; revert h; decide)
theorem name_plain (l : List UInt8) : ∀ c ∈ l.take (nameSz l), plainB c := by
  intro c hc
  obtain ⟨i, hi, hl, rfl⟩ := take_byte hc
  unfold nameSz at hi
  split at hi
  · exact absurd hi (Nat.not_lt_zero _)
  · split at hi
    · rename_i h1
      rcases Nat.eq_zero_or_pos i with rfl | hp
      · exact plain_word (by unfold wordB; rw [h1]; rfl)
      · exact plain_word (spanN_all _ _ i hp hi)
    · exact absurd hi (Nat.not_lt_zero _)
theorem num_plain (l : List UInt8) : ∀ c ∈ l.take (numSz l), plainB c := by
  intro c hc
  obtain ⟨i, hi, hl, rfl⟩ := take_byte hc
  unfold numSz at hi
  split at hi
  · rename_i h1
    rcases Nat.eq_zero_or_pos i with rfl | hp
    · cases l with
      | nil => exact absurd hl (Nat.not_lt_zero _)
      | cons d r =>
        rw [show byteAt (d :: r) 0 = d from rfl]
        unfold startsNum at h1
        dsimp only at h1
        by_cases hd : d = 46
        · subst hd; exact ⟨by decide, by decide, by decide⟩
        · rw [if_neg hd] at h1
          exact plain_word (by unfold wordB; rw [h1]; simp)
    · have := spanN_all _ _ i hp hi
      unfold numB at this
      split at this
      · rename_i h2; rw [h2]; exact ⟨by decide, by decide, by decide⟩
      · split at this
        · rename_i h2
          rcases h2 with h2 | h2 <;> (rw [h2]; exact ⟨by decide, by decide, by decide⟩)
        · exact plain_word this
  · exact absurd hi (Nat.not_lt_zero _)
theorem signs_plain : ∀ s ∈ signsL, ∀ c ∈ s, c ≠ 10 ∧ c ≠ 34 ∧ c ≠ 92 := by decide
theorem sign_plain (l : List UInt8) : ∀ c ∈ l.take (signSz l), plainB c := by
  unfold signSz
  cases hf : signsL.find? (·.isPrefixOf l) with
  | none => intro c hc; simp at hc
  | some s =>
    intro c hc
    have hm := List.mem_of_find?_eq_some hf
    have hp := List.find?_some hf
    have hpre : s <+: l := by simpa using hp
    have e : l.take s.length = s := (List.prefix_iff_eq_take.1 hpre).symm
    dsimp only at hc
    rw [e] at hc
    exact signs_plain s hm c hc
theorem quotGo_noLf (q : UInt8) (hq : q ≠ 10) : ∀ (l : List UInt8) (i : Nat), quotGo q l i ≠ -1 → ∀ c ∈ l.take ((quotGo q l i).toNat - i), c ≠ 10
  | [], _, _, c, hc => by simp at hc
  | [x], i, h, c, hc => by
    have hx : x ≠ 10 := by
      rintro rfl
      simp [quotGo] at h
    have := List.mem_of_mem_take hc
    rw [List.mem_singleton] at this
    subst this
    exact hx
  | x :: d :: r, i, h, c, hc => by
    have hx : x ≠ 10 := by
      rintro rfl
      simp [quotGo] at h
    unfold quotGo at h hc
    rw [if_neg hx] at h hc
    by_cases h2 : x = q
    · rw [if_pos h2] at hc
      have e : ((i : Int) + 1).toNat - i = 1 := by omega
      rw [e] at hc
      simp at hc
      subst hc
      exact hx
    · rw [if_neg h2] at h hc
      by_cases h3 : x = 92 ∧ d ≠ 10
      · rw [if_pos h3] at h hc
        have hle := quotGo_le q r (i + 2)
        have hge : i + 3 ≤ (quotGo q r (i + 2)).toNat := by
          rcases hle with h' | h'
          · exact absurd h' h
          · omega
        obtain ⟨m, hm⟩ : ∃ m, (quotGo q r (i + 2)).toNat - i = m + 2 := ⟨(quotGo q r (i + 2)).toNat - i - 2, by omega⟩
        rw [hm, List.take_succ_cons, List.take_succ_cons] at hc
        rcases List.mem_cons.1 hc with rfl | hc
        · exact hx
        · rcases List.mem_cons.1 hc with rfl | hc
          · exact h3.2
          · exact quotGo_noLf q hq r (i + 2) h c (by rw [show (quotGo q r (i + 2)).toNat - (i + 2) = m by omega]; exact hc)
      · rw [if_neg h3] at h hc
        have hle := quotGo_le q (d :: r) (i + 1)
        have hge : i + 2 ≤ (quotGo q (d :: r) (i + 1)).toNat := by
          rcases hle with h' | h'
          · exact absurd h' h
          · omega
        obtain ⟨m, hm⟩ : ∃ m, (quotGo q (d :: r) (i + 1)).toNat - i = m + 1 := ⟨(quotGo q (d :: r) (i + 1)).toNat - i - 1, by omega⟩
        rw [hm, List.take_succ_cons] at hc
        rcases List.mem_cons.1 hc with rfl | hc
        · exact hx
        · exact quotGo_noLf q hq (d :: r) (i + 1) h c (by rw [show (quotGo q (d :: r) (i + 1)).toNat - (i + 1) = m by omega]; exact hc)
theorem quot_line (q : UInt8) (hq : q ≠ 10) (l : List UInt8) (h : 0 < quotSz q l) : ∀ c ∈ l.take (quotSz q l).toNat, c ≠ 10 := by
  unfold quotSz at h ⊢
  cases l with
  | nil => intro c hc; simp at hc
  | cons x r =>
    dsimp only at h ⊢
    by_cases hx : x = q
    · rw [if_pos hx] at h ⊢
      intro c hc
      have hge := quotGo_le q r 1
      obtain ⟨m, hm⟩ : ∃ m, (quotGo q r 1).toNat = m + 1 := ⟨(quotGo q r 1).toNat - 1, by omega⟩
      rw [hm, List.take_succ_cons] at hc
      rcases List.mem_cons.1 hc with rfl | hc
      · rw [hx]; exact hq
      · exact quotGo_noLf q hq r 1 (by omega) c (by rw [hm]; exact hc)
    · rw [if_neg hx] at h
      exact absurd h (by decide)
/-- What a kind says of a text's bytes. -/
def KindSays (k : Int) (x : List UInt8) : Prop := (k = 4 ∨ k = 3 → ∀ c ∈ x, c ≠ 10) ∧ (k = 1 ∨ k = 2 ∨ k = 5 → ∀ c ∈ x, plainB c) ∧ (k = 1 ∨ k = 2 ∨ k = 3 ∨ k = 4 ∨ k = 5 ∨ k = 6 ∨ k = 7)
theorem pick_says (l : List UInt8) (path : Bool) (h : (pick (sizes l path)).1 ≠ -1) : KindSays (pick (sizes l path)).1 (l.take (pick (sizes l path)).2.toNat) := by
  rcases pick_mem _ h with ⟨hm, hp⟩ | he
  · generalize pick (sizes l path) = p at h hm hp ⊢
    unfold sizes at hm
    simp only [List.mem_cons, List.not_mem_nil, or_false] at hm
    rcases hm with rfl | rfl | rfl | rfl | rfl | rfl
    · exact ⟨fun h => by simp at h, fun _ => by simpa using name_plain l, by simp⟩
    · exact ⟨fun h => by simp at h, fun _ => by simpa using num_plain l, by simp⟩
    · exact ⟨fun _ => quot_line 34 (by decide) l hp, fun h => by simp at h, by simp⟩
    · exact ⟨fun _ => quot_line 39 (by decide) l hp, fun h => by simp at h, by simp⟩
    · exact ⟨fun h => by simp at h, fun h => by simp at h, by simp⟩
    · exact ⟨fun h => by simp at h, fun _ => by simpa using sign_plain l, by simp⟩
  · rw [he]
    exact ⟨fun h => by simp at h, fun h => by simp at h, by simp⟩
theorem pcsF_says (s : List UInt8) : ∀ (f i : Nat) (acc A : List Pc), (∀ p ∈ acc, KindSays p.kind (textOfPc s p)) → pcsF s f i acc = .inr A → ∀ p ∈ A, KindSays p.kind (textOfPc s p)
  | 0, _, acc, A, ha, h => by cases h; exact ha
  | f + 1, i, acc, A, ha, h => by
    unfold pcsF at h
    generalize skip s i false (i == 0) = g at h
    obtain ⟨k, sp, fi, lk⟩ := g
    dsimp only at h
    split at h
    · cases h
    · split at h
      · cases h; exact ha
      · split at h
        · cases h
        · rename_i hm
          refine pcsF_says s f _ _ A (fun p hp => ?_) h
          rcases List.mem_append.1 hp with hp | hp
          · exact ha p hp
          · rw [List.mem_singleton] at hp
            subst hp
            have := pick_says (s.drop k) (!fi && behind s acc) hm
            unfold textOfPc
            dsimp only
            rw [List.drop_take, Nat.add_sub_cancel_left]
            exact this
theorem toks_says (file : Int) (l : List UInt8) : ∀ t ∈ (toksF file l).1, KindSays t.kind t.text.data.toList := by
  unfold toksF
  split
  · exact fun t ht => by cases ht
  · rcases hp : pcs (bytesAt l (kept l)) with k | ps
    · exact fun t ht => by cases ht
    · dsimp only
      have hf := pcsF_says _ _ 0 [] ps (fun p hp => by cases hp) hp
      intro t ht
      unfold tksOf at ht
      obtain ⟨p, hpm, rfl⟩ := List.mem_map.1 ht
      exact hf p hpm
theorem quoteN_good (ts : List Tk) (h : ∀ t ∈ ts, KindSays t.kind t.text.data.toList ∧ t.kind ≠ 6 ∧ t.kind ≠ 7) : ∀ k, goodQ ((List.range k).flatMap (quoteAt ts)) = true
  | 0 => rfl
  | k + 1 => by
    rw [List.range_succ, List.flatMap_append]
    refine goodQ_append _ _ (quoteN_good ts h k) ?_
    rw [List.flatMap_singleton]
    unfold quoteAt
    cases hk : ts[k]? with
    | none => rfl
    | some t =>
      dsimp only
      obtain ⟨⟨h1, h2, h3⟩, h6, h7⟩ := h t (List.mem_of_getElem? hk)
      refine goodQ_append _ _ ?_ ?_
      · split <;> rfl
      · by_cases hq : t.kind = 4 ∨ t.kind = 3
        · rw [if_pos hq]; exact goodQ_esc _ (h1 hq)
        · rw [if_neg hq]
          refine goodQ_plain _ (h2 ?_)
          rcases h3 with h3 | h3 | h3 | h3 | h3 | h3 | h3
          · exact .inl h3
          · exact .inr (.inl h3)
          · exact absurd (.inr h3) hq
          · exact absurd (.inl h3) hq
          · exact .inr (.inr h3)
          · exact absurd h3 h6
          · exact absurd h3 h7
theorem pcs_quoted (x : List UInt8) (h : goodQ x = true) : pcs ([34] ++ x ++ [34]) = .inr [⟨4, 0, x.length + 2, false, true⟩] := by
  unfold pcs
  have e0 : [34] ++ x ++ [34] = 34 :: (x ++ [34]) := rfl
  rw [e0]
  have hn : nameSz (34 :: (x ++ [34])) = 0 := by
    unfold nameSz
    rw [if_neg (by simp), if_neg (by rw [show byteAt (34 :: (x ++ [34])) 0 = 34 from rfl]; decide)]
  have hm : numSz (34 :: (x ++ [34])) = 0 := by
    unfold numSz
    rw [if_neg (by unfold startsNum; dsimp only; rw [if_neg (by decide)]; decide)]
  have hq : quotSz 34 (34 :: (x ++ [34])) = ((x.length + 2 : Nat) : Int) := by
    unfold quotSz
    dsimp only
    rw [if_pos rfl, quotGo_good x 1 h]
    congr 1
    omega
  have hb : blankSz (34 :: (x ++ [34])) = 0 := by simp [blankSz]
  have hl : (34 :: (x ++ [34])).length = x.length + 2 := by simp
  generalize 34 :: (x ++ [34]) = S at hn hm hq hb hl ⊢
  have hp : ∀ b, pick (sizes S b) = (4, ((x.length + 2 : Nat) : Int)) := by
    intro b
    unfold sizes
    rw [hn, hm, hq]
    unfold pick
    rw [if_neg (by decide), if_neg (by decide)]
    unfold pick
    rw [if_neg (by decide), if_neg (by decide)]
    unfold pick
    rw [if_neg (by omega), if_pos (by omega)]
  have hs0 : skip S 0 false true = ⟨0, false, true, false⟩ := by
    unfold skip
    rw [Nat.sub_zero]
    unfold skipF
    rw [List.drop_zero, if_pos hb]
  have hs1 : skip S (x.length + 2) false false = ⟨x.length + 2, false, false, false⟩ := by
    unfold skip
    rw [hl, show x.length + 2 + 1 - (x.length + 2) = 1 by omega]
    unfold skipF
    rw [show S.drop (x.length + 2) = [] from List.drop_of_length_le (by omega)]
    rfl
  rw [hl, show x.length + 2 + 1 = x.length + 1 + 1 + 1 from rfl]
  unfold pcsF
  rw [show ((0 : Nat) == 0) = true from rfl, hs0]
  dsimp only
  rw [if_neg (by decide), if_neg (by omega), List.drop_zero, hp]
  dsimp only
  rw [if_neg (by decide), Int.toNat_natCast, Nat.zero_add, List.nil_append]
  unfold pcsF
  rw [show ((x.length + 2 : Nat) == 0) = false from rfl, hs1]
  dsimp only
  rw [if_neg (by decide), if_pos (by omega)]
/-- What is quoted is one token, and a text. -/
theorem toks_quoted (file : Int) (ts : List Tk) (h : ∀ t ∈ ts, KindSays t.kind t.text.data.toList ∧ t.kind ≠ 6 ∧ t.kind ≠ 7) (hl : (quoteL ts).length ≤ 3000) :
    ∃ t, toksF file (quoteL ts) = ([t], (0, -1, 0)) ∧ t.kind = 4 ∧ t.text.data.toList = quoteL ts := by
  obtain ⟨x, hx, hg⟩ : ∃ x, quoteL ts = [34] ++ x ++ [34] ∧ goodQ x = true := ⟨_, rfl, quoteN_good ts h ts.length⟩
  have hline : ∀ c ∈ quoteL ts, c ≠ 10 := by
    rw [hx]
    intro c hc
    simp only [List.mem_append, List.mem_singleton] at hc
    rcases hc with (rfl | hc) | rfl
    · decide
    · exact goodQ_line x hg c hc
    · decide
  have hp := pcs_quoted x hg
  refine ⟨tkOf file (quoteL ts) ⟨4, 0, x.length + 2, false, true⟩, ?_, rfl, ?_⟩
  · unfold toksF
    rw [if_neg (by omega), bytes_line _ hline, hx, hp]
    rfl
  · unfold tkOf textOfPc
    dsimp only
    rw [bytes_line _ hline, List.drop_zero, hx]
    apply List.take_of_length_le
    simp
/-- The bytes of the first k tokens. -/
def textsN (ts : List Tk) (k : Nat) : Nat := ((ts.take k).map fun t => t.text.size).sum
theorem textsN_succ (ts : List Tk) (k : Nat) (t : Tk) (h : ts[k]? = some t) : textsN ts (k + 1) = textsN ts k + t.text.size := by
  unfold textsN
  rw [List.take_add_one, h]
  simp
theorem textsN_le (ts : List Tk) (M : Nat) (h : ∀ t ∈ ts, t.text.size ≤ M) : ∀ k, textsN ts k ≤ k * M
  | 0 => by simp [textsN]
  | k + 1 => by
    have ih := textsN_le ts M h k
    rw [Nat.add_mul, Nat.one_mul]
    cases hk : ts[k]? with
    | none =>
      have e : textsN ts (k + 1) = textsN ts k := by
        unfold textsN
        rw [List.take_add_one, hk]
        simp
      omega
    | some t =>
      rw [textsN_succ ts k t hk]
      have := h t (List.mem_of_getElem? hk)
      omega
theorem quoteN_ge (ts : List Tk) : ∀ k, k ≤ ts.length → textsN ts k + 1 ≤ (quoteN ts k).length
  | 0, _ => by simp [textsN, quoteN]
  | k + 1, hk => by
    have ih := quoteN_ge ts k (by omega)
    have hx : ts[k]? = some ts[k] := List.getElem?_eq_getElem (by omega)
    rw [textsN_succ ts k _ hx, quoteN_succ, List.length_append]
    have : ts[k].text.size ≤ (quoteAt ts k).length := by
      unfold quoteAt
      rw [hx]
      dsimp only
      rw [List.length_append]
      have h2 : ts[k].text.size ≤ (if ts[k].kind = 4 ∨ ts[k].kind = 3 then escS ts[k].text.data.toList else ts[k].text.data.toList).length := by
        split
        · have := escS_ge ts[k].text.data.toList
          rw [size_data] at this
          exact this
        · rw [size_data]; exact Nat.le_refl _
      omega
    omega
theorem quoteL_ge (ts : List Tk) : textsN ts ts.length + 2 ≤ (quoteL ts).length := by
  have := quoteN_ge ts ts.length (Nat.le_refl _)
  unfold quoteL
  rw [List.length_append]
  simp
  omega
end
section
open Go.RowKit

theorem nameSz_pos (l : List UInt8) : 0 < nameSz l ↔ ∃ c r, l = c :: r ∧ letB c = true := by
  cases l with
  | nil => simp [nameSz]
  | cons c r =>
    unfold nameSz
    rw [if_neg (by simp), show byteAt (c :: r) 0 = c from rfl]
    constructor
    · intro h
      split at h
      · rename_i hc; exact ⟨c, r, rfl, hc⟩
      · exact absurd h (Nat.lt_irrefl _)
    · rintro ⟨c', r', e, hc⟩
      cases e
      rw [if_pos hc]
      exact (spanN_le _ _ (by simp)).1
/-- A piece is a name where it begins with a letter, and nowhere else. -/
theorem pick_name (l : List UInt8) (path : Bool) : (pick (sizes l path)).1 = 1 ↔ ∃ c r, l = c :: r ∧ letB c = true := by
  rw [← nameSz_pos]
  unfold sizes
  unfold pick
  rw [if_neg (by omega)]
  by_cases h : (0 : Int) < (nameSz l : Int)
  · rw [if_pos h]
    exact ⟨fun _ => by omega, fun _ => rfl⟩
  · rw [if_neg h]
    constructor
    · intro h1
      exfalso
      have hne : (pick [(2, (numSz l : Int)), (4, quotSz 34 l), (3, quotSz 39 l), (7, if path then (pathSz l : Int) else 0), (5, (signSz l : Int))]).1 ≠ -1 := by rw [h1]; decide
      rcases pick_mem _ hne with ⟨hm, _⟩ | he
      · generalize pick [(2, (numSz l : Int)), (4, quotSz 34 l), (3, quotSz 39 l), (7, if path then (pathSz l : Int) else 0), (5, (signSz l : Int))] = p at h1 hm
        simp only [List.mem_cons, List.not_mem_nil, or_false] at hm
        rcases hm with rfl | rfl | rfl | rfl | rfl <;> simp at h1
      · rw [he] at h1; simp at h1
    · intro h1; exfalso; omega
/-- What tells names from all else. -/
def NameIs (k : Int) (x : List UInt8) : Prop := k = 1 ↔ ∃ c r, x = c :: r ∧ letB c = true
theorem pcsF_name (s : List UInt8) : ∀ (f i : Nat) (acc A : List Pc), i ≤ s.length → (∀ p ∈ acc, NameIs p.kind (textOfPc s p)) → pcsF s f i acc = .inr A → ∀ p ∈ A, NameIs p.kind (textOfPc s p)
  | 0, _, acc, A, _, ha, h => by cases h; exact ha
  | f + 1, i, acc, A, hi, ha, h => by
    have hs := skip_to s i false (i == 0) hi
    unfold pcsF at h
    generalize skip s i false (i == 0) = g at h hs
    obtain ⟨k, sp, fi, lk⟩ := g
    dsimp only at h hs
    split at h
    · cases h
    · split at h
      · cases h; exact ha
      · rename_i hk
        split at h
        · cases h
        · rename_i hm
          have hle := pick_le (s.drop k) (!fi && behind s acc) (by simp; omega)
          have hl : (s.drop k).length = s.length - k := by simp
          have hn : k + (pick (sizes (s.drop k) (!fi && behind s acc))).2.toNat ≤ s.length ∧ 0 < (pick (sizes (s.drop k) (!fi && behind s acc))).2.toNat := by
            rcases hle with h' | ⟨h1, h2⟩
            · exact absurd h' hm
            · omega
          refine pcsF_name s f _ _ A hn.1 (fun p hp => ?_) h
          rcases List.mem_append.1 hp with hp | hp
          · exact ha p hp
          · rw [List.mem_singleton] at hp
            subst hp
            have := pick_name (s.drop k) (!fi && behind s acc)
            unfold NameIs textOfPc
            dsimp only
            rw [List.drop_take, Nat.add_sub_cancel_left, this]
            obtain ⟨n, hn'⟩ : ∃ n, (pick (sizes (s.drop k) (!fi && behind s acc))).2.toNat = n + 1 := ⟨_, (Nat.succ_pred_eq_of_pos hn.2).symm⟩
            rw [hn']
            cases hd : s.drop k with
            | nil => simp
            | cons c r => simp
theorem toks_name (file : Int) (l : List UInt8) : ∀ t ∈ (toksF file l).1, NameIs t.kind t.text.data.toList := by
  unfold toksF
  split
  · exact fun t ht => by cases ht
  · rcases hp : pcs (bytesAt l (kept l)) with k | ps
    · exact fun t ht => by cases ht
    · dsimp only
      have hf := pcsF_name _ _ 0 [] ps (Nat.zero_le _) (fun p hp => by cases hp) hp
      intro t ht
      unfold tksOf at ht
      obtain ⟨p, hpm, rfl⟩ := List.mem_map.1 ht
      exact hf p hpm
end
section
open Go.RowKit Go.Shelf

/-- Why a body's token can't stand where it does, in the document's own words. -/
def rchk (call more : Bool) (ps : List ByteArray) (bs : List Tk) (i : Nat) : Int :=
  if ((tokAt bs i).kind == 5) && ((tokAt bs i).text.toList == [35, 35]) && (decide (i = 0) || decide (i + 1 = bs.length)) then 2
  else if ((tokAt bs i).kind == 5) && ((tokAt bs i).text.toList == [35]) && call && (decide (i + 1 = bs.length) || !Lib.containsS ps (tokAt bs (i + 1)).text) then 2
  else if !((tokAt bs i).kind == 5) && ((tokAt bs i).text.toList == restL) && !more then 7
  else 0
/-- Begins with a letter. -/
def LetS (x : ByteArray) : Prop := ∃ c r, x.data.toList = c :: r ∧ letB c = true
theorem tok_mem {ts : List Tk} {i : Nat} (h : i < ts.length) : tokAt ts i ∈ ts := by
  have e := List.getElem?_eq_getElem h
  rw [tokAt_in e]
  exact List.mem_of_getElem? e
theorem name_of_rest {t : Tk} (hn : NameIs t.kind t.text.data.toList) (h : (t.text.toList == restL) = true) : t.kind = 1 := by
  refine hn.2 ⟨95, [95, 86, 65, 95, 65, 82, 71, 83, 95, 95], ?_, by decide⟩
  rw [← toList_data]
  exact eq_of_beq h
theorem isPar_has {ps : List ByteArray} {t : Tk} (hp : ∀ p ∈ ps, LetS p) (hn : NameIs t.kind t.text.data.toList) : isPar ps t = Lib.containsS ps t.text := by
  unfold isPar
  rcases hc : Lib.containsS ps t.text with _ | _
  · simp
  · have := hn.2 (hp _ ((Lib.containsS_iff _ _).1 hc))
    simp [this]
theorem rchk_eq {call more : Bool} {ps : List ByteArray} {bs : List Tk} {i : Nat} (hi : i < bs.length) (hp : ∀ p ∈ ps, LetS p) (hn : ∀ t ∈ bs, NameIs t.kind t.text.data.toList) : rchk call more ps bs i = wrongBd call more ps bs i := by
  have h3 : (!((tokAt bs i).kind == 5) && ((tokAt bs i).text.toList == restL)) = (((tokAt bs i).kind == 1) && ((tokAt bs i).text.toList == restL)) := by
    rcases hr : ((tokAt bs i).text.toList == restL) with _ | _
    · simp
    · have := name_of_rest (hn _ (tok_mem hi)) hr
      rw [this]; rfl
  have h2 : (decide (i + 1 = bs.length) || !Lib.containsS ps (tokAt bs (i + 1)).text) = !isPar ps (tokAt bs (i + 1)) := by
    by_cases he : i + 1 = bs.length
    · have e : (tokAt bs (i + 1)).kind = 0 := by rw [tokAt_out (by omega)]; exact (endTk_text bs).2
      have : isPar ps (tokAt bs (i + 1)) = false := by unfold isPar; rw [e]; rfl
      rw [this]; simp [he]
    · rw [isPar_has hp (hn _ (tok_mem (by omega)))]
      simp [he]
  unfold rchk wrongBd
  rw [h2, h3]
theorem nextP_let {t : Tk} (hn : NameIs t.kind t.text.data.toList) (h : (t.text.toList == dotsL) = true ∨ t.kind = 1) : LetS (nextP t) := by
  unfold nextP
  rcases hd : (t.text.toList == dotsL) with _ | _
  · rw [if_neg (by decide)]
    rcases h with h | h
    · rw [hd] at h; cases h
    · exact hn.1 h
  · rw [if_pos rfl]
    exact ⟨95, [95, 86, 65, 95, 65, 82, 71, 83, 95, 95], rfl, by decide⟩
/-- All parameters begin with a letter. -/
theorem par_let {ts : List Tk} (hn : ∀ t ∈ ts, NameIs t.kind t.text.data.toList) : ∀ (f i : Nat) (ps : List ByteArray) (more : Bool), (∀ p ∈ ps, LetS p) → ∀ p ∈ (parL ts f i ps more).1, LetS p
  | 0, i, ps, more, h => by unfold parL; exact h
  | f + 1, i, ps, more, h => by
    obtain ⟨R, hR⟩ : ∃ R, parL ts (f + 1) i ps more = R := ⟨_, rfl⟩
    rw [hR]
    by_cases hw : wrongP ps more (tokAt ts i) = 0
    · have hcase : ((tokAt ts i).text.toList == dotsL) = true ∨ (tokAt ts i).kind = 1 := by
        unfold wrongP at hw
        rcases hd : ((tokAt ts i).text.toList == dotsL) with _ | _
        · right
          rcases hk : ((tokAt ts i).kind == 1) with _ | _
          · rw [hd, hk] at hw; simp at hw
          · exact eq_of_beq hk
        · exact .inl rfl
      have hlt : i < ts.length := by
        by_cases hlt : i < ts.length
        · exact hlt
        · exfalso
          obtain ⟨e1, e2⟩ := endTk_text ts
          rw [tokAt_out (Nat.le_of_not_lt hlt), e1, e2] at hcase
          rcases hcase with h | h
          · cases h
          · cases h
      have h' : ∀ p ∈ ps ++ [nextP (tokAt ts i)], LetS p := fun p hp => by
        rcases List.mem_append.1 hp with hp | hp
        · exact h p hp
        · rw [List.mem_singleton.1 hp]; exact nextP_let (hn _ (tok_mem hlt)) hcase
      rcases par_right hR (by omega) hw with ⟨_, e⟩ | ⟨_, _, e⟩ | ⟨_, _, e⟩
      · rw [e]; exact h'
      · rw [← e]; exact par_let hn _ _ _ _ h'
      · rw [e]; exact h'
    · rw [par_wrong hR (by omega) hw]; exact h
/-- So does the whole head's. -/
theorem head_let {ts : List Tk} (hn : ∀ t ∈ ts, NameIs t.kind t.text.data.toList) : ∀ p ∈ (headL ts).params, LetS p := by
  unfold headL
  split
  · split
    · exact fun p hp => by cases hp
    · split
      · dsimp only
        split
        · exact fun p hp => by cases hp
        · exact par_let hn _ _ _ _ (fun p hp => by cases hp)
      · exact fun p hp => by cases hp
  · exact fun p hp => by cases hp
/-- A body's tokens are names as they were. -/
theorem body_names {ts : List Tk} (hn : ∀ t ∈ ts, NameIs t.kind t.text.data.toList) (i : Nat) : ∀ t ∈ bodyL ts i (ts.length - i), NameIs t.kind t.text.data.toList := fun t ht => by
  unfold bodyL at ht
  obtain ⟨j, hj, rfl⟩ := List.mem_map.1 ht
  have hj := List.mem_range.1 hj
  exact hn (tokAt ts (i + j)) (tok_mem (by omega))
/-- Names are neither commas nor brackets. -/
theorem names_plain {ts : List Tk} (hn : ∀ t ∈ ts, NameIs t.kind t.text.data.toList) : ∀ t ∈ ts, (t.kind == 1) = true → (t.text.toList == [44]) = false ∧ (t.text.toList == [41]) = false := fun t ht hk => by
  obtain ⟨c, r, e, hl⟩ := (hn t ht).1 (eq_of_beq hk)
  rw [toList_data, e]
  constructor
  · rcases h : (c :: r == [44]) with _ | _
    · rfl
    · have := eq_of_beq h
      cases this
      revert hl; decide
  · rcases h : (c :: r == [41]) with _ | _
    · rfl
    · have := eq_of_beq h
      cases this
      revert hl; decide
end
section
open Go.RowKit Go.Shelf

/-- The parameters, as the whole says them. -/
def parA (ts : List Tk) : List ByteArray × Bool × Nat × Int := if (tokAt ts 2).text.toList == [41] then ([], false, 3, 0) else parL ts 7 2 [] false
/-- What the document's own answers. -/
def RParPost (w0 : World) (B : Nat) (nm : ByteArray) (ts : List Tk) (R : List ByteArray × Bool × Nat × Int) (e : Ending) (w' : World) : Prop :=
  Below w0.heap.size w0 w' ∧
  ((R.2.2.2 = 0 ∧ e = .returned (.tuple #[.int .i64 (R.2.2.1 : Int), .agg #[.int .i64 0, .int .i64 (-1), .int .i64 0]]) ∧ ∃ pa pc base, MBox w' B ⟨nm, true, pa, R.1.length, pc, R.2.1, none, 0, 0⟩ ∧ B < base ∧ w'.ownsRow base 9 1 (.slice pa R.1.length pc) R.1.length (txts R.1)) ∨
   (R.2.2.2 ≠ 0 ∧ e = .returned (.tuple #[.int .i64 0, .agg #[.int .i64 R.2.2.2, .int .i64 (tokAt ts R.2.2.1).file, .int .i64 (tokAt ts R.2.2.1).lo]])))
/-- Where a round stands. -/
inductive Mode (ts : List Tk) (R : List ByteArray × Bool × Nat × Int) (i : Nat) (ps : List ByteArray) (more : Bool) : Prop where
  | next (f : Nat) (is : parL ts f i ps more = R) (fuel : 7 ≤ f + ps.length) (few : ps.length ≤ 6) (pos : i = 2 + 2 * ps.length) (ahead : i < ts.length → ((tokAt ts i).text.toList == [41]) = true → i ≠ 2 ∧ ((tokAt ts (i - 1)).text.toList == [44]) = true) (nod : ∀ p ∈ ps, (p.toList == dotsL) = false) : Mode ts R i ps more
  | close (lt : i < ts.length) (is : ((tokAt ts i).text.toList == [41]) = true) (ahead : i = 2 ∨ ((tokAt ts (i - 1)).text.toList == [44]) = false) (two : 2 ≤ i) (few : i ≤ 16) (r : R = (ps, more, i + 1, 0)) : Mode ts R i ps more
  | none (ge : ts.length ≤ i) (few : i ≤ 16) (r : R = (ps, more, i, 2)) : Mode ts R i ps more
/-- How a round goes. -/
inductive Round (ts : List Tk) (R : List ByteArray × Bool × Nat × Int) (i : Nat) (ps : List ByteArray) (more : Bool) : Prop where
  | out (ge : ts.length ≤ i) (e : R.2.2.2 = 2) (at' : R.2.2.1 = i) : Round ts R i ps more
  | close (x : Tk) (hx : ts[i]? = some x) (is : (x.text.toList == [41]) = true) (ahead : i = 2 ∨ ∃ y, ts[i - 1]? = some y ∧ (y.text.toList == [44]) = false) (two : 2 ≤ i) (r : R = (ps, more, i + 1, 0)) : Round ts R i ps more
  | wrong (x : Tk) (hx : ts[i]? = some x) (ahead : (x.text.toList == [41]) = false ∨ (i ≠ 2 ∧ ∃ y, ts[i - 1]? = some y ∧ (y.text.toList == [44]) = true)) (two : 2 ≤ i) (at' : R.2.2.1 = i)
      (e : (more = true ∧ R.2.2.2 = 2) ∨ (more = false ∧ (x.text.toList == dotsL) = false ∧ (((x.kind == 1) = false ∧ R.2.2.2 = 2) ∨ ((x.kind == 1) = true ∧ (x.text.toList == restL) = true ∧ R.2.2.2 = 2) ∨ ((x.kind == 1) = true ∧ (x.text.toList == restL) = false ∧ Lib.containsS ps x.text = true ∧ R.2.2.2 = 7)))) : Round ts R i ps more
  | right (x : Tk) (hx : ts[i]? = some x) (ahead : (x.text.toList == [41]) = false) (two : 2 ≤ i) (nom : more = false) (len : ps.length ≤ 6)
      (e : (x.text.toList == dotsL) = true ∨ ((x.text.toList == dotsL) = false ∧ (x.kind == 1) = true ∧ (x.text.toList == restL) = false ∧ Lib.containsS ps x.text = false))
      (r : (ps.length = 6 ∧ R.2.2.1 = i ∧ R.2.2.2 = 5) ∨
        (ps.length ≠ 6 ∧ ((∃ y, ts[i + 1]? = some y ∧ (y.text.toList == [44]) = true ∧ Mode ts R (i + 2) (ps ++ [nextP x]) (x.text.toList == dotsL)) ∨
          (∃ y, ts[i + 1]? = some y ∧ (y.text.toList == [44]) = false ∧ (y.text.toList == [41]) = true ∧ Mode ts R (i + 1) (ps ++ [nextP x]) (x.text.toList == dotsL)) ∨
          (∃ y, ts[i + 1]? = some y ∧ (y.text.toList == [44]) = false ∧ (y.text.toList == [41]) = false ∧ R.2.2.1 = i + 1 ∧ R.2.2.2 = 2) ∨
          (ts.length ≤ i + 1 ∧ Mode ts R (i + 1) (ps ++ [nextP x]) (x.text.toList == dotsL))))) : Round ts R i ps more

theorem tok_in {ts : List Tk} {i : Nat} (h : i < ts.length) : ts[i]? = some (tokAt ts i) := by
  have e := List.getElem?_eq_getElem h
  rw [tokAt_in e]
  exact e
theorem not_had {ps : List ByteArray} {x : ByteArray} (h : ∀ p ∈ ps, (p.toList == dotsL) = false) (hx : (x.toList == dotsL) = true) : Lib.containsS ps x = false :=
  contains_no fun j q hq => by rw [eq_of_beq hx]; exact h q (List.mem_of_getElem? hq)
theorem nextP_nod (x : Tk) : ((nextP x).toList == dotsL) = false := by
  unfold nextP
  rcases h : (x.text.toList == dotsL) with _ | _
  · rw [if_neg (by decide)]; exact h
  · rw [if_pos rfl]; rw [toList_data]; decide
theorem Mode.round {ts : List Tk} {R : List ByteArray × Bool × Nat × Int} {i : Nat} {ps : List ByteArray} {more : Bool} (hn : ∀ t ∈ ts, (t.kind == 1) = true → (t.text.toList == [44]) = false ∧ (t.text.toList == [41]) = false) (h : Mode ts R i ps more) : Round ts R i ps more := by
  rcases h with ⟨f, his, hfu, hfew, hpos, hah, hnod⟩ | ⟨hlt, his, hah, h2, h16, hr⟩ | ⟨hge, h16, hr⟩
  · by_cases hlt : i < ts.length
    · have hx := tok_in hlt
      have hf1 : 1 ≤ f := by omega
      have hah' : ((tokAt ts i).text.toList == [41]) = false ∨ (i ≠ 2 ∧ ∃ y, ts[i - 1]? = some y ∧ (y.text.toList == [44]) = true) := by
        rcases h41 : ((tokAt ts i).text.toList == [41]) with _ | _
        · exact .inl rfl
        · have := hah hlt h41
          exact .inr ⟨this.1, _, tok_in (by omega), this.2⟩
      have h1 : (tokAt ts (i + 1)).text.toList == [44] → i + 1 < ts.length := fun h => tok_there h
      have h2 : (tokAt ts (i + 1)).text.toList == [41] → i + 1 < ts.length := fun h => tok_there h
      have hk44 : ((tokAt ts i).kind == 1) = true → ((tokAt ts i).text.toList == [44]) = false := fun h => (hn _ (List.mem_of_getElem? hx) h).1
      have hk41 : ((tokAt ts i).kind == 1) = true → ((tokAt ts i).text.toList == [41]) = false := fun h => (hn _ (List.mem_of_getElem? hx) h).2
      have hd41 : ((tokAt ts i).text.toList == dotsL) = true → ((tokAt ts i).text.toList == [41]) = false := fun h => by rw [eq_of_beq h]; decide
      have hd44 : ((tokAt ts i).text.toList == dotsL) = true → ((tokAt ts i).text.toList == [44]) = false := fun h => by rw [eq_of_beq h]; decide
      by_cases hw : wrongP ps more (tokAt ts i) = 0
      · have HP := par_right his hf1 hw
        have hnod' : ∀ p ∈ ps ++ [nextP (tokAt ts i)], (p.toList == dotsL) = false := fun p hp => by
          rcases List.mem_append.1 hp with h | h
          · exact hnod p h
          · rw [List.mem_singleton.1 h]; exact nextP_nod _
        have hl6 := wrongP_len hw
        have hll : (ps ++ [nextP (tokAt ts i)]).length = ps.length + 1 := by simp
        have hcase : more = false ∧ (((tokAt ts i).text.toList == dotsL) = true ∨ (((tokAt ts i).text.toList == dotsL) = false ∧ ((tokAt ts i).kind == 1) = true ∧ ((tokAt ts i).text.toList == restL) = false ∧ Lib.containsS ps (tokAt ts i).text = false)) := by
          unfold wrongP at hw
          rcases more with _ | _
          · refine ⟨rfl, ?_⟩
            rcases hd : ((tokAt ts i).text.toList == dotsL) with _ | _
            · refine .inr ⟨rfl, ?_⟩
              rw [hd] at hw
              rcases hk : ((tokAt ts i).kind == 1) with _ | _ <;> rcases hr : ((tokAt ts i).text.toList == restL) with _ | _ <;> rcases hc : (Lib.containsS ps (tokAt ts i).text) with _ | _ <;> simp [hk, hr, hc] at hw ⊢
            · exact .inl rfl
          · simp at hw
        have hne44 : ((tokAt ts i).text.toList == [44]) = false := by
          rcases hcase.2 with h | h
          · exact hd44 h
          · exact hk44 h.2.1
        refine .right _ hx (hcase.2.elim hd41 fun h => hk41 h.2.1) (by omega) hcase.1 hfew hcase.2 (.inr ⟨hl6, ?_⟩)
        rcases HP with ⟨a, hR⟩ | ⟨a, b, hR⟩ | ⟨a, b, hR⟩
        · refine .inr (.inl ⟨_, tok_in (h2 a), by rw [eq_of_beq a]; decide, a, .close (h2 a) a (.inr ?_) (by omega) (by omega) hR⟩)
          rw [Nat.add_sub_cancel]; exact hne44
        · refine .inl ⟨_, tok_in (h1 b), b, .next (f - 1) hR (by omega) (by omega) (by omega) (fun _ _ => ⟨by omega, ?_⟩) hnod'⟩
          rw [show i + 2 - 1 = i + 1 by omega]; exact b
        · by_cases hl : i + 1 < ts.length
          · exact .inr (.inr (.inl ⟨_, tok_in hl, b, a, by rw [hR], by rw [hR]⟩))
          · exact .inr (.inr (.inr ⟨by omega, .none (by omega) (by omega) hR⟩))
      · have hR := par_wrong his hf1 hw
        unfold wrongP at hw hR
        rcases more with _ | _
        · rcases hd : ((tokAt ts i).text.toList == dotsL) with _ | _
          · rw [hd] at hw hR
            rcases hk : ((tokAt ts i).kind == 1) with _ | _
            · exact .wrong _ hx hah' (by omega) (by rw [hR]) (.inr ⟨rfl, hd, .inl ⟨hk, by rw [hR]; simp [hk]⟩⟩)
            · rcases hr : ((tokAt ts i).text.toList == restL) with _ | _
              · rcases hc : (Lib.containsS ps (tokAt ts i).text) with _ | _
                · refine .right _ hx (hk41 hk) (by omega) rfl hfew (.inr ⟨hd, hk, hr, hc⟩) (.inl ?_)
                  simp [hk, hr, hc] at hw hR
                  rw [if_pos hw] at hR
                  exact ⟨hw, by rw [hR], by rw [hR]⟩
                · exact .wrong _ hx hah' (by omega) (by rw [hR]) (.inr ⟨rfl, hd, .inr (.inr ⟨hk, hr, hc, by rw [hR]; simp [hk, hr, hc]⟩)⟩)
              · exact .wrong _ hx hah' (by omega) (by rw [hR]) (.inr ⟨rfl, hd, .inr (.inl ⟨hk, hr, by rw [hR]; simp [hr]⟩)⟩)
          · have hr : ((tokAt ts i).text.toList == restL) = false := by rw [eq_of_beq hd]; decide
            have hc := not_had hnod hd
            refine .right _ hx (hd41 hd) (by omega) rfl hfew (.inl hd) (.inl ?_)
            simp [hd, hr, hc] at hw hR
            rw [if_pos hw] at hR
            exact ⟨hw, by rw [hR], by rw [hR]⟩
        · exact .wrong _ hx hah' (by omega) (by rw [hR]) (.inl ⟨rfl, by rw [hR]; simp⟩)
    · have hw : wrongP ps more (tokAt ts i) = 2 := by
        obtain ⟨e1, e2⟩ := endTk_text ts
        rw [tokAt_out (Nat.le_of_not_lt hlt)]
        unfold wrongP
        rw [e1, e2]
        simp [dotsL, restL]
      have hR := par_wrong his (by omega) (by rw [hw]; decide)
      exact .out (Nat.le_of_not_lt hlt) (by rw [hR, hw]) (by rw [hR])
  · refine .close _ (tok_in hlt) his ?_ h2 hr
    rcases hah with h | h
    · exact .inl h
    · exact .inr ⟨_, tok_in (by omega), h⟩
  · exact .out hge (by rw [hr]) (by rw [hr])
theorem Mode.le {ts : List Tk} {R : List ByteArray × Bool × Nat × Int} {i : Nat} {ps : List ByteArray} {more : Bool} (h : Mode ts R i ps more) : i ≤ 16 := by
  rcases h with ⟨f, his, hfu, hfew, hpos, hah, hnod⟩ | ⟨hlt, his, hah, h2, h16, hr⟩ | ⟨hge, h16, hr⟩
  · omega
  · exact h16
  · exact h16
/-- The state ahead of a round. -/
structure RPSt (w0 : World) (B F base : Nat) (nm : ByteArray) (ps : List ByteArray) (more : Bool) (pa : Option Addr) (pc : Nat) (W : World) : Prop where
  got : Got w0 B base nm ps more pa pc W
  flt : FBy W F 0 0 0
  few : ps.length ≤ 1048576
theorem RPSt.lower {w0 : World} {B F base : Nat} {nm : ByteArray} {ps : List ByteArray} {more : Bool} {pa : Option Addr} {pc : Nat} {W W' : World} (h : RPSt w0 B F base nm ps more pa pc W) (hb : Below W.heap.size W W') : RPSt w0 B F base nm ps more pa pc W' := ⟨h.got.lower hb, h.flt.below hb, h.few⟩
theorem rpar_ret {W : World} {F : Nat} {e f g : Int} (hF : FBy W F e f g) (tmps : Array Value) (v : Value) (h2 : tmps.getD 4 undef = v) (h3 : tmps.getD 5 undef = .pointer (some ⟨F, 0, none⟩)) :
    (results Tryz.f33 tmps).run Tryz.prog W = .ok (.tuple #[v, .agg #[.int .i64 e, .int .i64 f, .int .i64 g]]) W := by
  obtain ⟨c0, c1, c2, _⟩ := hF.facts
  subst h2
  simp at h3
  simp [results, Tryz.results33, go_sem, h3, c0, c1, c2]

theorem Got.set1 {w0 : World} {B base : Nat} {nm : ByteArray} {ps : List ByteArray} {more : Bool} {pa : Option Addr} {pc : Nat} {W : World} (h : Got w0 B base nm ps more pa pc W) {F : Nat} (hF : F < base) (hB : B ≠ F) (h0 : w0.heap.size ≤ F) (o : Nat) (v : Value) : Got w0 B base nm ps more pa pc (W.setCell ⟨F, o, none⟩ v) :=
  ⟨h.below.setCell (p := ⟨F, o, none⟩) h0 _, by unfold MBox; rw [Below.heap_setCell _ _ _ B hB]; exact h.box, own_set h.row hF, by simpa using h.base⟩
theorem Got.fault {w0 : World} {B base : Nat} {nm : ByteArray} {ps : List ByteArray} {more : Bool} {pa : Option Addr} {pc : Nat} {W : World} (h : Got w0 B base nm ps more pa pc W) {F : Nat} (hF : F < base) (hB : B ≠ F) (h0 : w0.heap.size ≤ F) (u v x : Value) : Got w0 B base nm ps more pa pc (((W.setCell ⟨F, 0, none⟩ u).setCell ⟨F, 1, none⟩ v).setCell ⟨F, 2, none⟩ x) :=
  ((h.set1 hF hB h0 0 u).set1 hF hB h0 1 v).set1 hF hB h0 2 x
theorem nxt_val (i : Nat) : Value.int .i64 ((i : Int) + 1) = .int .i64 ((i + 1 : Nat) : Int) := by
  rw [show ((i + 1 : Nat) : Int) = (i : Int) + 1 from by omega]
theorem Got.closed {w0 : World} {B base : Nat} {nm : ByteArray} {ts : List Tk} {ps : List ByteArray} {more : Bool} {pa : Option Addr} {pc : Nat} {W : World} (hg : Got w0 B base nm ps more pa pc W) (hBb : B < base) (R : List ByteArray × Bool × Nat × Int) (i : Nat) (hr : R = (ps, more, i + 1, 0)) :
    RParPost w0 B nm ts R (.returned (.tuple #[.int .i64 ((i : Int) + 1), .agg #[.int .i64 0, .int .i64 (-1), .int .i64 0]])) W := by
  subst hr
  exact ⟨hg.below, .inl ⟨rfl, by rw [nxt_val], pa, pc, base, hg.box, hBb, hg.row⟩⟩
theorem wrong_end {w0 : World} {B F : Nat} {nm : ByteArray} {ts : List Tk} {W : World} (hb : Below w0.heap.size w0 W) (h0 : w0.heap.size ≤ F) (R : List ByteArray × Bool × Nat × Int) {i : Nat} {e : Int} (hat : R.2.2.1 = i) (he : R.2.2.2 = e) (he0 : e ≠ 0) (u v x : Value) :
    RParPost w0 B nm ts R (.returned (.tuple #[.int .i64 0, .agg #[.int .i64 e, .int .i64 (tokAt ts i).file, .int .i64 (tokAt ts i).lo]])) (((W.setCell ⟨F, 0, none⟩ u).setCell ⟨F, 1, none⟩ v).setCell ⟨F, 2, none⟩ x) := by
  subst hat he
  exact ⟨FBy.frame hb h0 _ _ _, .inr ⟨he0, rfl⟩⟩
theorem Got.more {w0 : World} {B base : Nat} {nm : ByteArray} {ps : List ByteArray} {more : Bool} {pa : Option Addr} {pc : Nat} {W : World} (h : Got w0 B base nm ps more pa pc W) (hB : w0.heap.size ≤ B) (hBb : B < base) (d : Bool) : Got w0 B base nm ps d pa pc (W.setCell ⟨B, 3, none⟩ (.bool d)) := by
  have hb := Go.Joins.block_setCell (i := 3) h.box (.bool d)
  exact ⟨h.below.setCell (p := ⟨B, 3, none⟩) hB _, by simpa [MBox] using hb, own_set h.row hBb, by simpa using h.base⟩
theorem RPSt.more {w0 : World} {B F base : Nat} {nm : ByteArray} {ps : List ByteArray} {more : Bool} {pa : Option Addr} {pc : Nat} {W : World} (h : RPSt w0 B F base nm ps more pa pc W) (hB : w0.heap.size ≤ B) (hBb : B < base) (hBF : F ≠ B) (d : Bool) : RPSt w0 B F base nm ps d pa pc (W.setCell ⟨B, 3, none⟩ (.bool d)) :=
  ⟨h.got.more hB hBb d, by unfold FBy; rw [Below.heap_setCell _ _ _ F hBF]; exact h.flt, h.few⟩
/-- Behind the append. -/
theorem RPSt.after {w0 : World} {B F base : Nat} {nm : ByteArray} {ps : List ByteArray} {more : Bool} {pa : Option Addr} {pc : Nat} {W : World} (h : RPSt w0 B F base nm ps more pa pc W) (hBb : B < base) (hFb : F < base) (hw0 : w0.heap.size ≤ base) {w4 : World} (hg : W.grownBy w4 (Value.slice pa ps.length pc).ownBlock) :
    MBox w4 B ⟨nm, true, pa, ps.length, pc, more, none, 0, 0⟩ ∧ FBy w4 F 0 0 0 ∧ Below w0.heap.size w0 w4 ∧ base ≤ w4.heap.size := by
  have hrl : ∀ k, (Value.slice pa ps.length pc).ownBlock = some k → base ≤ k := fun k e => (h.got.row.lt k e).1
  have hB := hg.block B (lt_of_block h.got.box) (fun e => by have := hrl B e.symm; omega)
  have hF := hg.block F (lt_of_block h.flt) (fun e => by have := hrl F e.symm; omega)
  exact ⟨hB.trans h.got.box, hF.trans h.flt, h.got.below.grown hg h.got.below.size (fun k e => Nat.le_trans hw0 (hrl k e)), Nat.le_trans h.got.base hg.size⟩
theorem rpst_of {w0 : World} {B F base : Nat} {nm : ByteArray} {ps : List ByteArray} {more : Bool} {pa a4 : Option Addr} {pc c4 : Nat} {tx : ByteArray} {w4 : World} (h : MBox w4 B ⟨nm, true, pa, ps.length, pc, more, none, 0, 0⟩ ∧ FBy w4 F 0 0 0 ∧ Below w0.heap.size w0 w4 ∧ base ≤ w4.heap.size) (hB : w0.heap.size ≤ B) (hBb : B < base) (hBF : F ≠ B) (hf : ps.length ≤ 6) (ho : w4.ownsRow base 9 1 (.slice a4 (ps.length + 1) c4) (ps.length + 1) (txts ps ++ [.string tx])) :
    RPSt w0 B F base nm (ps ++ [tx]) more a4 c4 (w4.setCell ⟨B, 2, none⟩ (.slice a4 (ps.length + 1) c4)) :=
  ⟨got_of h.1 h.2.2.1 h.2.2.2 hB hBb ho, by unfold FBy; rw [Below.heap_setCell _ _ _ F hBF]; exact h.2.1, by simp; omega⟩
theorem less_s {i j : Nat} (h : i ≤ 16) (hij : i < j) {x : Value} (hx : x = .int .i64 (j : Int)) : 100 - (intOf x).toNat < 100 - (intOf (.int .i64 (i : Int))).toNat := by
  subst hx; simp [intOf]; omega
theorem tk_cellsP {w : World} {b o : Nat} {x : Tk} (h : ∀ (k : Nat) v, (encT x)[k]? = some v → w.cell? ⟨b, o + k, none⟩ = some v) :
    w.cell? ⟨b, o, none⟩ = some (.int .i64 x.kind) ∧ w.cell? ⟨b, o + 1, none⟩ = some (.string x.text) ∧ w.cell? ⟨b, o + 2, none⟩ = some (.bool x.space) ∧ w.cell? ⟨b, o + 3, none⟩ = some (.bool x.first) ∧ w.cell? ⟨b, o + 4, none⟩ = some (.int .i64 x.file) ∧ w.cell? ⟨b, o + 5, none⟩ = some (.int .i64 x.lo) ∧ w.cell? ⟨b, o + 6, none⟩ = some (.int .i64 x.hi) ∧ w.cell? ⟨b, o + 7, none⟩ = some (.int .i64 x.line) ∧ w.cell? ⟨b, o + 8, none⟩ = some (.slice none 0 0) ∧ w.cell? ⟨b, o + 9, none⟩ = some (.slice none 0 0) ∧ w.cell? ⟨b, o + 10, none⟩ = some (.int .i64 0) :=
  ⟨h 0 _ rfl, h 1 _ rfl, h 2 _ rfl, h 3 _ rfl, h 4 _ rfl, h 5 _ rfl, h 6 _ rfl, h 7 _ rfl, h 8 _ rfl, h 9 _ rfl, h 10 _ rfl⟩

set_option maxRecDepth 100000 in
set_option maxHeartbeats 2000000 in
theorem RParams_any (w0 : World) (B : Nat) (nm : ByteArray) (a : Option Addr) (c : Nat) (ts : List Tk) (w : World) (hT : TAt w0 a ts) (hl : ts.length ≤ 1048576) (hn : ∀ t ∈ ts, (t.kind == 1) = true → (t.text.toList == [44]) = false ∧ (t.text.toList == [41]) = false) (hb : Below w0.heap.size w0 w) (hB : w0.heap.size ≤ B) (hM : MBox w B ⟨nm, true, none, 0, 0, false, none, 0, 0⟩) :
    Calls Tryz.prog 33 #[.slice a ts.length c, .pointer (some ⟨B, 0, none⟩)] w (RParPost w0 B nm ts (parA ts)) := by
  have HB := hid hb
  have HT := hid hT
  have HM := hid hM
  have HMo : Hid (Mode ts (parA ts) 2 [] false) := by
    unfold parA
    rcases h2 : ((tokAt ts 2).text.toList == [41]) with _ | _
    · rw [if_neg (by decide)]
      exact .next 7 rfl (by simp) (by simp) rfl (fun _ h => by rw [h2] at h; cases h) (fun p hp => by cases hp)
    · rw [if_pos rfl]
      exact .close (tok_there h2) h2 (.inl rfl) (by decide) (by decide) rfl
  have HN := hid hn
  have HAt := hid (fun (i : Nat) (e0 : Int) W (hW : Below w0.heap.size w0 W) => rat_any a c ts i e0 W (HT.out.below hW) hl)
  have HHas := hid (fun pa pc (ps : List ByteArray) s W (h : StAt W pa ps) (hs : ps.length ≤ 1048576) => RHas_any pa pc ps s W h hs)
  generalize parA ts = R at HMo ⊢
  obtain ⟨N, hN⟩ : ∃ N, ts.length = N := ⟨_, rfl⟩
  have HNN := hid hN
  rw [hN] at HAt hl ⊢
  clear hT hb hM hn hN
  go_enter Tryz.func33, Tryz.ntmps33
  go_wp2_with fail
  have HS0 : Hid (RPSt w0 B w.heap.size (w.heap.size + 1) nm [] false none 0 (w.alloc (.cells #[.int .i64 0, .int .i64 0, .int .i64 0] 29))) := ⟨⟨HB.out.alloc HB.out.size _, HM.out.below ((Below.refl _ w).alloc (Nat.le_refl _) _), World.ownsRow_nil _ _ _ _, by simp⟩, FBy.new w 0 0 0, by simp⟩
  have HBF := hid (lt_of_block HM.out)
  have HwF := hid HB.out.size
  go_loopw [6] (fun si wr => ∃ (i : Nat) (ps : List ByteArray) (more : Bool) (pa : Option Addr) (pc : Nat), si = .int .i64 (i : Int) ∧ Hid (Mode ts R i ps more) ∧ Hid (RPSt w0 B w.heap.size (w.heap.size + 1) nm ps more pa pc wr)) (fun si _ => 100 - (intOf si).toNat)
  case atStart => exact ⟨2, [], false, none, 0, rfl, HMo, HS0⟩
  case round =>
    clear HS0 HMo HB HM
    generalize w.heap.size = F at *
    obtain ⟨i, ps, more, pa, pc, rfl, HMo, HS⟩ := hrel
    have hi16 := HMo.out.le
    have HR := hid (HMo.out.round HN.out)
    clear HMo
    obtain ⟨z0, z1, z2, z3, z4, z5⟩ := HS.out.flt.facts
    rcases HR.out with ⟨hge, he, hat⟩ | ⟨x, hx, his, hah, h2, hr⟩ | ⟨x, hx, hah, h2, hat, he⟩ | ⟨x, hx, hah, h2, hnom, hlen, hcs, hr⟩
    · have hgi : ¬ ((i : Int) < (N : Int)) := by have := HNN.out; omega
      have Hat := hid hat
      have He := hid he
      clear hat he hge HR
      go_wp2_with fail
      refine (HAt.out i 2 _ HS.out.got.below).mono ?_
      rintro e w1 ⟨rfl, hb1⟩
      have HS1 := hid (HS.out.lower hb1)
      clear z0 z1 z2 z3 z4 z5 hb1
      obtain ⟨z0, z1, z2, z3, z4, z5⟩ := HS1.out.flt.facts
      go_wp2_with fail
      exact bodyPost_ret (rpar_ret (HS1.out.flt.set 2 _ _) _ _ rfl rfl) rfl ⟨FBy.frame HS1.out.got.below HwF.out _ _ _, .inr ⟨by rw [He.out]; decide, by rw [He.out, Hat.out]; rfl⟩⟩
    · rcases HT.out with h0 | ⟨bb, off, rfl, hbb, hc⟩
      · rw [h0] at hx; cases hx
      have hlt : i < N := by have := HNN.out; have := (List.getElem?_eq_some_iff.1 hx).1; omega
      have hcx : ∀ (k : Nat) v, (encT x)[k]? = some v → wr.cell? ⟨bb, off + i * 11 + k, none⟩ = some v := fun k v hv => (HS.out.got.below.cell (p := ⟨bb, _, none⟩) hbb).trans (hc i x hx k v hv)
      have hcy : ∀ W, Below w0.heap.size w0 W → ∀ j y, ts[j]? = some y → W.cell? ⟨bb, off + j * 11 + 1, none⟩ = some (.string y.text) := fun W hW j y hy => (hW.cell (p := ⟨bb, _, none⟩) hbb).trans (hc j y hy 1 _ rfl)
      have HCY := hid hcy
      obtain ⟨c0, c1, c2, c3, c4, c5, c6, c7, c8, c9, c10⟩ := tk_cellsP hcx
      have hii : (i : Int) < (N : Int) := Int.ofNat_lt.2 hlt
      have hi0 : (0 : Int) ≤ (i : Int) := Int.natCast_nonneg _
      have hip := nxt_k (k := i) (by omega)
      have hiw := nxt_w (k := i) (by omega)
      obtain ⟨m, hm⟩ : ∃ m, m + 1 = i := ⟨i - 1, by omega⟩
      have hwm : IntKind.i64.wrap ((i : Int) - 1) = (m : Int) := by rw [IntKind.wrap_i64]; omega
      have hm0 : (0 : Int) ≤ (m : Int) := Int.natCast_nonneg _
      have hmi : (m : Int) < (N : Int) := by omega
      have hmn : m < N := by omega
      have HX := hid hx
      have HS1 := hid (HS.out.lower ((Below.refl _ wr).alloc (Nat.le_refl _) (.cells #[.int .i64 x.kind, .string x.text, .bool x.space, .bool x.first, .int .i64 x.file, .int .i64 x.lo, .int .i64 x.hi, .int .i64 x.line, .slice none 0 0, .slice none 0 0, .int .i64 0] 43)))
      obtain ⟨⟨m0, m1, m2, m3, m4⟩, ⟨n0, n1, n2, n3, n4⟩⟩ := HS.out.got.box.facts
      dsimp only at m0 m1 m2 m3 m4
      have Hm := hid hm
      have hFl : F < wr.heap.size := lt_of_block HS.out.flt
      have hBl : B < wr.heap.size := lt_of_block HS.out.got.box
      have hbw : bb < wr.heap.size := Nat.lt_of_lt_of_le hbb HS.out.got.below.size
      clear hcy hcx hc hx HR hm
      have Hr := hid hr
      clear hr
      by_cases hi2 : i = 2
      · have hi2' : ((i : Int) == 2) = true := by simp; omega
        have Hi2 := hid hi2
        clear hah hi2
        go_wp2_with fail
        refine bodyPost_ret (rpar_ret ((HS.out.flt.set 0 (-1) 0).below ((Below.refl _ _).alloc (Nat.le_refl _) _)) _ (.int .i64 ((i : Int) + 1)) rfl rfl) rfl ?_
        exact Got.closed ((HS.out.got.fault (Nat.lt_succ_self _) (Nat.ne_of_lt HBF.out) HwF.out _ _ _).lower ((Below.refl _ _).alloc (Nat.le_refl _) _)) (Nat.lt_succ_of_lt HBF.out) R i Hr.out
      · obtain ⟨y, hy, hy44⟩ : ∃ y, ts[m]? = some y ∧ (y.text.toList == [44]) = false := by
          rcases hah with h | h
          · exact absurd h hi2
          · rw [show i - 1 = m by have := Hm.out; omega] at h; exact h
        have hi2' : ((i : Int) == 2) = false := by simp; omega
        have hcm := HCY.out _ HS.out.got.below m y hy
        have HY := hid hy
        clear hah hi2 hy
        go_wp2_with fail
        refine bodyPost_ret (rpar_ret ((HS.out.flt.set 0 (-1) 0).below ((Below.refl _ _).alloc (Nat.le_refl _) _)) _ (.int .i64 ((i : Int) + 1)) rfl rfl) rfl ?_
        exact Got.closed ((HS.out.got.fault (Nat.lt_succ_self _) (Nat.ne_of_lt HBF.out) HwF.out _ _ _).lower ((Below.refl _ _).alloc (Nat.le_refl _) _)) (Nat.lt_succ_of_lt HBF.out) R i Hr.out
    · rcases HT.out with h0 | ⟨bb, off, rfl, hbb, hc⟩
      · rw [h0] at hx; cases hx
      have hlt : i < N := by have := HNN.out; have := (List.getElem?_eq_some_iff.1 hx).1; omega
      have hcx : ∀ (k : Nat) v, (encT x)[k]? = some v → wr.cell? ⟨bb, off + i * 11 + k, none⟩ = some v := fun k v hv => (HS.out.got.below.cell (p := ⟨bb, _, none⟩) hbb).trans (hc i x hx k v hv)
      have hcy : ∀ W, Below w0.heap.size w0 W → ∀ j y, ts[j]? = some y → W.cell? ⟨bb, off + j * 11 + 1, none⟩ = some (.string y.text) := fun W hW j y hy => (hW.cell (p := ⟨bb, _, none⟩) hbb).trans (hc j y hy 1 _ rfl)
      have HCY := hid hcy
      obtain ⟨c0, c1, c2, c3, c4, c5, c6, c7, c8, c9, c10⟩ := tk_cellsP hcx
      have hii : (i : Int) < (N : Int) := Int.ofNat_lt.2 hlt
      have hi0 : (0 : Int) ≤ (i : Int) := Int.natCast_nonneg _
      have hip := nxt_k (k := i) (by omega)
      have hiw := nxt_w (k := i) (by omega)
      obtain ⟨m, hm⟩ : ∃ m, m + 1 = i := ⟨i - 1, by omega⟩
      have hwm : IntKind.i64.wrap ((i : Int) - 1) = (m : Int) := by rw [IntKind.wrap_i64]; omega
      have hm0 : (0 : Int) ≤ (m : Int) := Int.natCast_nonneg _
      have hmi : (m : Int) < (N : Int) := by omega
      have hmn : m < N := by omega
      have HX := hid hx
      have HS1 := hid (HS.out.lower ((Below.refl _ wr).alloc (Nat.le_refl _) (.cells #[.int .i64 x.kind, .string x.text, .bool x.space, .bool x.first, .int .i64 x.file, .int .i64 x.lo, .int .i64 x.hi, .int .i64 x.line, .slice none 0 0, .slice none 0 0, .int .i64 0] 43)))
      obtain ⟨⟨m0, m1, m2, m3, m4⟩, ⟨n0, n1, n2, n3, n4⟩⟩ := HS.out.got.box.facts
      dsimp only at m0 m1 m2 m3 m4
      have Hm := hid hm
      have hFl : F < wr.heap.size := lt_of_block HS.out.flt
      have hBl : B < wr.heap.size := lt_of_block HS.out.got.box
      have hbw : bb < wr.heap.size := Nat.lt_of_lt_of_le hbb HS.out.got.below.size
      clear hcy hcx hc hx HR hm
      have Hat := hid hat
      have Hps := hid (HS.out.few)
      clear hat
      rcases hah with hp41 | ⟨hi2, y, hy, hy44⟩
      · skip
        rcases he with ⟨rfl, he⟩ | ⟨rfl, hd, (⟨hk, he⟩ | ⟨hk, hrs, he⟩ | ⟨hk, hrs, hcn, he⟩)⟩
        · have He := hid he
          clear he
          go_wp2_with fail
          refine (HAt.out i 2 _ HS1.out.got.below).mono ?_
          rintro e w1 ⟨rfl, hb1⟩
          have HS2 := hid (HS1.out.lower hb1)
          clear z0 z1 z2 z3 z4 z5 hb1
          obtain ⟨z0, z1, z2, z3, z4, z5⟩ := HS2.out.flt.facts
          go_wp2_with fail
          refine bodyPost_ret (rpar_ret (HS2.out.flt.set 2 _ _) _ (.int .i64 0) rfl rfl) rfl ?_
          exact wrong_end HS2.out.got.below HwF.out R Hat.out He.out (by decide) _ _ _
        · have He := hid he
          have hk' : (x.kind != 1) = true := by simp [bne, hk]
          clear he
          unfold dotsL at hd
          go_wp2_with fail
          refine (HAt.out i 2 _ HS1.out.got.below).mono ?_
          rintro e w1 ⟨rfl, hb1⟩
          have HS2 := hid (HS1.out.lower hb1)
          clear z0 z1 z2 z3 z4 z5 hb1
          obtain ⟨z0, z1, z2, z3, z4, z5⟩ := HS2.out.flt.facts
          go_wp2_with fail
          refine bodyPost_ret (rpar_ret (HS2.out.flt.set 2 _ _) _ (.int .i64 0) rfl rfl) rfl ?_
          exact wrong_end HS2.out.got.below HwF.out R Hat.out He.out (by decide) _ _ _
        · have He := hid he
          have hk' : (x.kind != 1) = false := by simp [bne, hk]
          clear he
          unfold dotsL at hd
          unfold restL at hrs
          go_wp2_with fail
          refine (HAt.out i 2 _ HS1.out.got.below).mono ?_
          rintro e w1 ⟨rfl, hb1⟩
          have HS2 := hid (HS1.out.lower hb1)
          clear z0 z1 z2 z3 z4 z5 hb1
          obtain ⟨z0, z1, z2, z3, z4, z5⟩ := HS2.out.flt.facts
          go_wp2_with fail
          refine bodyPost_ret (rpar_ret (HS2.out.flt.set 2 _ _) _ (.int .i64 0) rfl rfl) rfl ?_
          exact wrong_end HS2.out.got.below HwF.out R Hat.out He.out (by decide) _ _ _
        · have He := hid he
          have Hcn := hid hcn
          have hk' : (x.kind != 1) = false := by simp [bne, hk]
          clear he hcn
          unfold dotsL at hd
          unfold restL at hrs
          go_wp2_with fail
          refine (HHas.out pa pc ps x.text _ HS1.out.got.stat Hps.out).mono ?_
          rintro e w4 ⟨rfl, hb4⟩
          rw [Hcn.out]
          have HS3 := hid (HS1.out.lower hb4)
          clear hb4
          go_wp2_with fail
          refine (HAt.out i 7 _ HS3.out.got.below).mono ?_
          rintro e w1 ⟨rfl, hb1⟩
          have HS2 := hid (HS3.out.lower hb1)
          clear z0 z1 z2 z3 z4 z5 hb1
          obtain ⟨z0, z1, z2, z3, z4, z5⟩ := HS2.out.flt.facts
          go_wp2_with fail
          refine bodyPost_ret (rpar_ret (HS2.out.flt.set 7 _ _) _ (.int .i64 0) rfl rfl) rfl ?_
          exact wrong_end HS2.out.got.below HwF.out R Hat.out He.out (by decide) _ _ _
      · have hi2' : ((i : Int) == 2) = false := by simp; omega
        rw [show i - 1 = m by have := Hm.out; omega] at hy
        have hcm := HCY.out _ HS.out.got.below m y hy
        have hcm1 := HCY.out _ HS1.out.got.below m y hy
        clear hy hi2
        rcases hp41 : (x.text.toList == [41]) with _ | _
        · skip
          rcases he with ⟨rfl, he⟩ | ⟨rfl, hd, (⟨hk, he⟩ | ⟨hk, hrs, he⟩ | ⟨hk, hrs, hcn, he⟩)⟩
          · have He := hid he
            clear he
            go_wp2_with fail
            refine (HAt.out i 2 _ HS1.out.got.below).mono ?_
            rintro e w1 ⟨rfl, hb1⟩
            have HS2 := hid (HS1.out.lower hb1)
            clear z0 z1 z2 z3 z4 z5 hb1
            obtain ⟨z0, z1, z2, z3, z4, z5⟩ := HS2.out.flt.facts
            go_wp2_with fail
            refine bodyPost_ret (rpar_ret (HS2.out.flt.set 2 _ _) _ (.int .i64 0) rfl rfl) rfl ?_
            exact wrong_end HS2.out.got.below HwF.out R Hat.out He.out (by decide) _ _ _
          · have He := hid he
            have hk' : (x.kind != 1) = true := by simp [bne, hk]
            clear he
            unfold dotsL at hd
            go_wp2_with fail
            refine (HAt.out i 2 _ HS1.out.got.below).mono ?_
            rintro e w1 ⟨rfl, hb1⟩
            have HS2 := hid (HS1.out.lower hb1)
            clear z0 z1 z2 z3 z4 z5 hb1
            obtain ⟨z0, z1, z2, z3, z4, z5⟩ := HS2.out.flt.facts
            go_wp2_with fail
            refine bodyPost_ret (rpar_ret (HS2.out.flt.set 2 _ _) _ (.int .i64 0) rfl rfl) rfl ?_
            exact wrong_end HS2.out.got.below HwF.out R Hat.out He.out (by decide) _ _ _
          · have He := hid he
            have hk' : (x.kind != 1) = false := by simp [bne, hk]
            clear he
            unfold dotsL at hd
            unfold restL at hrs
            go_wp2_with fail
            refine (HAt.out i 2 _ HS1.out.got.below).mono ?_
            rintro e w1 ⟨rfl, hb1⟩
            have HS2 := hid (HS1.out.lower hb1)
            clear z0 z1 z2 z3 z4 z5 hb1
            obtain ⟨z0, z1, z2, z3, z4, z5⟩ := HS2.out.flt.facts
            go_wp2_with fail
            refine bodyPost_ret (rpar_ret (HS2.out.flt.set 2 _ _) _ (.int .i64 0) rfl rfl) rfl ?_
            exact wrong_end HS2.out.got.below HwF.out R Hat.out He.out (by decide) _ _ _
          · have He := hid he
            have Hcn := hid hcn
            have hk' : (x.kind != 1) = false := by simp [bne, hk]
            clear he hcn
            unfold dotsL at hd
            unfold restL at hrs
            go_wp2_with fail
            refine (HHas.out pa pc ps x.text _ HS1.out.got.stat Hps.out).mono ?_
            rintro e w4 ⟨rfl, hb4⟩
            rw [Hcn.out]
            have HS3 := hid (HS1.out.lower hb4)
            clear hb4
            go_wp2_with fail
            refine (HAt.out i 7 _ HS3.out.got.below).mono ?_
            rintro e w1 ⟨rfl, hb1⟩
            have HS2 := hid (HS3.out.lower hb1)
            clear z0 z1 z2 z3 z4 z5 hb1
            obtain ⟨z0, z1, z2, z3, z4, z5⟩ := HS2.out.flt.facts
            go_wp2_with fail
            refine bodyPost_ret (rpar_ret (HS2.out.flt.set 7 _ _) _ (.int .i64 0) rfl rfl) rfl ?_
            exact wrong_end HS2.out.got.below HwF.out R Hat.out He.out (by decide) _ _ _
        · skip
          rcases he with ⟨rfl, he⟩ | ⟨rfl, hd, (⟨hk, he⟩ | ⟨hk, hrs, he⟩ | ⟨hk, hrs, hcn, he⟩)⟩
          · have He := hid he
            clear he
            go_wp2_with fail
            refine (HAt.out i 2 _ HS1.out.got.below).mono ?_
            rintro e w1 ⟨rfl, hb1⟩
            have HS2 := hid (HS1.out.lower hb1)
            clear z0 z1 z2 z3 z4 z5 hb1
            obtain ⟨z0, z1, z2, z3, z4, z5⟩ := HS2.out.flt.facts
            go_wp2_with fail
            refine bodyPost_ret (rpar_ret (HS2.out.flt.set 2 _ _) _ (.int .i64 0) rfl rfl) rfl ?_
            exact wrong_end HS2.out.got.below HwF.out R Hat.out He.out (by decide) _ _ _
          · have He := hid he
            have hk' : (x.kind != 1) = true := by simp [bne, hk]
            clear he
            unfold dotsL at hd
            go_wp2_with fail
            refine (HAt.out i 2 _ HS1.out.got.below).mono ?_
            rintro e w1 ⟨rfl, hb1⟩
            have HS2 := hid (HS1.out.lower hb1)
            clear z0 z1 z2 z3 z4 z5 hb1
            obtain ⟨z0, z1, z2, z3, z4, z5⟩ := HS2.out.flt.facts
            go_wp2_with fail
            refine bodyPost_ret (rpar_ret (HS2.out.flt.set 2 _ _) _ (.int .i64 0) rfl rfl) rfl ?_
            exact wrong_end HS2.out.got.below HwF.out R Hat.out He.out (by decide) _ _ _
          · have He := hid he
            have hk' : (x.kind != 1) = false := by simp [bne, hk]
            clear he
            unfold dotsL at hd
            unfold restL at hrs
            go_wp2_with fail
            refine (HAt.out i 2 _ HS1.out.got.below).mono ?_
            rintro e w1 ⟨rfl, hb1⟩
            have HS2 := hid (HS1.out.lower hb1)
            clear z0 z1 z2 z3 z4 z5 hb1
            obtain ⟨z0, z1, z2, z3, z4, z5⟩ := HS2.out.flt.facts
            go_wp2_with fail
            refine bodyPost_ret (rpar_ret (HS2.out.flt.set 2 _ _) _ (.int .i64 0) rfl rfl) rfl ?_
            exact wrong_end HS2.out.got.below HwF.out R Hat.out He.out (by decide) _ _ _
          · have He := hid he
            have Hcn := hid hcn
            have hk' : (x.kind != 1) = false := by simp [bne, hk]
            clear he hcn
            unfold dotsL at hd
            unfold restL at hrs
            go_wp2_with fail
            refine (HHas.out pa pc ps x.text _ HS1.out.got.stat Hps.out).mono ?_
            rintro e w4 ⟨rfl, hb4⟩
            rw [Hcn.out]
            have HS3 := hid (HS1.out.lower hb4)
            clear hb4
            go_wp2_with fail
            refine (HAt.out i 7 _ HS3.out.got.below).mono ?_
            rintro e w1 ⟨rfl, hb1⟩
            have HS2 := hid (HS3.out.lower hb1)
            clear z0 z1 z2 z3 z4 z5 hb1
            obtain ⟨z0, z1, z2, z3, z4, z5⟩ := HS2.out.flt.facts
            go_wp2_with fail
            refine bodyPost_ret (rpar_ret (HS2.out.flt.set 7 _ _) _ (.int .i64 0) rfl rfl) rfl ?_
            exact wrong_end HS2.out.got.below HwF.out R Hat.out He.out (by decide) _ _ _
    · rcases HT.out with h0 | ⟨bb, off, rfl, hbb, hc⟩
      · rw [h0] at hx; cases hx
      have hlt : i < N := by have := HNN.out; have := (List.getElem?_eq_some_iff.1 hx).1; omega
      have hcx : ∀ (k : Nat) v, (encT x)[k]? = some v → wr.cell? ⟨bb, off + i * 11 + k, none⟩ = some v := fun k v hv => (HS.out.got.below.cell (p := ⟨bb, _, none⟩) hbb).trans (hc i x hx k v hv)
      have hcy : ∀ W, Below w0.heap.size w0 W → ∀ j y, ts[j]? = some y → W.cell? ⟨bb, off + j * 11 + 1, none⟩ = some (.string y.text) := fun W hW j y hy => (hW.cell (p := ⟨bb, _, none⟩) hbb).trans (hc j y hy 1 _ rfl)
      have HCY := hid hcy
      obtain ⟨c0, c1, c2, c3, c4, c5, c6, c7, c8, c9, c10⟩ := tk_cellsP hcx
      have hii : (i : Int) < (N : Int) := Int.ofNat_lt.2 hlt
      have hi0 : (0 : Int) ≤ (i : Int) := Int.natCast_nonneg _
      have hip := nxt_k (k := i) (by omega)
      have hiw := nxt_w (k := i) (by omega)
      obtain ⟨m, hm⟩ : ∃ m, m + 1 = i := ⟨i - 1, by omega⟩
      have hwm : IntKind.i64.wrap ((i : Int) - 1) = (m : Int) := by rw [IntKind.wrap_i64]; omega
      have hm0 : (0 : Int) ≤ (m : Int) := Int.natCast_nonneg _
      have hmi : (m : Int) < (N : Int) := by omega
      have hmn : m < N := by omega
      have HX := hid hx
      have HS1 := hid (HS.out.lower ((Below.refl _ wr).alloc (Nat.le_refl _) (.cells #[.int .i64 x.kind, .string x.text, .bool x.space, .bool x.first, .int .i64 x.file, .int .i64 x.lo, .int .i64 x.hi, .int .i64 x.line, .slice none 0 0, .slice none 0 0, .int .i64 0] 43)))
      obtain ⟨⟨m0, m1, m2, m3, m4⟩, ⟨n0, n1, n2, n3, n4⟩⟩ := HS.out.got.box.facts
      dsimp only at m0 m1 m2 m3 m4
      have Hm := hid hm
      have hFl : F < wr.heap.size := lt_of_block HS.out.flt
      have hBl : B < wr.heap.size := lt_of_block HS.out.got.box
      have hbw : bb < wr.heap.size := Nat.lt_of_lt_of_le hbb HS.out.got.below.size
      have Hr := hid hr
      subst hnom
      clear hcy hcx hc hx HR hm hr
      obtain ⟨i0, hi, hz0, hz1, hz2⟩ := info_parts info_str
      have hFB : F ≠ B := Ne.symm (Nat.ne_of_lt HBF.out)
      rcases hcs with hd | ⟨hd, hk, hrs, hcn⟩
      · have HA := hid ((HS.out.more hB (Nat.lt_succ_of_lt HBF.out) hFB true).lower ((Below.refl _ _).alloc (Nat.le_refl _) (.cells #[.int .i64 x.kind, .string x.text, .bool x.space, .bool x.first, .int .i64 x.file, .int .i64 x.lo, .int .i64 x.hi, .int .i64 x.line, .slice none 0 0, .slice none 0 0, .int .i64 0] 43)))
        have HNw := hid (one_new ((wr.setCell ⟨B, 3, none⟩ (.bool true)).alloc (.cells #[.int .i64 x.kind, .string x.text, .bool x.space, .bool x.first, .int .i64 x.file, .int .i64 x.lo, .int .i64 x.hi, .int .i64 x.line, .slice none 0 0, .slice none 0 0, .int .i64 0] 43)) (.string ⟨#[95, 95, 86, 65, 95, 65, 82, 71, 83, 95, 95]⟩) 9)
        rw [World.size_alloc, World.size_setCell] at HNw
        rw [show nextP x = restB from if_pos hd, show (x.text.toList == dotsL) = true from hd] at Hr
        unfold restB at Hr
        unfold dotsL at hd
        go_wp2_with (at_builtin; refine wpList_append_own _ rfl _ _ 22 rfl (F + 1) 9 i0 _ 1 16 Tryz.underlying22 hi hz0 hz1 hz2 rfl (by decide) _ _ _ rfl (HA.out.lower ((Below.refl _ _).alloc (Nat.le_refl _) _)).got.row ⟨wr.heap.size + 1, 0, none⟩ 1 1 [.string ⟨#[95, 95, 86, 65, 95, 65, 82, 71, 83, 95, 95]⟩] rfl rfl HNw.out (by simp [Value.oneCell']) (by unfold maxLen; omega) (by omega) (HA.out.lower ((Below.refl _ _).alloc (Nat.le_refl _) _)).got.base ?_)
        intro v' w' hown' hg' _
        obtain ⟨a4, c4, rfl⟩ := row_is hown'
        have haf := (HA.out.lower ((Below.refl _ _).alloc (Nat.le_refl _) _)).after (Nat.lt_succ_of_lt HBF.out) (Nat.lt_succ_self _) (Nat.le_succ_of_le HwF.out) hg'
        have s2 := haf.1.facts.1.2.2.1
        have s7 := haf.1.facts.2.2.2.1
        have HG := hid (rpst_of haf hB (Nat.lt_succ_of_lt HBF.out) hFB hlen hown')
        have HBw := hid haf.2.2.1
        have HAtj := hid (fun (e0 : Int) W h => HAt.out (i + 1) e0 W h)
        push_cast at HAtj
        have hj0 : (0 : Int) ≤ (i : Int) + 1 := by omega
        have HJp := hid (nxt_k (k := i + 1) (by omega))
        have HJw := hid (nxt_w (k := i + 1) (by omega))
        push_cast at HJp HJw
        have hbB : bb ≠ B := by omega
        clear haf hown' hg' z0 z1 z2 z3 z4 z5
        rcases Hr.out with ⟨h6, hat, he⟩ | ⟨h6, (⟨y, hy, hy44, hmo⟩ | ⟨y, hy, hy44, hy41, hmo⟩ | ⟨y, hy, hy44, hy41, hat, he⟩ | ⟨hge, hmo⟩)⟩
        · have h6a : (6 : Int) < (ps.length : Int) + 1 := by omega
          have h6b : 6 < ps.length + 1 := by omega
          have h6c : 6 ≤ ps.length := by omega
          have Hat := hid hat
          have He := hid he
          clear h6 hat he hlen Hr
          go_wp2_with fail
          refine (HAt.out i 5 _ HG.out.got.below).mono ?_
          rintro e w6 ⟨rfl, hb6⟩
          have HS6 := hid (HG.out.lower hb6)
          clear hb6
          obtain ⟨z0, z1, z2, z3, z4, z5⟩ := HS6.out.flt.facts
          go_wp2_with fail
          refine bodyPost_ret (rpar_ret (HS6.out.flt.set 5 _ _) _ (.int .i64 0) rfl rfl) rfl ?_
          exact wrong_end HS6.out.got.below HwF.out R Hat.out He.out (by decide) _ _ _
        · skip
          have h6a : ¬ (6 : Int) < (ps.length : Int) + 1 := by omega
          have h6b : ¬ 6 < ps.length + 1 := by omega
          have h6c : ¬ 6 ≤ ps.length := by omega
          have hjn : i + 1 < N := by have := HNN.out; have := (List.getElem?_eq_some_iff.1 hy).1; omega
          have hji : (i : Int) + 1 < (N : Int) := by omega
          have hcy := HCY.out _ HBw.out (i + 1) y hy
          have hcz := HCY.out _ HG.out.got.below (i + 1) y hy
          have HMo := hid hmo
          clear h6 hmo hlen Hr hy
          go_wp2_with fail
          exact ⟨⟨i + 2, ps ++ [⟨#[95, 95, 86, 65, 95, 65, 82, 71, 83, 95, 95]⟩], true, a4, c4, two_val i, HMo, HG⟩, less_s hi16 (j := i + 2) (by omega) (two_val i)⟩
        · skip
          have h6a : ¬ (6 : Int) < (ps.length : Int) + 1 := by omega
          have h6b : ¬ 6 < ps.length + 1 := by omega
          have h6c : ¬ 6 ≤ ps.length := by omega
          have hjn : i + 1 < N := by have := HNN.out; have := (List.getElem?_eq_some_iff.1 hy).1; omega
          have hji : (i : Int) + 1 < (N : Int) := by omega
          have hcy := HCY.out _ HBw.out (i + 1) y hy
          have hcz := HCY.out _ HG.out.got.below (i + 1) y hy
          have HMo := hid hmo
          clear h6 hmo hlen Hr hy
          go_wp2_with fail
          exact ⟨⟨i + 1, ps ++ [⟨#[95, 95, 86, 65, 95, 65, 82, 71, 83, 95, 95]⟩], true, a4, c4, nxt_val i, HMo, HG⟩, less_s hi16 (j := i + 1) (by omega) (nxt_val i)⟩
        · skip
          have h6a : ¬ (6 : Int) < (ps.length : Int) + 1 := by omega
          have h6b : ¬ 6 < ps.length + 1 := by omega
          have h6c : ¬ 6 ≤ ps.length := by omega
          have hjn : i + 1 < N := by have := HNN.out; have := (List.getElem?_eq_some_iff.1 hy).1; omega
          have hji : (i : Int) + 1 < (N : Int) := by omega
          have hcy := HCY.out _ HBw.out (i + 1) y hy
          have hcz := HCY.out _ HG.out.got.below (i + 1) y hy
          have Hat := hid hat
          have He := hid he
          clear h6 hat he hlen Hr hy
          go_wp2_with fail
          refine (HAtj.out 2 _ HG.out.got.below).mono ?_
          rintro e w6 ⟨rfl, hb6⟩
          have HS6 := hid (HG.out.lower hb6)
          clear hb6
          obtain ⟨z0, z1, z2, z3, z4, z5⟩ := HS6.out.flt.facts
          go_wp2_with fail
          refine bodyPost_ret (rpar_ret (HS6.out.flt.set 2 _ _) _ (.int .i64 0) rfl rfl) rfl ?_
          exact wrong_end HS6.out.got.below HwF.out R Hat.out He.out (by decide) _ _ _
        · skip
          have h6a : ¬ (6 : Int) < (ps.length : Int) + 1 := by omega
          have h6b : ¬ 6 < ps.length + 1 := by omega
          have h6c : ¬ 6 ≤ ps.length := by omega
          have hjn : ¬ i + 1 < N := by have := HNN.out; omega
          have hji : ¬ (i : Int) + 1 < (N : Int) := by omega
          have HMo := hid hmo
          clear h6 hmo hlen Hr
          go_wp2_with fail
          exact ⟨⟨i + 1, ps ++ [⟨#[95, 95, 86, 65, 95, 65, 82, 71, 83, 95, 95]⟩], true, a4, c4, nxt_val i, HMo, HG⟩, less_s hi16 (j := i + 1) (by omega) (nxt_val i)⟩
      · have Hcn := hid hcn
        have hk' : (x.kind != 1) = false := by simp [bne, hk]
        rw [show nextP x = x.text from if_neg (by rw [hd]; decide), show (x.text.toList == dotsL) = false from hd] at Hr
        unfold dotsL at hd
        unfold restL at hrs
        clear hcn
        go_wp2_with fail
        refine (HHas.out pa pc ps x.text _ HS1.out.got.stat HS1.out.few).mono ?_
        rintro e w4 ⟨rfl, hb4⟩
        rw [Hcn.out]
        have HS3 := hid (HS1.out.lower hb4)
        have HNw := hid (one_new w4 (.string x.text) 9)
        obtain ⟨⟨q0, q1, q2, q3, q4⟩, ⟨r0, r1, r2, r3, r4⟩⟩ := HS3.out.got.box.facts
        dsimp only at q0 q1 q2 q3 q4
        have hB4 : B < w4.heap.size := lt_of_block HS3.out.got.box
        clear hb4
        go_wp2_with (at_builtin; refine wpList_append_own _ rfl _ _ 22 rfl (F + 1) 9 i0 _ 1 16 Tryz.underlying22 hi hz0 hz1 hz2 rfl (by decide) _ _ _ rfl (HS3.out.lower ((Below.refl _ _).alloc (Nat.le_refl _) _)).got.row ⟨w4.heap.size, 0, none⟩ 1 1 [.string x.text] rfl rfl HNw.out (by simp [Value.oneCell']) (by unfold maxLen; omega) (by omega) (HS3.out.lower ((Below.refl _ _).alloc (Nat.le_refl _) _)).got.base ?_)
        intro v' w' hown' hg' _
        obtain ⟨a4, c4, rfl⟩ := row_is hown'
        have haf := (HS3.out.lower ((Below.refl _ _).alloc (Nat.le_refl _) _)).after (Nat.lt_succ_of_lt HBF.out) (Nat.lt_succ_self _) (Nat.le_succ_of_le HwF.out) hg'
        have s2 := haf.1.facts.1.2.2.1
        have s7 := haf.1.facts.2.2.2.1
        have HG := hid (rpst_of haf hB (Nat.lt_succ_of_lt HBF.out) hFB hlen hown')
        have HBw := hid haf.2.2.1
        have HAtj := hid (fun (e0 : Int) W h => HAt.out (i + 1) e0 W h)
        push_cast at HAtj
        have hj0 : (0 : Int) ≤ (i : Int) + 1 := by omega
        have HJp := hid (nxt_k (k := i + 1) (by omega))
        have HJw := hid (nxt_w (k := i + 1) (by omega))
        push_cast at HJp HJw
        have hbB : bb ≠ B := by omega
        clear haf hown' hg' z0 z1 z2 z3 z4 z5
        rcases Hr.out with ⟨h6, hat, he⟩ | ⟨h6, (⟨y, hy, hy44, hmo⟩ | ⟨y, hy, hy44, hy41, hmo⟩ | ⟨y, hy, hy44, hy41, hat, he⟩ | ⟨hge, hmo⟩)⟩
        · have h6a : (6 : Int) < (ps.length : Int) + 1 := by omega
          have h6b : 6 < ps.length + 1 := by omega
          have h6c : 6 ≤ ps.length := by omega
          have Hat := hid hat
          have He := hid he
          clear h6 hat he hlen Hr
          go_wp2_with fail
          refine (HAt.out i 5 _ HG.out.got.below).mono ?_
          rintro e w6 ⟨rfl, hb6⟩
          have HS6 := hid (HG.out.lower hb6)
          clear hb6
          obtain ⟨z0, z1, z2, z3, z4, z5⟩ := HS6.out.flt.facts
          go_wp2_with fail
          refine bodyPost_ret (rpar_ret (HS6.out.flt.set 5 _ _) _ (.int .i64 0) rfl rfl) rfl ?_
          exact wrong_end HS6.out.got.below HwF.out R Hat.out He.out (by decide) _ _ _
        · skip
          have h6a : ¬ (6 : Int) < (ps.length : Int) + 1 := by omega
          have h6b : ¬ 6 < ps.length + 1 := by omega
          have h6c : ¬ 6 ≤ ps.length := by omega
          have hjn : i + 1 < N := by have := HNN.out; have := (List.getElem?_eq_some_iff.1 hy).1; omega
          have hji : (i : Int) + 1 < (N : Int) := by omega
          have hcy := HCY.out _ HBw.out (i + 1) y hy
          have hcz := HCY.out _ HG.out.got.below (i + 1) y hy
          have HMo := hid hmo
          clear h6 hmo hlen Hr hy
          go_wp2_with fail
          exact ⟨⟨i + 2, ps ++ [x.text], false, a4, c4, two_val i, HMo, HG⟩, less_s hi16 (j := i + 2) (by omega) (two_val i)⟩
        · skip
          have h6a : ¬ (6 : Int) < (ps.length : Int) + 1 := by omega
          have h6b : ¬ 6 < ps.length + 1 := by omega
          have h6c : ¬ 6 ≤ ps.length := by omega
          have hjn : i + 1 < N := by have := HNN.out; have := (List.getElem?_eq_some_iff.1 hy).1; omega
          have hji : (i : Int) + 1 < (N : Int) := by omega
          have hcy := HCY.out _ HBw.out (i + 1) y hy
          have hcz := HCY.out _ HG.out.got.below (i + 1) y hy
          have HMo := hid hmo
          clear h6 hmo hlen Hr hy
          go_wp2_with fail
          exact ⟨⟨i + 1, ps ++ [x.text], false, a4, c4, nxt_val i, HMo, HG⟩, less_s hi16 (j := i + 1) (by omega) (nxt_val i)⟩
        · skip
          have h6a : ¬ (6 : Int) < (ps.length : Int) + 1 := by omega
          have h6b : ¬ 6 < ps.length + 1 := by omega
          have h6c : ¬ 6 ≤ ps.length := by omega
          have hjn : i + 1 < N := by have := HNN.out; have := (List.getElem?_eq_some_iff.1 hy).1; omega
          have hji : (i : Int) + 1 < (N : Int) := by omega
          have hcy := HCY.out _ HBw.out (i + 1) y hy
          have hcz := HCY.out _ HG.out.got.below (i + 1) y hy
          have Hat := hid hat
          have He := hid he
          clear h6 hat he hlen Hr hy
          go_wp2_with fail
          refine (HAtj.out 2 _ HG.out.got.below).mono ?_
          rintro e w6 ⟨rfl, hb6⟩
          have HS6 := hid (HG.out.lower hb6)
          clear hb6
          obtain ⟨z0, z1, z2, z3, z4, z5⟩ := HS6.out.flt.facts
          go_wp2_with fail
          refine bodyPost_ret (rpar_ret (HS6.out.flt.set 2 _ _) _ (.int .i64 0) rfl rfl) rfl ?_
          exact wrong_end HS6.out.got.below HwF.out R Hat.out He.out (by decide) _ _ _
        · skip
          have h6a : ¬ (6 : Int) < (ps.length : Int) + 1 := by omega
          have h6b : ¬ 6 < ps.length + 1 := by omega
          have h6c : ¬ 6 ≤ ps.length := by omega
          have hjn : ¬ i + 1 < N := by have := HNN.out; omega
          have hji : ¬ (i : Int) + 1 < (N : Int) := by omega
          have HMo := hid hmo
          clear h6 hmo hlen Hr
          go_wp2_with fail
          exact ⟨⟨i + 1, ps ++ [x.text], false, a4, c4, nxt_val i, HMo, HG⟩, less_s hi16 (j := i + 1) (by omega) (nxt_val i)⟩
end
end Go.Proofs.YtedmcefckcmheaaGreatDoor
