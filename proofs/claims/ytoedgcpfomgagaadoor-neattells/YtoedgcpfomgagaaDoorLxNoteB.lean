/- Plain facts: a text with a note behind each line feed has the same pieces. -/
import Derived.Test.YtoedgcpfomgagaaDoorLxNote
namespace Go.Proofs.YtoedgcpfomgagaaDoor
open Go.RowKit

def noteB : List UInt8 := [32, 32, 47, 42, 32, 120, 32, 42, 47, 9]
def lastB : List UInt8 := [47, 47, 32, 121]
def noted : List UInt8 → List UInt8
  | [] => []
  | c :: r => if c = 10 then 10 :: (noteB ++ noted r) else c :: noted r
theorem noted_append : ∀ (a b : List UInt8), noted (a ++ b) = noted a ++ noted b
  | [], _ => rfl
  | c :: r, b => by
    simp only [List.cons_append, noted, noted_append r b]
    split <;> simp
theorem noted_line : ∀ (u : List UInt8), (∀ c ∈ u, c ≠ 10) → noted u = u
  | [], _ => rfl
  | c :: r, h => by
    rw [noted, if_neg (h c (by simp)), noted_line r (fun d hd => h d (by simp [hd]))]
theorem noted_len : ∀ (s : List UInt8), s.length ≤ (noted s).length
  | [] => Nat.le_refl _
  | c :: r => by
    have := noted_len r
    unfold noted
    split <;> simp <;> omega
def plN (s : List UInt8) (i : Nat) : Nat := (noted (s.take i)).length
def withN (s : List UInt8) : List UInt8 := noted s ++ lastB
theorem withN_drop (s : List UInt8) (i : Nat) : (withN s).drop (plN s i) = noted (s.drop i) ++ lastB := by
  unfold withN plN
  have e : noted s = noted (s.take i) ++ noted (s.drop i) := by rw [← noted_append, List.take_append_drop]
  rw [e, List.append_assoc, List.drop_left]
theorem plN_ge (s : List UInt8) (i : Nat) (h : i ≤ s.length) : i ≤ plN s i := by
  have := noted_len (s.take i)
  rw [List.length_take] at this
  unfold plN; omega
theorem plN_zero (s : List UInt8) : plN s 0 = 0 := rfl
theorem plN_le (s : List UInt8) (i : Nat) : plN s i + 4 ≤ (withN s).length := by
  unfold withN plN
  have e : noted s = noted (s.take i) ++ noted (s.drop i) := by rw [← noted_append, List.take_append_drop]
  rw [e]; simp [lastB]
theorem plN_end (s : List UInt8) : plN s s.length + 4 = (withN s).length := by
  unfold withN plN; simp [lastB]
theorem plN_add (s : List UInt8) (i n : Nat) : plN s (i + n) = plN s i + (noted ((s.drop i).take n)).length := by
  unfold plN
  rw [List.take_add, noted_append, List.length_append]
theorem plN_mono (s : List UInt8) (i k : Nat) (h : i ≤ k) : plN s i ≤ plN s k := by
  obtain ⟨n, rfl⟩ : ∃ n, k = i + n := ⟨k - i, by omega⟩
  rw [plN_add]; omega
theorem plN_line (s : List UInt8) (i n : Nat) (h : ∀ c ∈ (s.drop i).take n, c ≠ 10) (hn : i + n ≤ s.length) : plN s (i + n) = plN s i + n := by
  rw [plN_add, noted_line _ h, List.length_take, List.length_drop]; omega

theorem skipF_more (s : List UInt8) : ∀ (f f' i : Nat) (sp fi : Bool), s.length + 1 ≤ f + i → s.length + 1 ≤ f' + i → i ≤ s.length → skipF s f i sp fi = skipF s f' i sp fi
  | 0, _, i, _, _, h, _, hi => by omega
  | _ + 1, 0, i, _, _, _, h, hi => by omega
  | f + 1, f' + 1, i, sp, fi, h, h', hi => by
    unfold skipF
    split
    · rfl
    · rename_i n0
      split
      · rfl
      · rename_i n1
        have hb := blankSz_le (s.drop i)
        rw [List.length_drop] at hb
        exact skipF_more s f f' _ _ _ (by omega) (by omega) (by omega)
theorem skip_stop (s : List UInt8) (i : Nat) (sp fi : Bool) (hi : i ≤ s.length) (h : blankSz (s.drop i) = 0) : skip s i sp fi = ⟨i, sp, fi, false⟩ := by
  unfold skip
  rw [show s.length + 1 - i = (s.length - i) + 1 by omega]
  unfold skipF
  rw [if_pos h]
theorem skip_go (s : List UInt8) (i n : Nat) (sp fi : Bool) (hi : i ≤ s.length) (h : blankSz (s.drop i) = (n : Nat)) (hn : 0 < n) : skip s i sp fi = skip s (i + n) true (fi || byteAt s i == 10) := by
  have hb := blankSz_le (s.drop i)
  rw [List.length_drop] at hb
  unfold skip
  rw [show s.length + 1 - i = (s.length - i) + 1 by omega]
  conv => lhs; unfold skipF
  rw [if_neg (by omega), if_neg (by omega), h, Int.toNat_natCast]
  exact skipF_more s _ _ _ _ _ (by omega) (by omega) (by omega)
/-- The same, of a rest of the text. -/
theorem skip_at (s : List UInt8) (i n : Nat) (sp fi : Bool) (c : UInt8) (r : List UInt8) (hd : s.drop i = c :: r) (h : blankSz (c :: r) = (n : Nat)) (hn : 0 < n) : skip s i sp fi = skip s (i + n) true (fi || c == 10) := by
  have hi : i ≤ s.length := by
    rcases Nat.lt_or_ge s.length i with h | h
    · rw [List.drop_of_length_le (by omega)] at hd; cases hd
    · exact h
  have e : byteAt s i = c := byteAt_eq s i c (by have := congrArg (·[0]?) hd; simpa [List.getElem?_drop] using this)
  rw [skip_go s i n sp fi hi (by rw [hd]; exact h) hn, e]

def plainL (s : List UInt8) : Prop := ∀ c ∈ s, c ≠ 92 ∧ c ≠ 47 ∧ c ≠ 42 ∧ c ≠ 13

theorem blankSz_plain (c : UInt8) (r : List UInt8) (h : c ≠ 47) (h2 : c ≠ 13) : blankSz (c :: r) = if c = 32 ∨ c = 9 ∨ c = 10 then 1 else 0 := by
  simp [blankSz, h, h2]

theorem drop_next (s : List UInt8) (i n : Nat) (a b : List UInt8) (h : s.drop i = a ++ b) (hn : a.length = n) : s.drop (i + n) = b := by
  rw [← List.drop_drop, h, ← hn, List.drop_left]

/-- A line feed with its note is passed. -/
theorem skip_note (t r : List UInt8) (j : Nat) (sp fi : Bool) (hd : t.drop j = 10 :: (noteB ++ r)) : skip t j sp fi = skip t (j + 11) true true := by
  have d1 : t.drop (j + 1) = 32 :: ([32, 47, 42, 32, 120, 32, 42, 47, 9] ++ r) := drop_next t j 1 [10] _ hd rfl
  have d2 : t.drop (j + 2) = 32 :: ([47, 42, 32, 120, 32, 42, 47, 9] ++ r) := drop_next t j 2 [10, 32] _ hd rfl
  have d3 : t.drop (j + 3) = 47 :: ([42, 32, 120, 32, 42, 47, 9] ++ r) := drop_next t j 3 [10, 32, 32] _ hd rfl
  have d4 : t.drop (j + 10) = 9 :: r := drop_next t j 10 [10, 32, 32, 47, 42, 32, 120, 32, 42, 47] _ hd rfl
  rw [skip_at t j 1 sp fi _ _ hd (by simp [blankSz]) (by omega)]
  rw [skip_at t (j + 1) 1 _ _ _ _ d1 (by simp [blankSz]) (by omega)]
  rw [skip_at t (j + 1 + 1) 1 _ _ _ _ d2 (by simp [blankSz]) (by omega)]
  rw [skip_at t (j + 1 + 1 + 1) 7 _ _ _ _ d3 (by simp [blankSz, noteEnd]) (by omega)]
  rw [skip_at t (j + 1 + 1 + 1 + 7) 1 _ _ _ _ d4 (by simp [blankSz]) (by omega)]
  simp

theorem skip_noted (s : List UInt8) (hs : plainL s) : ∀ (n i : Nat) (sp fi : Bool), s.length - i = n → i ≤ s.length →
    ∃ k sp' fi', i ≤ k ∧ k ≤ s.length ∧ skip s i sp fi = ⟨k, sp', fi', false⟩ ∧
      (k < s.length → skip (withN s) (plN s i) sp fi = ⟨plN s k, sp', fi', false⟩ ∧ s[k]? ≠ some 10) ∧
      (k = s.length → (skip (withN s) (plN s i) sp fi).to = (withN s).length ∧ (skip (withN s) (plN s i) sp fi).lacks = false)
  | 0, i, sp, fi, hn, hi => by
    have e : i = s.length := by omega
    subst e
    refine ⟨s.length, sp, fi, Nat.le_refl _, Nat.le_refl _, skip_stop s _ sp fi (Nat.le_refl _) (by simp [blankSz]), fun h => by omega, fun _ => ?_⟩
    have hd := withN_drop s s.length
    rw [List.drop_length] at hd
    have hd : (withN s).drop (plN s s.length) = 47 :: [47, 32, 121] := hd
    have he := plN_end s
    rw [skip_at _ _ 4 sp fi _ _ hd (by decide) (by omega), he, skip_stop _ _ _ _ (Nat.le_refl _) (by simp [blankSz])]
    exact ⟨rfl, rfl⟩
  | n + 1, i, sp, fi, hn, hi => by
    have hlt : i < s.length := by omega
    have hd : s.drop i = s[i] :: s.drop (i + 1) := List.drop_eq_getElem_cons hlt
    have hp := hs s[i] (List.getElem_mem hlt)
    have hT := withN_drop s i
    have hget : s[i]? = some s[i] := List.getElem?_eq_getElem hlt
    have hpl : plN s (i + 1) = plN s i + (noted [s[i]]).length := by
      rw [plN_add, hd]; rfl
    rw [hd] at hT
    generalize s[i] = c at hd hp hT hget hpl
    by_cases h10 : c = 10
    · subst h10
      have hT2 : (withN s).drop (plN s i) = 10 :: (noteB ++ (noted (s.drop (i + 1)) ++ lastB)) := by rw [hT]; simp [noted]
      have hpl2 : plN s (i + 1) = plN s i + 11 := by rw [hpl]; rfl
      obtain ⟨k, sp', fi', h1, h2, h3, h4, h5⟩ := skip_noted s hs n (i + 1) true true (by omega) (by omega)
      refine ⟨k, sp', fi', by omega, h2, ?_, ?_, ?_⟩
      · rw [skip_at s i 1 sp fi _ _ hd (by simp [blankSz]) (by omega)]; simpa using h3
      · rw [skip_note _ _ _ sp fi hT2, ← hpl2]; exact h4
      · rw [skip_note _ _ _ sp fi hT2, ← hpl2]; exact h5
    · have hT2 : (withN s).drop (plN s i) = c :: (noted (s.drop (i + 1)) ++ lastB) := by rw [hT]; simp [noted, h10]
      have hpl2 : plN s (i + 1) = plN s i + 1 := by rw [hpl]; simp [noted, h10]
      by_cases hb : c = 32 ∨ c = 9
      · have hbz : ∀ r, blankSz (c :: r) = ((1 : Nat) : Int) := fun r => by
          rw [blankSz_plain c r hp.2.1 hp.2.2.2, if_pos (by rcases hb with h | h; exact .inl h; exact .inr (.inl h))]; rfl
        have hf : (fi || c == 10) = fi := by simp [h10]
        obtain ⟨k, sp', fi', h1, h2, h3, h4, h5⟩ := skip_noted s hs n (i + 1) true fi (by omega) (by omega)
        refine ⟨k, sp', fi', by omega, h2, ?_, ?_, ?_⟩
        · rw [skip_at s i 1 sp fi _ _ hd (hbz _) (by omega), hf]; exact h3
        · rw [skip_at _ _ 1 sp fi _ _ hT2 (hbz _) (by omega), hf, ← hpl2]; exact h4
        · rw [skip_at _ _ 1 sp fi _ _ hT2 (hbz _) (by omega), hf, ← hpl2]; exact h5
      · have hbz : ∀ r, blankSz (c :: r) = 0 := fun r => by
          rw [blankSz_plain c r hp.2.1 hp.2.2.2, if_neg (by intro h; rcases h with h | h | h; exact hb (.inl h); exact hb (.inr h); exact h10 h)]
        refine ⟨i, sp, fi, Nat.le_refl _, hi, skip_stop s i sp fi hi (by rw [hd]; exact hbz _), fun _ => ⟨skip_stop _ _ sp fi ?_ (by rw [hT2]; exact hbz _), ?_⟩, fun h => by omega⟩
        · have := plN_le s i; omega
        · rw [hget]; intro h; injection h with h; exact h10 h

/-- What of a piece is compared. -/
def viewPc (s : List UInt8) (p : Pc) : Int × List UInt8 × Bool := (p.kind, textOfPc s p, p.first)
def behindV (vs : List (Int × List UInt8 × Bool)) : Bool := match vs.reverse with
  | w :: h :: _ => h.2.2 && (h.2.1 == [35]) && !w.2.2 && (w.2.1 == [105, 110, 99, 108, 117, 100, 101])
  | _ => false
theorem behind_view (s : List UInt8) (acc : List Pc) : behind s acc = behindV (acc.map (viewPc s)) := by
  unfold behind behindV
  rw [← List.map_reverse]
  rcases acc.reverse with _ | ⟨x, _ | ⟨y, r⟩⟩ <;> rfl

theorem pcsF_noted (s : List UInt8) (hs : plainL s) : ∀ (f f' i : Nat) (acc acc' A : List Pc), s.length + 1 ≤ f + i → (withN s).length + 1 ≤ f' + plN s i → i ≤ s.length →
    acc.map (viewPc s) = acc'.map (viewPc (withN s)) → pcsF s f i acc = .inr A → ∃ A', pcsF (withN s) f' (plN s i) acc' = .inr A' ∧ A.map (viewPc s) = A'.map (viewPc (withN s))
  | 0, _, i, _, _, _, h, _, hi, _, _ => by omega
  | _ + 1, 0, i, _, _, _, _, h, hi, _, _ => by have := plN_le s i; omega
  | f + 1, f' + 1, i, acc, acc', A, hf, hf', hi, hv, hA => by
    obtain ⟨k, sp, fi, k1, k2, k3, k4, k5⟩ := skip_noted s hs _ i false (i == 0) rfl hi
    have hz : (plN s i == 0) = (i == 0) := by
      by_cases h : i = 0
      · subst h; rfl
      · have := plN_ge s i hi
        rw [show (i == 0) = false by simpa using h, show (plN s i == 0) = false by simp; omega]
    have hbe : behind (withN s) acc' = behind s acc := by rw [behind_view, behind_view, hv]
    unfold pcsF at hA ⊢
    rw [hz]
    simp only [k3] at hA
    rcases Nat.lt_or_ge k s.length with hk | hk
    · obtain ⟨k6, k7⟩ := k4 hk
      have hplk := plN_le s k
      simp only [k6, hbe, Bool.false_eq_true, if_false] at hA ⊢
      rw [if_neg (by omega)] at hA ⊢
      -- the line's rest
      have hsplit : s.drop k = (s.drop k).takeWhile (· != 10) ++ (s.drop k).dropWhile (· != 10) := List.takeWhile_append_dropWhile.symm
      have hu : ∀ c ∈ (s.drop k).takeWhile (· != 10), c ≠ 10 ∧ c ≠ 92 := fun c hc => by
        have h1 := List.all_eq_true.1 List.all_takeWhile c hc
        have h2 : c ∈ s := List.mem_of_mem_drop ((List.takeWhile_sublist _).subset hc)
        exact ⟨by simpa using h1, (hs c h2).1⟩
      have hne : (s.drop k).takeWhile (· != 10) ≠ [] := by
        rw [List.drop_eq_getElem_cons hk, List.takeWhile_cons]
        have : s[k] ≠ 10 := fun e => k7 (by rw [List.getElem?_eq_getElem hk, e])
        simp [this]
      have hr : (s.drop k).dropWhile (· != 10) = [] ∨ ∃ x, (s.drop k).dropWhile (· != 10) = 10 :: x := by
        cases hx : (s.drop k).dropWhile (· != 10) with
        | nil => exact .inl rfl
        | cons c x =>
          have := List.head_dropWhile_not (· != 10) (l := s.drop k) (by rw [hx]; simp)
          simp only [hx, List.head_cons] at this
          have : c = 10 := by simpa using this
          exact .inr ⟨x, by rw [this]⟩
      have hT := withN_drop s k
      generalize (s.drop k).takeWhile (· != 10) = u at hsplit hu hne
      generalize (s.drop k).dropWhile (· != 10) = r at hsplit hr
      have hT2 : (withN s).drop (plN s k) = u ++ (noted r ++ lastB) := by
        rw [hT, hsplit, noted_append, noted_line u (fun c hc => (hu c hc).1), List.append_assoc]
      have hr' : endsLast (noted r ++ lastB) := by
        rcases hr with h | ⟨x, h⟩
        · rw [h]; exact .inr (.inr rfl)
        · rw [h]; exact .inr (.inl ⟨noteB ++ noted x ++ lastB, by simp [noted]⟩)
      rw [hsplit] at hA
      have hul : 1 ≤ u.length := List.length_pos_iff.2 hne
      by_cases hm : (pick (sizes (u ++ r) (!fi && behind s acc))).1 = -1
      · rw [if_pos hm] at hA; cases hA
      · have e1 := pick_line u r (noted r ++ lastB) (!fi && behind s acc) hr hr' hne hu hm
        have e2 := pick_line u r [] (!fi && behind s acc) hr (.inl rfl) hne hu hm
        rw [hT2, e1, if_neg hm]
        rw [if_neg hm] at hA
        have hle := pick_le (u ++ []) (!fi && behind s acc) (by simp; omega)
        rw [e2, List.append_nil] at hle
        generalize pick (sizes (u ++ r) (!fi && behind s acc)) = m at hA hm hle
        obtain ⟨mk, mn⟩ := m
        dsimp only at hA hm hle ⊢
        rcases hle with h | ⟨hle1, hle2⟩
        · exact absurd h hm
        obtain ⟨z, rfl⟩ : ∃ z : Nat, mn = z := ⟨mn.toNat, by omega⟩
        rw [Int.toNat_natCast] at hA ⊢
        have hz1 : 0 < z := by omega
        have hz2 : z ≤ u.length := by omega
        have hlen : k + u.length ≤ s.length := by
          have := congrArg List.length hsplit
          rw [List.length_drop, List.length_append] at this
          omega
        have hpl : plN s (k + z) = plN s k + z := by
          refine plN_line s k z (fun c hc => ?_) (by omega)
          rw [hsplit, List.take_append_of_le_length hz2] at hc
          exact (hu c (List.mem_of_mem_take hc)).1
        rw [← hpl]
        refine pcsF_noted s hs f f' (k + z) _ _ A (by omega) (by have := plN_mono s i k k1; omega) (by omega) ?_ hA
        rw [List.map_append, List.map_append, hv]
        congr 1
        simp only [List.map_cons, List.map_nil, viewPc, textOfPc]
        rw [List.drop_take, List.drop_take, hT2, hsplit, hpl, Nat.add_sub_cancel_left, Nat.add_sub_cancel_left, List.take_append_of_le_length hz2, List.take_append_of_le_length hz2]
    · have hke : k = s.length := by omega
      obtain ⟨k6, k7⟩ := k5 hke
      simp only [Bool.false_eq_true, if_false] at hA
      rw [if_pos (by omega)] at hA
      injection hA with hA
      subst hA
      refine ⟨acc', ?_, hv⟩
      dsimp only
      rw [k7, if_neg (by simp), if_pos (by omega)]

theorem kept_plain (s : List UInt8) (h : ∀ c ∈ s, c ≠ 92 ∧ c ≠ 13) : kept s = List.range s.length := by
  have hg : ∀ i, goneAt s i = 0 := fun i => by
    have n1 : s[i]? ≠ some 92 := fun e => (h _ (List.mem_of_getElem? e)).1 rfl
    have n2 : s[i]? ≠ some 13 := fun e => (h _ (List.mem_of_getElem? e)).2 rfl
    unfold goneAt
    rw [if_neg (fun x => n1 x.1), if_neg (fun x => n1 x.1), if_neg (fun x => n2 x.1)]
  have key : ∀ f i, f + i = s.length → keptF s f i = List.range' i f := fun f => by
    induction f with
    | zero => intro i _; rfl
    | succ f ih =>
      intro i hi
      rw [keptF, if_pos (by omega), if_pos (hg i), ih (i + 1) (by omega), List.range'_succ]
  rw [kept, key _ _ (by omega), List.range_eq_range']
theorem bytes_plain (s : List UInt8) (h : ∀ c ∈ s, c ≠ 92 ∧ c ≠ 13) : bytesAt s (kept s) = s := by
  rw [kept_plain s h]
  unfold bytesAt
  apply List.ext_getElem
  · simp
  · intro i h1 h2
    simp [List.getD, List.getElem?_eq_getElem h2]
theorem noted_mem : ∀ (s : List UInt8) (c : UInt8), c ∈ noted s → c ∈ s ∨ c ∈ noteB
  | [], c, h => by cases h
  | d :: r, c, h => by
    unfold noted at h
    split at h
    · rename_i e
      rcases List.mem_cons.1 h with h | h
      · exact .inl (by simp [h, e])
      · rcases List.mem_append.1 h with h | h
        · exact .inr h
        · rcases noted_mem r c h with h | h
          · exact .inl (by simp [h])
          · exact .inr h
    · rcases List.mem_cons.1 h with h | h
      · exact .inl (by simp [h])
      · rcases noted_mem r c h with h | h
        · exact .inl (by simp [h])
        · exact .inr h
theorem withN_plain (s : List UInt8) (hs : plainL s) : ∀ c ∈ withN s, c ≠ 92 ∧ c ≠ 13 := fun c hc => by
  rcases List.mem_append.1 hc with h | h
  · rcases noted_mem s c h with h | h
    · exact ⟨(hs c h).1, (hs c h).2.2.2⟩
    · exact (by decide : ∀ c ∈ noteB, c ≠ 92 ∧ c ≠ 13) c h
  · exact (by decide : ∀ c ∈ lastB, c ≠ 92 ∧ c ≠ 13) c h

end Go.Proofs.YtoedgcpfomgagaaDoor
