/- Some texts in one. -/
import Derived.Test.YtkphogfmkempnacDoorLxNoteB
import Derived.Test.YtkphogfmkempnacDoorLxPcs
import Derived.Test.YtkphogfmkempnacDoorLxTokens
namespace Go.Proofs.YtkphogfmkempnacDoor
open Go.RowKit

theorem byteAt_close (u : List UInt8) : byteAt (u ++ [41]) u.length = 41 := by simp [byteAt, List.getD]
theorem nameSz_close (u : List UInt8) (hu : u ≠ []) : nameSz (u ++ [41]) = nameSz u := by
  have hp : 1 ≤ u.length := List.length_pos_iff.2 hu
  unfold nameSz
  rw [if_neg (by simp), if_neg hu, byteAt_left u [41] 0 hp]
  split
  · exact spanN_line _ _ _ _ u.length hp (by simp) (Nat.le_refl _) (fun i hi => by simp only [byteAt_left u _ i hi]) (fun _ => by rw [byteAt_close]; rfl) (fun h => by omega)
  · rfl
theorem numSz_close (u : List UInt8) (hu : u ≠ []) : numSz (u ++ [41]) = numSz u := by
  have hp : 1 ≤ u.length := List.length_pos_iff.2 hu
  have hs : startsNum (u ++ [41]) = startsNum u := by
    rcases u with _ | ⟨a, _ | ⟨b, r⟩⟩
    · exact absurd rfl hu
    · by_cases h : a = 46
      · subst h; rfl
      · simp [startsNum, h]
    · rfl
  unfold numSz
  rw [hs]
  split
  · refine spanN_line _ _ _ _ u.length hp (by simp) (Nat.le_refl _) (fun i hi => ?_) (fun _ => ?_) (fun h => by omega)
    · unfold numB
      rw [byteAt_left u _ i hi, byteAt_left u _ (i - 1) (by omega)]
    · unfold numB
      rw [byteAt_close]
      rfl
  · rfl
theorem sign_close : ∀ (p u : List UInt8), (∀ c ∈ p.tail, c ≠ 41) → u ≠ [] → p.isPrefixOf (u ++ [41]) = p.isPrefixOf u
  | [], _, _, _ => by simp
  | a :: p, u, hp, hu => by
    rcases u with _ | ⟨x, u⟩
    · exact absurd rfl hu
    · rw [List.cons_append, List.isPrefixOf_cons_cons, List.isPrefixOf_cons_cons]
      congr 1
      rcases u with _ | ⟨y, u⟩
      · rcases p with _ | ⟨b, p⟩
        · simp
        · have hb := hp b (by simp)
          have : (b == (41 : UInt8)) = false := by simpa using hb
          simp [List.isPrefixOf, this]
      · exact sign_close p (y :: u) (fun c hc => hp c (by
          have : c ∈ p := List.mem_of_mem_tail hc
          simpa using this)) (by simp)
theorem signs_close : ∀ p ∈ signsL, ∀ c ∈ p.tail, c ≠ 41 := by decide
theorem signSz_close (u : List UInt8) (hu : u ≠ []) : signSz (u ++ [41]) = signSz u := by
  have h : ∀ l : List (List UInt8), (∀ p ∈ l, ∀ c ∈ p.tail, c ≠ 41) → l.find? (·.isPrefixOf (u ++ [41])) = l.find? (·.isPrefixOf u) := by
    intro l
    induction l with
    | nil => intro _; rfl
    | cons p l ih =>
      intro hl
      rw [List.find?_cons, List.find?_cons, sign_close p u (hl p (by simp)) hu, ih (fun q hq => hl q (by simp [hq]))]
  unfold signSz
  rw [h signsL signs_close]
/-- The piece that is picked is the same, where it has an end. -/
theorem pick_close (u : List UInt8) (hu : u ≠ []) (hc : ∀ c ∈ u, c ≠ 10 ∧ c ≠ 92) (hk : (pick (sizes u false)).1 ≠ -1) : pick (sizes (u ++ [41]) false) = pick (sizes u false) := by
  unfold sizes at hk ⊢
  rw [nameSz_close u hu, numSz_close u hu, signSz_close u hu]
  refine pick_same _ _ _ _ (by omega) (fun n1 => ?_)
  rw [pick, if_neg (by omega), if_neg n1] at hk
  refine pick_same _ _ _ _ (by omega) (fun n2 => ?_)
  rw [pick, if_neg (by omega), if_neg n2] at hk
  have q1 : quotSz 34 u ≠ -1 := fun e => hk (by rw [pick, if_pos e])
  have e1 := quotSz_line 34 [] [41] u (.inl rfl) hu hc (by rw [List.append_nil]; exact q1)
  rw [List.append_nil] at e1
  rw [e1]
  refine pick_same _ _ _ _ q1 (fun n3 => ?_)
  rw [pick, if_neg q1, if_neg n3] at hk
  have q2 : quotSz 39 u ≠ -1 := fun e => hk (by rw [pick, if_pos e])
  have e2 := quotSz_line 39 [] [41] u (.inl rfl) hu hc (by rw [List.append_nil]; exact q2)
  rw [List.append_nil] at e2
  rw [e2]
  simp

theorem blank_close (u : List UInt8) (hc : ∀ c ∈ u, c ≠ 47) : blankSz (u ++ [41]) = blankSz u := by
  rcases u with _ | ⟨c, r⟩
  · rfl
  · have h47 := hc c (by simp)
    simp only [List.cons_append, blankSz, h47, false_and, if_false]
theorem blank_small (u : List UInt8) (hc : ∀ c ∈ u, c ≠ 47) : blankSz u = 0 ∨ blankSz u = 1 := by
  rcases u with _ | ⟨c, r⟩
  · exact .inl rfl
  · have h47 := hc c (by simp)
    simp only [blankSz, h47, false_and, if_false]
    split
    · exact .inr rfl
    · exact .inl rfl

/-- What is skipped of a text that has something ahead, and ) behind. -/
theorem skip_close (pre l : List UInt8) (hc : ∀ c ∈ l, c ≠ 47 ∧ c ≠ 10) : ∀ (m i : Nat) (sp fi fi' : Bool), l.length - i = m → i ≤ l.length →
    (skip l i sp fi).lacks = false ∧ (skip l i sp fi).first = fi ∧ i ≤ (skip l i sp fi).to ∧ (skip l i sp fi).to ≤ l.length ∧
    skip (pre ++ (l ++ [41])) (pre.length + i) sp fi' = ⟨pre.length + (skip l i sp fi).to, (skip l i sp fi).space, fi', false⟩
  | m, i, sp, fi, fi', hm, hi => by
    have hd : (pre ++ (l ++ [41])).drop (pre.length + i) = l.drop i ++ [41] := by
      rw [← List.drop_drop, List.drop_left, List.drop_append_of_le_length hi]
    have h47 : ∀ c ∈ l.drop i, c ≠ 47 := fun c h => (hc c (List.mem_of_mem_drop h)).1
    have hb := blank_close (l.drop i) h47
    rw [← hd] at hb
    rcases blank_small (l.drop i) h47 with h0 | h1
    · have e1 := skip_stop l i sp fi hi h0
      have e2 := skip_stop (pre ++ (l ++ [41])) (pre.length + i) sp fi' (by simp; omega) (hb.trans h0)
      rw [e1, e2]
      exact ⟨rfl, rfl, Nat.le_refl _, hi, rfl⟩
    · have hlt : i < l.length := by
        rcases Nat.lt_or_ge i l.length with h | h
        · exact h
        · rw [List.drop_eq_nil_of_le h] at h1; cases h1
      have e1 := skip_go l i 1 sp fi hi h1 (by omega)
      have e2 := skip_go (pre ++ (l ++ [41])) (pre.length + i) 1 sp fi' (by simp; omega) (hb.trans h1) (by omega)
      have hx : l[i]? = some l[i] := List.getElem?_eq_getElem hlt
      have b1 : (byteAt l i == 10) = false := by
        rw [byteAt_eq l i _ hx]
        have := (hc l[i] (List.getElem_mem hlt)).2
        simpa using this
      have b2 : (byteAt (pre ++ (l ++ [41])) (pre.length + i) == 10) = false := by
        have hy : (pre ++ (l ++ [41]))[pre.length + i]? = some l[i] := by
          rw [List.getElem?_append_right (by omega), show pre.length + i - pre.length = i by omega, List.getElem?_append_left hlt]
          exact hx
        rw [byteAt_eq _ _ _ hy]
        have := (hc l[i] (List.getElem_mem hlt)).2
        simpa using this
      rw [b1, Bool.or_false] at e1
      rw [b2, Bool.or_false] at e2
      obtain ⟨r1, r2, r3, r4, r5⟩ := skip_close pre l hc (m - 1) (i + 1) true fi fi' (by omega) (by omega)
      rw [e1, e2]
      exact ⟨r1, r2, by omega, r4, by rw [show pre.length + i + 1 = pre.length + (i + 1) by omega]; exact r5⟩
  termination_by m => m
  decreasing_by omega
end Go.Proofs.YtkphogfmkempnacDoor
namespace Go.Proofs.YtkphogfmkempnacDoor
open Go.RowKit

theorem pcsF_pre (s : List UInt8) : ∀ (f i : Nat) (acc A : List Pc), pcsF s f i acc = .inr A → ∃ qs, A = acc ++ qs
  | 0, _, acc, A, h => by cases h; exact ⟨[], by simp⟩
  | f + 1, i, acc, A, h => by
    unfold pcsF at h
    dsimp only at h
    split at h
    · cases h
    · split at h
      · cases h; exact ⟨[], by simp⟩
      · split at h
        · cases h
        · obtain ⟨qs, hq⟩ := pcsF_pre s f _ _ A h
          exact ⟨_, by rw [hq, List.append_assoc]⟩

/-- None that is its line's first one is a #. -/
def noHash (vs : List (Int × List UInt8 × Bool)) : Prop := ∀ v ∈ vs, v.2.2 = true → v.2.1 ≠ [35]
theorem behind_no (s : List UInt8) (acc : List Pc) (h : noHash (acc.map (viewPc s))) : behind s acc = false := by
  unfold behind
  rcases hr : acc.reverse with _ | ⟨x, _ | ⟨y, r⟩⟩
  · rfl
  · rfl
  · dsimp only
    have hy : y ∈ acc := by
      have : y ∈ acc.reverse := by rw [hr]; simp
      simpa using this
    cases hf : y.first with
    | false => rfl
    | true =>
      have := h (viewPc s y) (List.mem_map_of_mem hy) hf
      have h2 : (textOfPc s y == [35]) = false := by simpa [viewPc] using this
      rw [h2]; rfl
theorem noHash_snoc {s : List UInt8} {acc : List Pc} {p : Pc} (h : noHash (acc.map (viewPc s))) (hp : p.first = false) : noHash ((acc ++ [p]).map (viewPc s)) := by
  intro v hv
  rw [List.map_append, List.mem_append] at hv
  rcases hv with hv | hv
  · exact h v hv
  · simp at hv
    subst hv
    intro h2
    simp [viewPc, hp] at h2

/-- A piece's kind and text. -/
def kt (s : List UInt8) (p : Pc) : Int × List UInt8 := (p.kind, textOfPc s p)

theorem pcsF_close (pre l : List UInt8) (hpre : pre ≠ []) (hc : ∀ c ∈ l, c ≠ 47 ∧ c ≠ 10 ∧ c ≠ 92) : ∀ (f f' i : Nat) (acc acc' A : List Pc), l.length + 1 ≤ f + i → l.length + 2 ≤ f' + i → i ≤ l.length →
    noHash (A.map (viewPc l)) → noHash (acc'.map (viewPc (pre ++ (l ++ [41])))) → pcsF l f i acc = .inr A →
    ∃ qs Q, A = acc ++ qs ∧ pcsF (pre ++ (l ++ [41])) f' (pre.length + i) acc' = .inr (acc' ++ Q) ∧ Q.map (kt (pre ++ (l ++ [41]))) = qs.map (kt l) ++ [(5, [41])]
  | 0, _, i, _, _, _, h, _, hi, _, _, _ => by omega
  | _ + 1, 0, i, _, _, _, _, h, hi, _, _, _ => by omega
  | f + 1, f' + 1, i, acc, acc', A, hf, hf', hi, hn, hn', hA => by
    have hpl : 1 ≤ pre.length := List.length_pos_iff.2 hpre
    have hz : (pre.length + i == 0) = false := by rw [beq_eq_false_iff_ne]; omega
    obtain ⟨k1, k2, k3, k4, k5⟩ := skip_close pre l (fun c h => ⟨(hc c h).1, (hc c h).2.1⟩) _ i false (i == 0) false rfl hi
    have hpreA := pcsF_pre l (f + 1) i acc A hA
    unfold pcsF at hA ⊢
    rw [hz, k5]
    generalize skip l i false (i == 0) = g at hA k1 k2 k3 k4
    obtain ⟨k, sp, fi, lk⟩ := g
    dsimp only at hA k1 k2 k3 k4 ⊢
    subst k1
    have hS : (pre ++ (l ++ [41])).length = pre.length + l.length + 1 := by simp; omega
    simp only [Bool.false_eq_true, if_false] at hA ⊢
    rw [if_neg (by omega)]
    have hd : (pre ++ (l ++ [41])).drop (pre.length + k) = l.drop k ++ [41] := by
      rw [← List.drop_drop, List.drop_left, List.drop_append_of_le_length k4]
    rw [behind_no _ _ hn']
    simp only [Bool.not_false, Bool.and_false]
    rw [hd]
    rcases Nat.lt_or_ge k l.length with hk | hk
    · rw [if_neg (by omega)] at hA
      have hna : noHash (acc.map (viewPc l)) := by
        obtain ⟨qs, hq⟩ := hpreA
        intro v hv
        exact hn v (by rw [hq, List.map_append]; exact List.mem_append_left _ hv)
      rw [behind_no _ _ hna] at hA
      simp only [Bool.and_false] at hA
      have hne : l.drop k ≠ [] := by
        intro e
        have := congrArg List.length e
        simp at this
        omega
      have hcu : ∀ c ∈ l.drop k, c ≠ 10 ∧ c ≠ 92 := fun c h => (hc c (List.mem_of_mem_drop h)).2
      have hul : (l.drop k).length = l.length - k := by simp
      by_cases hm : (pick (sizes (l.drop k) false)).1 = -1
      · rw [if_pos hm] at hA; cases hA
      · rw [pick_close _ hne hcu hm, if_neg hm]
        rw [if_neg hm] at hA
        have hle := pick_le (l.drop k) false (by omega)
        generalize pick (sizes (l.drop k) false) = m at hA hm hle
        obtain ⟨mk, mn⟩ := m
        dsimp only at hA hm hle ⊢
        rcases hle with h | ⟨hle1, hle2⟩
        · exact absurd h hm
        obtain ⟨z, rfl⟩ : ∃ z : Nat, mn = z := ⟨mn.toNat, by omega⟩
        rw [Int.toNat_natCast] at hA ⊢
        have hz2 : z ≤ (l.drop k).length := by omega
        rw [show pre.length + k + z = pre.length + (k + z) by omega]
        obtain ⟨qs, Q, q1, q2, q3⟩ := pcsF_close pre l hpre hc f f' (k + z) _ (acc' ++ [⟨mk, pre.length + k, pre.length + (k + z), sp, false⟩]) A (by omega) (by omega) (by omega) hn (noHash_snoc hn' rfl) hA
        refine ⟨⟨mk, k, k + z, sp, fi⟩ :: qs, ⟨mk, pre.length + k, pre.length + (k + z), sp, false⟩ :: Q, by rw [q1]; simp, by rw [q2]; simp, ?_⟩
        rw [List.map_cons, List.map_cons, q3, List.cons_append]
        congr 1
        simp only [kt, textOfPc]
        rw [List.drop_take, List.drop_take, hd, show pre.length + (k + z) - (pre.length + k) = z by omega, Nat.add_sub_cancel_left, List.take_append_of_le_length hz2]
    · obtain rfl : k = l.length := by omega
      rw [if_pos (Nat.le_refl _)] at hA
      injection hA with hA
      subst hA
      rw [List.drop_eq_nil_of_le (Nat.le_refl _), List.nil_append]
      have hp : pick (sizes [41] false) = (5, 1) := by decide
      rw [hp, if_neg (by decide)]
      dsimp only
      rcases f' with _ | f'
      · omega
      refine ⟨[], [⟨5, pre.length + l.length, pre.length + l.length + 1, sp, false⟩], by simp, ?_, ?_⟩
      · show pcsF _ (f' + 1) (pre.length + l.length + 1) _ = _
        unfold pcsF
        have hs := skip_stop (pre ++ (l ++ [41])) (pre.length + l.length + 1) false (pre.length + l.length + 1 == 0) (by omega) (by rw [List.drop_eq_nil_of_le (by omega)]; rfl)
        rw [hs]
        dsimp only
        rw [if_neg (by simp), if_pos (by omega)]
        rfl
      · simp only [List.map_cons, List.map_nil, kt, textOfPc, List.nil_append]
        rw [List.drop_take, hd, List.drop_eq_nil_of_le (Nat.le_refl _), show pre.length + l.length + 1 - (pre.length + l.length) = 1 by omega]
        rfl
end Go.Proofs.YtkphogfmkempnacDoor
namespace Go.Proofs.YtkphogfmkempnacDoor
open Go.RowKit

theorem goneAt_flat (s : List UInt8) (h : ∀ c ∈ s, c ≠ 92 ∧ c ≠ 10) (i : Nat) : goneAt s i = 0 := by
  have H : ∀ (k : Nat) (c : UInt8), s[k]? = some c → c ≠ 92 ∧ c ≠ 10 := fun k c hk => h c (List.mem_of_getElem? hk)
  unfold goneAt
  rw [if_neg (fun e => (H _ _ e.1).1 rfl), if_neg (fun e => (H _ _ e.1).1 rfl), if_neg (fun e => (H _ _ e.2).2 rfl)]
theorem keptF_flat (s : List UInt8) (h : ∀ c ∈ s, c ≠ 92 ∧ c ≠ 10) : ∀ (f i : Nat), s.length = i + f → keptF s f i = List.range' i f
  | 0, i, _ => rfl
  | f + 1, i, hf => by
    unfold keptF
    rw [if_pos (by omega), if_pos (goneAt_flat s h i), keptF_flat s h f (i + 1) (by omega)]
    rfl
theorem bytes_flat (s : List UInt8) (h : ∀ c ∈ s, c ≠ 92 ∧ c ≠ 10) : bytesAt s (kept s) = s := by
  unfold kept
  rw [keptF_flat s h s.length 0 (by omega)]
  unfold bytesAt
  apply List.ext_getElem
  · simp
  · intro i h1 h2
    simp [List.getD, h2]

/-- A token's kind and text. -/
def ktT (t : Tk) : Int × List UInt8 := (t.kind, t.text.data.toList)
theorem ktT_of (file : Int) (s : List UInt8) (h : ∀ c ∈ s, c ≠ 92 ∧ c ≠ 10) (ps : List Pc) : (tksOf file s ps).map ktT = ps.map (kt s) := by
  unfold tksOf
  rw [List.map_map]
  apply List.map_congr_left
  intro p _
  simp only [Function.comp, ktT, tkOf, kt, bytes_flat s h]

theorem pick_open (r : List UInt8) (b : Bool) : pick (sizes (40 :: r) b) = (5, 1) := by
  have h1 : nameSz (40 :: r) = 0 := by simp [nameSz, byteAt, letB]
  have h2 : numSz (40 :: r) = 0 := by simp [numSz, startsNum, digB]
  have h3 : quotSz 34 (40 :: r) = 0 := by simp [quotSz]
  have h4 : quotSz 39 (40 :: r) = 0 := by simp [quotSz]
  have h5 : pathSz (40 :: r) = 0 := by simp [pathSz]
  have h6 : signSz (40 :: r) = 1 := by simp [signSz, signsL, List.isPrefixOf]
  unfold sizes
  rw [h1, h2, h3, h4, h5, h6]
  cases b <;> decide
theorem pick_not (x : UInt8) (r : List UInt8) (b : Bool) (hx : x ≠ 61) : pick (sizes (33 :: x :: r) b) = (5, 1) := by
  have h1 : nameSz (33 :: x :: r) = 0 := by simp [nameSz, byteAt, letB]
  have h2 : numSz (33 :: x :: r) = 0 := by simp [numSz, startsNum, digB]
  have h3 : quotSz 34 (33 :: x :: r) = 0 := by simp [quotSz]
  have h4 : quotSz 39 (33 :: x :: r) = 0 := by simp [quotSz]
  have h5 : pathSz (33 :: x :: r) = 0 := by simp [pathSz]
  have hx' : ((61 : UInt8) == x) = false := by rw [beq_eq_false_iff_ne]; exact fun e => hx e.symm
  have h6 : signSz (33 :: x :: r) = 1 := by simp [signSz, signsL, List.isPrefixOf, hx']
  unfold sizes
  rw [h1, h2, h3, h4, h5, h6]
  cases b <;> decide

theorem pcsF_one (S : List UInt8) (f i : Nat) (acc : List Pc) (hi : i < S.length) (hb : blankSz (S.drop i) = 0) (hp : ∀ b, pick (sizes (S.drop i) b) = (5, 1)) : pcsF S (f + 1) i acc = pcsF S f (i + 1) (acc ++ [⟨5, i, i + 1, false, i == 0⟩]) := by
  conv => lhs; unfold pcsF
  rw [skip_stop S i false (i == 0) (by omega) hb]
  dsimp only
  rw [if_neg (by simp), if_neg (by omega), hp, if_neg (by decide)]
  rfl

theorem toks_flat (l : List UInt8) (hc : ∀ c ∈ l, c ≠ 92 ∧ c ≠ 10) (hl : l.length ≤ 3000) (A : List Pc) (hA : pcs l = .inr A) : (toksF 0 l).2 = (0, -1, 0) ∧ (toksF 0 l).1.map ktT = A.map (kt l) := by
  unfold toksF
  rw [if_neg (by omega), bytes_flat l hc, hA]
  exact ⟨rfl, ktT_of 0 l hc A⟩

/-- The tokens of a text in parentheses. -/
theorem toks_paren (l : List UInt8) (hc : ∀ c ∈ l, c ≠ 47 ∧ c ≠ 10 ∧ c ≠ 92) (hl : l.length ≤ 500) (A : List Pc) (hA : pcs l = .inr A) (hN : noHash (A.map (viewPc l))) :
    (toksF 0 ([40] ++ (l ++ [41]))).2 = (0, -1, 0) ∧ (toksF 0 ([40] ++ (l ++ [41]))).1.map ktT = (5, [40]) :: (A.map (kt l) ++ [(5, [41])]) := by
  have hcS : ∀ c ∈ [40] ++ (l ++ [41]), c ≠ 92 ∧ c ≠ 10 := fun c h => by
    simp only [List.mem_append, List.mem_singleton] at h
    rcases h with rfl | h | rfl
    · decide
    · exact ⟨(hc c h).2.2, (hc c h).2.1⟩
    · decide
  have h1 := pcsF_one ([40] ++ (l ++ [41])) (l.length + 2) 0 [] (by simp) rfl (fun b => by rw [show List.drop 0 ([40] ++ (l ++ [41])) = 40 :: (l ++ [41]) from rfl]; exact pick_open _ b)
  obtain ⟨qs, Q, q1, q2, q3⟩ := pcsF_close [40] l (by simp) hc (l.length + 1) (l.length + 2) 0 [] [⟨5, 0, 1, false, true⟩] A (by omega) (by omega) (by omega) hN (fun v hv => by simp [viewPc, textOfPc] at hv; subst hv; simp) hA
  have hp : pcs ([40] ++ (l ++ [41])) = .inr ([⟨5, 0, 1, false, true⟩] ++ Q) := by
    unfold pcs
    have hlen : (([40] ++ (l ++ [41]) : List UInt8)).length = l.length + 2 := by simp
    rw [hlen, h1]
    exact q2
  obtain ⟨r1, r2⟩ := toks_flat _ hcS (by simp; omega) _ hp
  refine ⟨r1, ?_⟩
  rw [List.nil_append] at q1
  rw [r2, List.map_append, q3, q1]
  rfl

/-- The tokens of a text in parentheses behind !!. -/
theorem toks_nots (l : List UInt8) (hc : ∀ c ∈ l, c ≠ 47 ∧ c ≠ 10 ∧ c ≠ 92) (hl : l.length ≤ 500) (A : List Pc) (hA : pcs l = .inr A) (hN : noHash (A.map (viewPc l))) :
    (toksF 0 ([33, 33, 40] ++ (l ++ [41]))).2 = (0, -1, 0) ∧ (toksF 0 ([33, 33, 40] ++ (l ++ [41]))).1.map ktT = (5, [33]) :: (5, [33]) :: (5, [40]) :: (A.map (kt l) ++ [(5, [41])]) := by
  have hcS : ∀ c ∈ [33, 33, 40] ++ (l ++ [41]), c ≠ 92 ∧ c ≠ 10 := fun c h => by
    simp only [List.mem_append, List.mem_cons, List.not_mem_nil, or_false] at h
    rcases h with (rfl | rfl | rfl) | h | rfl
    · decide
    · decide
    · decide
    · exact ⟨(hc c h).2.2, (hc c h).2.1⟩
    · decide
  have h1 := pcsF_one ([33, 33, 40] ++ (l ++ [41])) (l.length + 4) 0 [] (by simp) rfl (fun b => by rw [show List.drop 0 ([33, 33, 40] ++ (l ++ [41])) = 33 :: 33 :: 40 :: (l ++ [41]) from rfl]; exact pick_not 33 _ b (by decide))
  have h2 := pcsF_one ([33, 33, 40] ++ (l ++ [41])) (l.length + 3) 1 ([] ++ [⟨5, 0, 0 + 1, false, 0 == 0⟩]) (by simp) rfl (fun b => by rw [show List.drop 1 ([33, 33, 40] ++ (l ++ [41])) = 33 :: 40 :: (l ++ [41]) from rfl]; exact pick_not 40 _ b (by decide))
  have h3 := pcsF_one ([33, 33, 40] ++ (l ++ [41])) (l.length + 2) 2 ([] ++ [⟨5, 0, 0 + 1, false, 0 == 0⟩] ++ [⟨5, 1, 1 + 1, false, 1 == 0⟩]) (by simp) rfl (fun b => by rw [show List.drop 2 ([33, 33, 40] ++ (l ++ [41])) = 40 :: (l ++ [41]) from rfl]; exact pick_open _ b)
  obtain ⟨qs, Q, q1, q2, q3⟩ := pcsF_close [33, 33, 40] l (by simp) hc (l.length + 1) (l.length + 2) 0 [] [⟨5, 0, 1, false, true⟩, ⟨5, 1, 2, false, false⟩, ⟨5, 2, 3, false, false⟩] A (by omega) (by omega) (by omega) hN
    (fun v hv => by simp [viewPc, textOfPc] at hv; rcases hv with rfl | rfl | rfl <;> simp) hA
  have hp : pcs ([33, 33, 40] ++ (l ++ [41])) = .inr ([⟨5, 0, 1, false, true⟩, ⟨5, 1, 2, false, false⟩, ⟨5, 2, 3, false, false⟩] ++ Q) := by
    unfold pcs
    have hlen : (([33, 33, 40] ++ (l ++ [41]) : List UInt8)).length = l.length + 4 := by simp
    rw [hlen, h1]
    exact (h2.trans h3).trans q2
  obtain ⟨r1, r2⟩ := toks_flat _ hcS (by simp; omega) _ hp
  refine ⟨r1, ?_⟩
  rw [List.nil_append] at q1
  rw [r2, List.map_append, q3, q1]
  rfl
end Go.Proofs.YtkphogfmkempnacDoor
namespace Go.Proofs.YtkphogfmkempnacDoor
open Go.RowKit

/-- A word: whether a blank stands ahead of it, its kind, its bytes. -/
structure Wd where
  gap : Bool
  kind : Int
  bytes : List UInt8
def flatW : List Wd → List UInt8
  | [] => []
  | w :: r => (if w.gap then 32 :: w.bytes else w.bytes) ++ flatW r
/-- Each word is what comes next, ahead of what follows. -/
def okW : List Wd → Prop
  | [] => True
  | w :: r => w.bytes ≠ [] ∧ w.bytes ≠ [35] ∧ w.kind ≠ -1 ∧ blankSz (w.bytes ++ flatW r) = 0 ∧ pick (sizes (w.bytes ++ flatW r) false) = (w.kind, (w.bytes.length : Int)) ∧ okW r
def ktW (w : Wd) : Int × List UInt8 := (w.kind, w.bytes)

theorem skip_word (s : List UInt8) (i : Nat) (sp fi : Bool) (hi : i < s.length) (h : blankSz (s.drop i) = 0) : skip s i sp fi = ⟨i, sp, fi, false⟩ := by
  unfold skip
  rw [show s.length + 1 - i = (s.length - i) + 1 by omega, skipF, if_pos h]
theorem skip_gap (s : List UInt8) (i : Nat) (sp fi : Bool) (hi : i + 1 < s.length) (hc : byteAt s i = 32) (h1 : blankSz (s.drop i) = 1) (h : blankSz (s.drop (i + 1)) = 0) : skip s i sp fi = ⟨i + 1, true, fi, false⟩ := by
  unfold skip
  rw [show s.length + 1 - i = ((s.length - i - 1) + 1) + 1 by omega, skipF, h1, if_neg (by decide), if_neg (by decide), hc]
  show skipF s _ (i + 1) true (fi || false) = _
  rw [skipF, if_pos h, Bool.or_false]

theorem behind_none (s : List UInt8) (acc : List Pc) (h : ∀ p ∈ acc, textOfPc s p ≠ [35]) : behind s acc = false := by
  unfold behind
  split
  · rename_i w hh r heq
    have hm : hh ∈ acc := by
      have : hh ∈ acc.reverse := by rw [heq]; simp
      simpa using this
    have := h hh hm
    have : (textOfPc s hh == [35]) = false := by simpa using this
    rw [this]; simp
  · rfl

theorem pcsF_words (s : List UInt8) : ∀ (ws : List Wd) (f i : Nat) (acc : List Pc), s.drop i = flatW ws → i ≤ s.length → ws.length + 1 ≤ f → okW ws → (∀ p ∈ acc, textOfPc s p ≠ [35]) →
    ∃ A, pcsF s f i acc = .inr A ∧ A.map (kt s) = acc.map (kt s) ++ ws.map ktW
  | [], f, i, acc, hd, hi, hf, _, _ => by
    obtain ⟨f, rfl⟩ : ∃ g, f = g + 1 := ⟨f - 1, by simp at hf; omega⟩
    have hl : i = s.length := by
      have := congrArg List.length hd
      simp [flatW] at this
      omega
    subst hl
    refine ⟨acc, ?_, by simp⟩
    have hz : ∀ fi, skip s s.length false fi = ⟨s.length, false, fi, false⟩ := fun fi => by
      unfold skip
      rw [show s.length + 1 - s.length = 0 + 1 by omega, skipF, hd]
      rfl
    unfold pcsF
    rw [hz]
    simp
  | w :: r, f, i, acc, hd, hi, hf, hok, hacc => by
    obtain ⟨f, rfl⟩ : ∃ g, f = g + 1 := ⟨f - 1, by simp at hf; omega⟩
    obtain ⟨h1, h2, h3, h4, h5, h6⟩ := hok
    have hwl : 0 < w.bytes.length := List.length_pos_iff.2 h1
    have hlen := congrArg List.length hd
    rw [List.length_drop] at hlen
    obtain ⟨g, hg, hgd, hgl⟩ : ∃ g : Nat, skip s i false (i == 0) = ⟨g, w.gap, (i == 0), false⟩ ∧ s.drop g = w.bytes ++ flatW r ∧ g + w.bytes.length + (flatW r).length = s.length := by
      cases hgap : w.gap with
      | false =>
        rw [flatW, hgap] at hd
        rw [flatW, hgap] at hlen
        simp only [Bool.false_eq_true, if_false] at hd hlen
        rw [List.length_append] at hlen
        exact ⟨i, skip_word s i false _ (by omega) (by rw [hd]; exact h4), hd, by omega⟩
      | true =>
        rw [flatW, hgap] at hd
        rw [flatW, hgap] at hlen
        simp only [if_true, List.cons_append] at hd hlen
        rw [List.length_cons, List.length_append] at hlen
        have hd1 : s.drop (i + 1) = w.bytes ++ flatW r := by
          rw [← List.drop_drop, hd]; rfl
        refine ⟨i + 1, skip_gap s i false _ (by omega) ?_ ?_ (by rw [hd1]; exact h4), hd1, by omega⟩
        · have : byteAt (s.drop i) 0 = byteAt s i := by simp [byteAt, List.getD, List.getElem?_drop]
          rw [hd] at this
          rw [← this]; rfl
        · rw [hd]; simp [blankSz]
    have htx : ∀ sp fi, textOfPc s ⟨w.kind, g, g + w.bytes.length, sp, fi⟩ = w.bytes := fun sp fi => by
      unfold textOfPc
      dsimp only
      rw [List.drop_take, hgd, Nat.add_sub_cancel_left, List.take_append_of_le_length (Nat.le_refl _), List.take_length]
    unfold pcsF
    rw [hg]
    dsimp only
    rw [if_neg (by decide), if_neg (by omega), behind_none s acc hacc, Bool.and_false, hgd, h5]
    dsimp only
    rw [if_neg h3, Int.toNat_natCast]
    obtain ⟨A, a1, a2⟩ := pcsF_words s r f (g + w.bytes.length) (acc ++ [⟨w.kind, g, g + w.bytes.length, w.gap, i == 0⟩]) (by
      rw [← List.drop_drop, hgd, List.drop_append_of_le_length (Nat.le_refl _), List.drop_length, List.nil_append]) (by omega) (by simp at hf; omega) h6 (fun p hp => by
      rcases List.mem_append.1 hp with hp | hp
      · exact hacc p hp
      · rw [List.mem_singleton] at hp
        subst hp
        rw [htx]; exact h2)
    refine ⟨A, a1, ?_⟩
    rw [a2, List.map_append, List.append_assoc]
    congr 1
    simp [kt, ktW, htx]

/-- The tokens of a text that is made of words. -/
theorem toks_words (ws : List Wd) (hok : okW ws) (hc : ∀ c ∈ flatW ws, c ≠ 92 ∧ c ≠ 10) (hl : (flatW ws).length ≤ 3000) (hw : ws.length ≤ (flatW ws).length) :
    (toksF 0 (flatW ws)).2 = (0, -1, 0) ∧ (toksF 0 (flatW ws)).1.map ktT = ws.map ktW := by
  obtain ⟨A, h1, h2⟩ := pcsF_words (flatW ws) ws ((flatW ws).length + 1) 0 [] (by simp) (Nat.zero_le _) (by omega) hok (fun p hp => by cases hp)
  obtain ⟨t1, t2⟩ := toks_flat (flatW ws) hc hl A h1
  exact ⟨t1, by rw [t2, h2]; rfl⟩
theorem flatW_length : ∀ (ws : List Wd), okW ws → ws.length ≤ (flatW ws).length
  | [], _ => Nat.le_refl _
  | w :: r, h => by
    have h0 : 0 < w.bytes.length := List.length_pos_iff.2 h.1
    have := flatW_length r h.2.2.2.2.2
    rw [flatW, List.length_cons, List.length_append]
    split <;> simp <;> omega
end Go.Proofs.YtkphogfmkempnacDoor
namespace Go.Proofs.YtkphogfmkempnacDoor
open Go.RowKit

theorem pcsF_few (s : List UInt8) : ∀ (f i : Nat) (acc A : List Pc), i ≤ s.length → pcsF s f i acc = .inr A → ∃ qs, A = acc ++ qs ∧ qs.length ≤ s.length - i
  | 0, _, acc, A, _, h => by cases h; exact ⟨[], by simp, by simp⟩
  | f + 1, i, acc, A, hi, h => by
    have hs := skip_to s i false (i == 0) hi
    unfold pcsF at h
    generalize skip s i false (i == 0) = g at h hs
    obtain ⟨k, sp, fi, lk⟩ := g
    dsimp only at h hs
    split at h
    · cases h
    · split at h
      · cases h; exact ⟨[], by simp, by simp⟩
      · rename_i hk
        split at h
        · cases h
        · rename_i hm
          have hle := pick_le (s.drop k) (!fi && behind s acc) (by simp; omega)
          have hl : (s.drop k).length = s.length - k := by simp
          have hn : k + (pick (sizes (s.drop k) (!fi && behind s acc))).2.toNat ≤ s.length ∧ 0 < (pick (sizes (s.drop k) (!fi && behind s acc))).2.toNat := by
            rcases hle with h' | ⟨h1, h2⟩
            · exact absurd h' hm
            · omega
          obtain ⟨qs, q1, q2⟩ := pcsF_few s f _ _ A hn.1 h
          exact ⟨_ :: qs, by rw [q1, List.append_assoc]; rfl, by rw [List.length_cons]; omega⟩

/-- Tokens are few, and their texts short. -/
theorem toks_small (file : Int) (l : List UInt8) : (toksF file l).1.length ≤ 3000 ∧ ∀ t ∈ (toksF file l).1, t.text.size ≤ 3000 := by
  have hk : (bytesAt l (kept l)).length ≤ l.length := by rw [bytesAt_length]; exact (went_kept l).few
  unfold toksF
  split
  · exact ⟨by simp, fun t ht => by cases ht⟩
  · rename_i h3
    rcases hp : pcs (bytesAt l (kept l)) with k | ps
    · exact ⟨by simp, fun t ht => by cases ht⟩
    · dsimp only
      obtain ⟨qs, q1, q2⟩ := pcsF_few _ _ 0 [] ps (Nat.zero_le _) hp
      rw [List.nil_append] at q1
      refine ⟨by rw [tksOf_length, q1]; omega, fun t ht => ?_⟩
      unfold tksOf at ht
      obtain ⟨p, _, rfl⟩ := List.mem_map.1 ht
      show (textOfPc (bytesAt l (kept l)) p).toArray.size ≤ 3000
      rw [List.size_toArray]
      unfold textOfPc
      rw [List.length_drop, List.length_take]
      omega
end Go.Proofs.YtkphogfmkempnacDoor
