/- Names begin with a letter, signs don't: the tokens of a text; which words are no names. -/
import Derived.Test.YtkfbhknhjpmomaaTgA
import Derived.Test.YtkfbhknhjpmomaaLxSmall
namespace Go.Proofs.Ytkfbhknhjpmomaa
/-- What must be in a tree. -/
def wantT (L : List Tk) (t : Nat) : Bool := (kindT L t == 2) || (kindT L t == 3) || (kindT L t == 4) || nameT L t
/-- Names begin with a letter. -/
def Lets (L : List Tk) : Prop := ∀ t ∈ L, t.kind = 1 → ∃ c l, t.text.data.toList = c :: l ∧ letB c = true
/-- A word that is none of these. -/
def sgnW (s : List UInt8) : Bool := keyW s || match s with
  | [] => false
  | c :: _ => !letB c
theorem unwant {L : List Tk} {i : Nat} {s : List UInt8} (hL : Lets L) (h : wordT L i = s) (hs : sgnW s = true) : wantT L i = false := by
  unfold wordT at h
  unfold wantT kindT nameT
  cases hi : L[i]? with
  | none => rfl
  | some t =>
    rw [hi] at h
    dsimp only at h ⊢
    by_cases hk : t.kind = 1 ∨ t.kind = 5
    · rw [if_pos hk] at h
      rcases hk with hk | hk
      · rw [hk]
        simp only [Int.reduceBEq, Bool.false_or, decide_true, Bool.true_and]
        rw [h]
        unfold sgnW at hs
        cases hw : keyW s with
        | true => rfl
        | false =>
          rw [hw] at hs
          obtain ⟨c, l, e1, e2⟩ := hL t (List.mem_of_getElem? hi) hk
          rw [h] at e1
          subst e1
          simp [e2] at hs
      · rw [hk]
        simp
    · rw [if_neg hk] at h
      subst h
      simp [sgnW, keyW] at hs
theorem ne_ite {p : Prop} [Decidable p] {a b : Nat} (h : (if p then a else b) ≠ 0) : p ∨ b ≠ 0 := by
  by_cases hp : p
  · exact .inl hp
  · rw [if_neg hp] at h
    exact .inr h
theorem sgn_level {s : List UInt8} (h : levelW s ≠ 0) : sgnW s = true := by
  have hx : ∀ {x : List UInt8}, sgnW x = true → s = x → sgnW s = true := fun h e => e ▸ h
  unfold levelW at h
  rcases ne_ite h with e | h
  · exact hx (by decide) e
  rcases ne_ite h with e | h
  · rcases e with e | e | e | e | e | e | e | e | e | e | e <;> exact hx (by decide) e
  rcases ne_ite h with e | h
  · exact hx (by decide) e
  rcases ne_ite h with e | h
  · exact hx (by decide) e
  rcases ne_ite h with e | h
  · exact hx (by decide) e
  rcases ne_ite h with e | h
  · exact hx (by decide) e
  rcases ne_ite h with e | h
  · exact hx (by decide) e
  rcases ne_ite h with e | h
  · rcases e with e | e <;> exact hx (by decide) e
  rcases ne_ite h with e | h
  · rcases e with e | e | e | e <;> exact hx (by decide) e
  rcases ne_ite h with e | h
  · rcases e with e | e <;> exact hx (by decide) e
  rcases ne_ite h with e | h
  · rcases e with e | e <;> exact hx (by decide) e
  rcases ne_ite h with e | h
  · rcases e with e | e | e <;> exact hx (by decide) e
  exact absurd rfl h
theorem pick_no : ∀ (l : List (Int × Int)), (∀ x ∈ l, x.1 ≠ 1) → (pick l).1 ≠ 1
  | [], _ => by decide
  | (k, n) :: r, h => by
    unfold pick
    split
    · decide
    · split
      · exact h (k, n) (by simp)
      · exact pick_no r fun x hx => h x (by simp [hx])
theorem pick_let {l : List UInt8} {path : Bool} (h : (pick (sizes l path)).1 = 1) : letB (byteAt l 0) = true := by
  cases hb : letB (byteAt l 0) with
  | true => rfl
  | false =>
    exfalso
    have h0 : nameSz l = 0 := by
      unfold nameSz
      split
      · rfl
      · rw [hb]; rfl
    unfold sizes at h
    rw [h0] at h
    unfold pick at h
    rw [if_neg (by decide), if_neg (by decide)] at h
    refine pick_no _ (fun x hx => ?_) h
    simp only [List.mem_cons, List.mem_nil_iff, or_false] at hx
    rcases hx with rfl | rfl | rfl | rfl | rfl
    · show (2 : Int) ≠ 1; decide
    · show (4 : Int) ≠ 1; decide
    · show (3 : Int) ≠ 1; decide
    · show (7 : Int) ≠ 1; decide
    · show (5 : Int) ≠ 1; decide
/-- Signs don't. -/
def LetsR (L : List Tk) : Prop := Lets L ∧ ∀ t ∈ L, t.kind = 5 → ∀ c l, t.text.data.toList = c :: l → letB c = false
theorem pick_first {n : Int} (r : List (Int × Int)) (h : 0 < n) : (pick ((1, n) :: r)).1 = 1 := by
  unfold pick
  rw [if_neg (by omega), if_pos h]
theorem pick_sign {l : List UInt8} {path : Bool} (hl : l ≠ []) (h : (pick (sizes l path)).1 = 5) : letB (byteAt l 0) = false := by
  cases hb : letB (byteAt l 0) with
  | false => rfl
  | true =>
    exfalso
    have h0 : 0 < (nameSz l : Int) := by
      unfold nameSz
      rw [if_neg hl, if_pos hb]
      unfold spanN
      omega
    unfold sizes at h
    rw [pick_first _ h0] at h
    revert h
    decide
theorem pcsF_lets (s : List UInt8) : ∀ (f i : Nat) (acc A : List Pc), i ≤ s.length → (∀ p ∈ acc, p.lo < p.hi ∧ p.hi ≤ s.length ∧ ((p.kind = 1 → letB (byteAt (s.drop p.lo) 0) = true) ∧ (p.kind = 5 → letB (byteAt (s.drop p.lo) 0) = false))) → pcsF s f i acc = .inr A → ∀ p ∈ A, p.lo < p.hi ∧ p.hi ≤ s.length ∧ ((p.kind = 1 → letB (byteAt (s.drop p.lo) 0) = true) ∧ (p.kind = 5 → letB (byteAt (s.drop p.lo) 0) = false))
  | 0, _, acc, A, _, ha, h => by cases h; exact ha
  | f + 1, i, acc, A, hi, ha, h => by
    have hs := skip_to s i false (i == 0) hi
    unfold pcsF at h
    generalize skip s i false (i == 0) = g at h hs
    obtain ⟨k, sp, fi, lk⟩ := g
    dsimp only at h hs
    split at h
    · cases h
    · split at h
      · cases h; exact ha
      · rename_i hk
        split at h
        · cases h
        · rename_i hm
          have hle := pick_le (s.drop k) (!fi && behind s acc) (by simp; omega)
          have hl : (s.drop k).length = s.length - k := by simp
          have hn : k + (pick (sizes (s.drop k) (!fi && behind s acc))).2.toNat ≤ s.length ∧ 0 < (pick (sizes (s.drop k) (!fi && behind s acc))).2.toNat := by
            rcases hle with h' | ⟨h1, h2⟩
            · exact absurd h' hm
            · omega
          refine pcsF_lets s f _ _ A hn.1 (fun p hp => ?_) h
          rcases List.mem_append.1 hp with hp | hp
          · exact ha p hp
          · rw [List.mem_singleton] at hp
            subst hp
            exact ⟨by show k < k + _; omega, hn.1, fun h1 => pick_let h1, fun h1 => pick_sign (fun e => by have := congrArg List.length e; simp at this; omega) h1⟩
theorem toks_letsR (file : Int) (l : List UInt8) : LetsR (toksF file l).1 := by
  unfold toksF
  split
  · exact ⟨fun t ht => by (cases ht), fun t ht => by (cases ht)⟩
  · rcases hp : pcs (bytesAt l (kept l)) with k | ps
    · exact ⟨fun t ht => by (cases ht), fun t ht => by (cases ht)⟩
    · dsimp only
      have hf := pcsF_lets _ _ 0 [] ps (Nat.zero_le _) (fun p hp => by cases hp) hp
      have key : ∀ p ∈ ps, ∃ c r, (textOfPc (bytesAt l (kept l)) p) = c :: r ∧ c = byteAt ((bytesAt l (kept l)).drop p.lo) 0 := by
        intro p hpm
        obtain ⟨h1, h2, h3⟩ := hf p hpm
        unfold textOfPc
        generalize bytesAt l (kept l) = s at *
        have hlt : p.lo < s.length := by omega
        have e1 : (s.take p.hi).drop p.lo = s[p.lo] :: (s.take p.hi).drop (p.lo + 1) := by
          rw [List.drop_eq_getElem_cons (by rw [List.length_take]; omega), List.getElem_take]
        refine ⟨_, _, e1, ?_⟩
        rw [List.drop_eq_getElem_cons hlt]
        rfl
      refine ⟨fun t ht hk => ?_, fun t ht hk c r hc => ?_⟩
      · unfold tksOf at ht
        obtain ⟨p, hpm, rfl⟩ := List.mem_map.1 ht
        obtain ⟨c, r, e1, e2⟩ := key p hpm
        refine ⟨c, r, ?_, ?_⟩
        · show (textOfPc (bytesAt l (kept l)) p).toArray.toList = _
          rw [List.toList_toArray]
          exact e1
        · rw [e2]
          exact (hf p hpm).2.2.1 hk
      · unfold tksOf at ht
        obtain ⟨p, hpm, rfl⟩ := List.mem_map.1 ht
        obtain ⟨c', r', e1, e2⟩ := key p hpm
        have hc' : (textOfPc (bytesAt l (kept l)) p).toArray.toList = c :: r := hc
        rw [List.toList_toArray, e1] at hc'
        cases hc'
        rw [e2]
        exact (hf p hpm).2.2.2 hk
theorem toks_lets (file : Int) (l : List UInt8) : Lets (toksF file l).1 := (toks_letsR file l).1
end Go.Proofs.Ytkfbhknhjpmomaa
