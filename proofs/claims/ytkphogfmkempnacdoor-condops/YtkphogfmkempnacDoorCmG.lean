/- Some texts in one. -/
import Derived.Test.YtkphogfmkempnacDoorCmB
import Derived.Test.YtkphogfmkempnacDoorCmE
import Derived.Lib.ItoaLen
import Derived.Test.YtkphogfmkempnacDoorCmF
namespace Go.Proofs.YtkphogfmkempnacDoor
open Go.RowKit

theorem digit_at (x : Nat) (h : x < 10) : (UInt8.ofNat (48 + x)).toNat = 48 + x := by
  rw [UInt8.toNat_ofNat']
  exact Nat.mod_eq_of_lt (by omega)
theorem dec_ne (u : Nat) : Lib.decDigits u ≠ [] := by
  rw [Lib.decDigits]
  split <;> simp
theorem dec_digits (u : Nat) : ∀ c ∈ Lib.decDigits u, 48 ≤ c.toNat ∧ c.toNat ≤ 57 := by
  induction u using Nat.strongRecOn with
  | ind u ih =>
    rw [Lib.decDigits]
    split
    · rename_i h
      intro c hc
      rw [List.mem_singleton] at hc
      subst hc
      rw [digit_at u h]; omega
    · rename_i h
      intro c hc
      rcases List.mem_append.1 hc with hc | hc
      · exact ih (u / 10) (by omega) c hc
      · rw [List.mem_singleton] at hc
        subst hc
        rw [digit_at (u % 10) (by omega)]; omega
theorem dec_head (u : Nat) (h0 : 0 < u) : (Lib.decDigits u).headD 0 ≠ 48 := by
  induction u using Nat.strongRecOn with
  | ind u ih =>
    rw [Lib.decDigits]
    split
    · rename_i h
      intro e
      have := congrArg UInt8.toNat e
      simp only [List.headD_cons] at this
      rw [digit_at u h] at this
      have h48 : (48 : UInt8).toNat = 48 := rfl
      omega
    · rename_i h
      have hi := ih (u / 10) (by omega) (by omega)
      rcases hd : Lib.decDigits (u / 10) with _ | ⟨c, r⟩
      · exact absurd hd (dec_ne _)
      · rw [hd] at hi
        exact hi
theorem digU_of (c : UInt8) (h : 48 ≤ c.toNat ∧ c.toNat ≤ 57) : digU c = c.toNat - 48 := by
  unfold digU
  rw [if_pos h]
theorem pars_snoc (b : Nat) (c : UInt8) : ∀ (l : List UInt8) (acc n : Nat), parsU b acc l = .inl n → parsU b acc (l ++ [c]) = parsU b n [c]
  | [], acc, n, h => by
    unfold parsU at h
    cases h
    rfl
  | x :: r, acc, n, h => by
    rw [List.cons_append]
    unfold parsU at h ⊢
    split at h
    · cases h
    · split at h
      · cases h
      · split at h
        · cases h
        · rename_i h1 h2 h3
          rw [if_neg h1, if_neg h2, if_neg h3]
          exact pars_snoc b c r _ n h
theorem dec_pars (u : Nat) (hu : u ≤ 9223372036854775807) : parsU 10 0 (Lib.decDigits u) = .inl u := by
  induction u using Nat.strongRecOn with
  | ind u ih =>
    rw [Lib.decDigits]
    split
    · rename_i h
      have hd := digU_of (UInt8.ofNat (48 + u)) (by rw [digit_at u h]; omega)
      rw [digit_at u h] at hd
      simp only [parsU]
      rw [hd, if_neg (by omega), if_neg (by unfold cutU; omega), if_neg (by omega)]
      congr 1; omega
    · rename_i h
      have hx : u % 10 < 10 := by omega
      rw [pars_snoc 10 _ _ 0 (u / 10) (ih (u / 10) (by omega) (by omega))]
      have hd := digU_of (UInt8.ofNat (48 + u % 10)) (by rw [digit_at _ hx]; omega)
      rw [digit_at _ hx] at hd
      simp only [parsU]
      rw [hd, if_neg (by omega), if_neg (by unfold cutU; omega), if_neg (by omega)]
      congr 1; omega
theorem trim_digits (l : List UInt8) (h : ∀ c ∈ l, 48 ≤ c.toNat ∧ c.toNat ≤ 57) : Lib.trimRightS l [85, 117, 76, 108] = l := by
  unfold Lib.trimRightS
  rcases hr : l.reverse with _ | ⟨c, r⟩
  · have := congrArg List.reverse hr
    simp at this
    subst this
    rfl
  · have hc := h c (by have : c ∈ l.reverse := by rw [hr]; simp
                       simpa using this)
    have : ([85, 117, 76, 108] : List UInt8).contains c = false := by
      rw [List.contains_eq_any_beq]
      simp only [List.any_cons, List.any_nil, Bool.or_false, Bool.or_eq_false_iff, beq_eq_false_iff_ne]
      refine ⟨?_, ?_, ?_, ?_⟩ <;> (intro e; subst e; revert hc; decide)
    rw [List.dropWhile_cons, this]
    simp only [Bool.false_eq_true, if_false]
    rw [← hr, List.reverse_reverse]
theorem cut_digits (l : List UInt8) (h : ∀ c ∈ l, 48 ≤ c.toNat ∧ c.toNat ≤ 57) : cutL l = l := by
  unfold cutL
  rw [trim_digits _ (fun c hc => h c (List.mem_of_mem_drop hc)), List.take_append_drop]
/-- The digits of a number tell it. -/
theorem num_dec (u : Nat) (hu : u ≤ 9223372036854775807) : numL (Lib.decDigits u) = some (u : Int) := by
  rcases Nat.eq_zero_or_pos u with rfl | hp
  · rw [Lib.decDigits_one (by omega)]
    decide +kernel
  · have hne := dec_ne u
    have hh := dec_head u hp
    unfold numL
    rw [if_neg hne, cut_digits _ (dec_digits u)]
    rcases hd : Lib.decDigits u with _ | ⟨c, r⟩
    · exact absurd hd hne
    · rw [hd] at hh
      simp only [List.headD_cons] at hh
      have hb : (c == 48) = false := by rw [beq_eq_false_iff_ne]; exact hh
      have hb' : ((48 : UInt8) == c) = false := by rw [beq_eq_false_iff_ne]; exact fun e => hh e.symm
      have p1 : ∀ x, Lib.hasPrefix (c :: r) [48, x] = false := fun x => by
        unfold Lib.hasPrefix
        rw [List.isPrefixOf, hb', Bool.false_and]
      rw [p1, p1, List.headD_cons, hb]
      simp only [Bool.or_self, Bool.false_eq_true, if_false]
      rw [← hd]
      unfold parsE
      rw [if_neg hne, dec_pars u hu]
      rfl

theorem byteAt_in (d r : List UInt8) (i : Nat) (h : i < d.length) : byteAt (d ++ r) i = d[i] := by
  apply byteAt_eq
  rw [List.getElem?_append_left h, List.getElem?_eq_getElem h]
theorem not_letter (c : UInt8) (h : 48 ≤ c.toNat ∧ c.toNat ≤ 57) : letB c = false := by
  unfold letB
  simp only [Bool.or_eq_false_iff, Bool.and_eq_false_iff, decide_eq_false_iff_not]
  omega
theorem is_digit (c : UInt8) (h : 48 ≤ c.toNat ∧ c.toNat ≤ 57) : digB c = true := by
  unfold digB
  simp only [Bool.and_eq_true, decide_eq_true_eq]
  exact h
/-- Digits with ) behind them are a number. -/
theorem pick_dec (d r : List UInt8) (hne : d ≠ []) (hd : ∀ c ∈ d, 48 ≤ c.toNat ∧ c.toNat ≤ 57) : pick (sizes (d ++ 41 :: r) false) = (2, (d.length : Int)) ∧ blankSz (d ++ 41 :: r) = 0 := by
  rcases d with _ | ⟨c, d⟩
  · exact absurd rfl hne
  · have hc := hd c (by simp)
    have hl : 0 < (c :: d).length := by simp
    have h1 : nameSz ((c :: d) ++ 41 :: r) = 0 := by
      unfold nameSz
      rw [if_neg (by simp), byteAt_in _ _ 0 hl]
      show (if letB c = true then _ else _) = _
      rw [not_letter c hc]; rfl
    have hno : ∀ x : UInt8, x.toNat < 48 ∨ 57 < x.toNat → c ≠ x := fun x hx e => by subst e; omega
    have h2 : numSz ((c :: d) ++ 41 :: r) = (c :: d).length := by
      unfold numSz
      have hs : startsNum ((c :: d) ++ 41 :: r) = true := by
        rw [List.cons_append]
        show (if c = 46 then _ else digB c) = true
        rw [if_neg (hno 46 (by decide))]
        exact is_digit c hc
      rw [if_pos hs]
      refine spanN_eq _ _ _ (by simp) (by simp) (fun i h1 h2 => ?_) (fun _ => ?_)
      · have hx := hd _ (List.getElem_mem h2)
        unfold numB
        rw [byteAt_in _ _ i h2]
        generalize (c :: d)[i] = x at hx
        have n46 : x ≠ 46 := fun e => by subst e; revert hx; decide
        have n43 : x ≠ 43 := fun e => by subst e; revert hx; decide
        have n45 : x ≠ 45 := fun e => by subst e; revert hx; decide
        rw [if_neg n46, if_neg (by simp [n43, n45])]
        unfold wordB
        rw [is_digit x hx, Bool.or_true]
      · have hb : byteAt ((c :: d) ++ 41 :: r) (c :: d).length = 41 := by
          apply byteAt_eq
          rw [List.getElem?_append_right (Nat.le_refl _), Nat.sub_self]; rfl
        unfold numB
        rw [hb, if_neg (by decide), if_neg (by decide)]
        decide
    constructor
    · unfold sizes
      rw [h1, h2]
      unfold pick
      rw [if_neg (by decide), if_neg (by decide)]
      unfold pick
      rw [if_neg (by omega), if_pos (by omega)]
    · rw [List.cons_append]
      simp only [blankSz]
      rw [if_neg (by intro h; rcases h with h | h | h | h <;> exact hno _ (by decide) h), if_neg (fun h => hno 47 (by decide) h.1), if_neg (fun h => hno 47 (by decide) h.1)]
end Go.Proofs.YtkphogfmkempnacDoor
namespace Go.Proofs.YtkphogfmkempnacDoor
open Go.RowKit Go.Shelf

/-- The text that is asked first. -/
def aliveL : List UInt8 := [49, 32, 43, 32, 50, 32, 42, 32, 51, 32, 61, 61, 32, 55, 32, 38, 38, 32, 39, 97, 39, 32, 61, 61, 32, 57, 55, 32, 63, 32, 48, 120, 49, 48, 32, 58, 32, 49, 32, 47, 32, 48]
theorem alive_num : numL [48, 49, 55, 117] = some 15 := by decide +kernel
theorem alive_char : charL [39, 92, 110, 39] = some 10 := by decide +kernel
theorem alive_toks : (toksF 0 aliveL).2 = (0, -1, 0) := by decide +kernel
theorem alive_eval : evalL numL (toksF 0 aliveL).1 = (16, (0, -1, 0)) := by decide +kernel
end Go.Proofs.YtkphogfmkempnacDoor
