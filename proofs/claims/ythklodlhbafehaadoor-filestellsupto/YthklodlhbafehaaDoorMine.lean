/- Walk of the function that gives out each file's edits: a call returns those of the file that is asked for, and keeps the others. -/
import Derived.Test.YthklodlhbafehaaDoorRewrite
namespace Go.Proofs.YthklodlhbafehaaDoor
open Go.RowKit Go.Shelf

def ofFile (f : Int) (e : Ed) : Bool := e.file == f
def mine (f : Int) (es : List Ed) : List Ed := es.takeWhile (ofFile f)
def others (f : Int) (es : List Ed) : List Ed := es.dropWhile (ofFile f)
theorem mine_others (f : Int) (es : List Ed) : mine f es ++ others f es = es := List.takeWhile_append_dropWhile
theorem mine_length (f : Int) (es : List Ed) : (mine f es).length + (others f es).length = es.length := by
  rw [← List.length_append, mine_others]

theorem EAt.take {w : World} {a : Option Addr} {es : List Ed} (h : EAt w a es) (k : Nat) : EAt w a (es.take k) := by
  rcases h with rfl | ⟨b, off, rfl, hb, hc⟩
  · exact .inl (by simp)
  · refine .inr ⟨b, off, rfl, hb, fun j x hx => hc j x ?_⟩
    rw [List.getElem?_take] at hx
    split at hx
    · exact hx
    · cases hx
theorem EAt.drop {w : World} {b off : Nat} {es : List Ed} (h : EAt w (some ⟨b, off, none⟩) es) (k : Nat) : EAt w (some ⟨b, off + k * 4, none⟩) (es.drop k) := by
  rcases h with rfl | ⟨b', off', h, hb, hc⟩
  · exact .inl (by simp)
  · cases h
    refine .inr ⟨b, off + k * 4, rfl, hb, fun j x hx i v hv => ?_⟩
    rw [List.getElem?_drop] at hx
    have := hc (k + j) x hx i v hv
    rwa [show off + (k + j) * 4 + i = off + k * 4 + j * 4 + i by omega] at this

theorem mine_eq (f : Int) (es : List Ed) : mine f es = es.take (mine f es).length ∧ others f es = es.drop (mine f es).length := by
  have h := mine_others f es
  constructor
  · have h2 : (mine f es ++ others f es).take (mine f es).length = mine f es := List.take_left
    rw [h] at h2; exact h2.symm
  · have h2 : (mine f es ++ others f es).drop (mine f es).length = others f es := List.drop_left
    rw [h] at h2; exact h2.symm

theorem mine_stop (f : Int) (es : List Ed) (k : Nat) (hk : ∀ j, j < k → ∀ x, es[j]? = some x → ofFile f x = true) (hs : ∀ x, es[k]? = some x → ofFile f x = false) (hl : k ≤ es.length) : (mine f es).length = k := by
  induction k generalizing es with
  | zero =>
    cases es with
    | nil => rfl
    | cons e r => have := hs e rfl; simp [mine, this]
  | succ k ih =>
    cases es with
    | nil => simp at hl
    | cons e r =>
      have h0 := hk 0 (by omega) e rfl
      have := ih r (fun j hj x hx => hk (j + 1) (by omega) x (by simpa using hx)) (fun x hx => hs x (by simpa using hx)) (by simpa using hl)
      simp only [mine, List.takeWhile_cons, h0, if_true, List.length_cons]
      unfold mine at this
      omega

/-- What a call leaves: the file's edits; in the cell the others. -/
def NextPost (f : Int) (B : Nat) (a : Option Addr) (es : List Ed) (w : World) (e : Ending) (w' : World) : Prop :=
  ∃ a2 c1 c2, e = .returned (.slice a (mine f es).length c1) ∧ w' = w.setCell ⟨B, 0, none⟩ (.slice a2 (others f es).length c2) ∧ Std a2 ∧ (others f es).length ≤ c2 ∧ c2 ≤ maxLen ∧ EAt w a (mine f es) ∧
    (others f es = [] ∨ ∃ b off, a = some ⟨b, off, none⟩ ∧ a2 = some ⟨b, off + (mine f es).length * 4, none⟩)

set_option maxRecDepth 100000 in
set_option maxHeartbeats 1000000 in
theorem byFile_next (f : Int) (B : Nat) (a : Option Addr) (c : Nat) (es : List Ed) (w : World) (hc : w.cell? ⟨B, 0, none⟩ = some (.slice a es.length c)) (hf : w.frozen? ⟨B, 0, none⟩ = false) (hE : EAt w a es) (hS : Std a) (hnc : es.length ≤ c) (hcm : c ≤ maxLen) :
    Calls Tryd.prog 49 #[.int .i64 f, .pointer (some ⟨B, 0, none⟩)] w (NextPost f B a es w) := by
  unfold maxLen at hcm
  go_enter Tryd.func49, Tryd.ntmps49
  go_wp2
  go_loop [4] (fun i => ∃ k : Nat, k ≤ es.length ∧ i = .int .i64 k ∧ Hid (∀ j, j < k → ∀ x, es[j]? = some x → ofFile f x = true)) (fun i => es.length - (intOf i).toNat)
  case atStart => exact ⟨0, Nat.zero_le _, rfl, fun j hj => absurd hj (Nat.not_lt_zero _)⟩
  case round =>
    obtain ⟨k, hk, rfl, HA⟩ := hrel
    by_cases hlt : k < es.length
    · obtain ⟨b, off, rfl, hb, hcs⟩ := hE.cells k hlt
      have hgx : es[k]? = some es[k] := List.getElem?_eq_getElem hlt
      obtain ⟨c0, _⟩ := hcs k es[k] hgx
      have HX := hid hgx
      generalize es[k] = x at c0 HX
      obtain ⟨fx, lo, hi, tx⟩ := x
      simp only [Ed.file] at c0
      cases hb1 : (fx == f) with
      | true =>
        have HN : Hid (∀ j, j < k + 1 → ∀ x, es[j]? = some x → ofFile f x = true) := fun j hj x hx => by
          by_cases e : j = k
          · subst e; rw [HX.out] at hx; cases hx; exact hb1
          · exact HA.out j (by omega) x hx
        clear hcs hgx
        go_wp2
        go_round
        case rel => exact ⟨k + 1, by omega, by go_num, HN⟩
        case measure => simp [intOf]; omega
      | false =>
        have HM : Hid ((mine f es).length = k) := mine_stop f es k HA.out (fun x hx => by rw [HX.out] at hx; cases hx; exact hb1) (by omega)
        have HM2 : Hid ((others f es).length = es.length - k) := by have h1 := mine_length f es; have h2 := HM.out; show _ = _; omega
        clear hcs hgx
        go_wp2
        go_ret
        refine ⟨some ⟨b, off + k * 4, none⟩, c, c - k, by rw [HM.out]; rfl, by rw [HM2.out], .inr ⟨_, _, rfl⟩, by rw [HM2.out]; omega, by unfold maxLen; omega, ?_, ?_⟩
        · rw [(mine_eq f es).1]; exact hE.take _
        · exact .inr ⟨b, off, rfl, by rw [HM.out]⟩
    · have hke : k = es.length := by omega
      have HM : Hid ((mine f es).length = es.length) := mine_stop f es es.length (by rw [← hke]; exact HA.out) (fun x hx => by simp at hx) (Nat.le_refl _)
      have HM2 : Hid ((others f es).length = 0) := by have h1 := mine_length f es; have h2 := HM.out; show _ = _; omega
      subst hke
      have HN0 : Hid (others f es = []) := List.eq_nil_of_length_eq_zero HM2.out
      have HM3 : Hid (EAt w a (mine f es)) := by show EAt _ _ _; rw [(mine_eq f es).1]; exact hE.take _
      rcases hS with rfl | ⟨b, off, rfl⟩
      · go_wp2
        all_goals go_ret
        all_goals exact ⟨_, _, _, by rw [HM.out]; rfl, by rw [HM2.out], .inl rfl, by rw [HM2.out]; omega, by unfold maxLen; omega, HM3.out, .inl HN0.out⟩
      · go_wp2
        all_goals go_ret
        all_goals exact ⟨_, _, _, by rw [HM.out]; rfl, by rw [HM2.out], .inr ⟨_, _, rfl⟩, by rw [HM2.out]; omega, by unfold maxLen; omega, HM3.out, .inl HN0.out⟩

end Go.Proofs.YthklodlhbafehaaDoor
