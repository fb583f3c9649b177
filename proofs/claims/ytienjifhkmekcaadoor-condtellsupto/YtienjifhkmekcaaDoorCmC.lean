/- Some texts in one. -/
import Derived.Test.YtienjifhkmekcaaDoorCmA
import Derived.Deep.LoopGhost
import Derived.Test.YtienjifhkmekcaaDoorLaterTail
namespace Go.Proofs.YtienjifhkmekcaaDoor
open Go.RowKit Go.Shelf

/-- What a call that reads gives: a value, the reader further on; or what is wrong is thrown. -/
def RdOk (R : Nat) (a : Option Addr) (c : Nat) (ts : List Tk) (d : Int) (w : World) (res : Rd) (e : Ending) (w' : World) : Prop := match res with
  | .inl (n, k) => e = .returned (.int .i64 n) ∧ Kept (· = R) w w' ∧ CurAt w' R a c ts k d ∧ k ≤ ts.length
  | .inr (er, i) => e = thrown er (placeOf ts i).1 (placeOf ts i).2 ∧ Kept (· = R) w w'
/-- That the steps were enough. -/
def Enough (res : Rd) : Prop := ∀ i, res ≠ .inr (0, i)
/-- What is handed in: each of the four calls, at f steps. -/
def ChoiceC (num : NumS) (R : Nat) (a : Option Addr) (c : Nat) (ts : List Tk) (f : Nat) : Prop := ∀ (k d : Nat) (asked : Bool) (w : World), CurAt w R a c ts k (d : Int) → k ≤ ts.length → d ≤ 30 → Enough (rdF num ts f 0 0 0 k d asked) →
  Calls Tryd.prog 16 #[.pointer (some ⟨R, 0, none⟩), .bool asked] w (RdOk R a c ts d w (rdF num ts f 0 0 0 k d asked))
def BetweenC (num : NumS) (R : Nat) (a : Option Addr) (c : Nat) (ts : List Tk) (f : Nat) : Prop := ∀ (level : Int) (k d : Nat) (asked : Bool) (w : World), 1 ≤ level → CurAt w R a c ts k (d : Int) → k ≤ ts.length → d ≤ 30 → Enough (rdF num ts f 1 level 0 k d asked) →
  Calls Tryd.prog 29 #[.pointer (some ⟨R, 0, none⟩), .int .i64 level, .bool asked] w (RdOk R a c ts d w (rdF num ts f 1 level 0 k d asked))
def OperandC (num : NumS) (R : Nat) (a : Option Addr) (c : Nat) (ts : List Tk) (f : Nat) : Prop := ∀ (k d : Nat) (asked : Bool) (w : World), CurAt w R a c ts k (d : Int) → k ≤ ts.length → d ≤ 30 → Enough (rdF num ts f 3 0 0 k d asked) →
  Calls Tryd.prog 43 #[.pointer (some ⟨R, 0, none⟩), .bool asked] w (RdOk R a c ts d w (rdF num ts f 3 0 0 k d asked))

theorem CurAt.next {w : World} {R : Nat} {a : Option Addr} {c : Nat} {ts : List Tk} {k j : Nat} {d : Int} (h : CurAt w R a c ts k d) : CurAt (w.setCell ⟨R, 1, none⟩ (.int .i64 ((j : Int) + 1))) R a c ts (j + 1) d := by
  have := h.step (j + 1)
  push_cast at this
  exact this
theorem sign_lt (ts : List Tk) (k : Nat) (x : UInt8) (h : ((signAt ts k).toList == [x]) = true) : k < ts.length := by
  rcases Nat.lt_or_ge k ts.length with h1 | h1
  · exact h1
  · unfold signAt at h
    rw [List.getElem?_eq_none h1] at h
    simp at h
theorem rd_choice (num : NumS) (ts : List Tk) (f k d : Nat) (asked : Bool) : rdF num ts (f + 1) 0 0 0 k d asked =
    (match rdF num ts f 1 1 0 k d asked with
      | .inr e => .inr e
      | .inl (n, k) =>
        if (signAt ts k).toList == [63] then
          match rdF num ts f 0 0 0 (k + 1) d (asked && !(n == 0)) with
          | .inr e => .inr e
          | .inl (yes, k) =>
            if (signAt ts k).toList == [58] then
              match rdF num ts f 0 0 0 (k + 1) d (asked && n == 0) with
              | .inr e => .inr e
              | .inl (no, k) => .inl (if n == 0 then no else yes, k)
            else .inr (2, k)
        else .inl (n, k)) := rfl

set_option maxRecDepth 100000 in
set_option maxHeartbeats 8000000 in
theorem choice_step (num : NumS) (R : Nat) (a : Option Addr) (c : Nat) (ts : List Tk) (f : Nat) (hl : ts.length ≤ 3000) (hB : BetweenC num R a c ts f) (hC : ChoiceC num R a c ts f) : ChoiceC num R a c ts (f + 1) := by
  intro k d asked w hw hk hd hE
  rw [rd_choice] at hE ⊢
  have HB := hid (hB 1 k d asked w (by decide) hw hk hd)
  rcases hb : rdF num ts f 1 1 0 k d asked with ⟨n, k1⟩ | ⟨er, i⟩
  · rw [hb] at hE HB
    dsimp only at hE ⊢
    have HB1 := hid (HB.out (fun i h => by cases h))
    unfold RdOk at HB1
    dsimp only at HB1
    have HSg := hid (fun W (h : CurAt W R a c ts k1 d) (hk : k1 ≤ ts.length) => sign_any R a c ts k1 d W h hk)
    by_cases hq : ((signAt ts k1).toList == [63]) = true
    · rw [if_pos hq] at hE ⊢
      have hlt := sign_lt ts k1 63 hq
      have HX := hid (hC (k1 + 1) d (asked && !(n == 0)))
      generalize signAt ts k1 = X at HSg hq
      rcases h2 : rdF num ts f 0 0 0 (k1 + 1) d (asked && !(n == 0)) with ⟨yes, k2⟩ | ⟨er, i⟩
      · rw [h2] at hE HX
        dsimp only at hE ⊢
        by_cases hq3 : ((signAt ts k2).toList == [58]) = true
        · rw [if_pos hq3] at hE ⊢
          have hlt2 := sign_lt ts k2 58 hq3
          have HY := hid (hC (k2 + 1) d (asked && n == 0))
          have HSk := hid (fun W (h : CurAt W R a c ts k2 d) (hk : k2 ≤ ts.length) => skip_on R a c ts k2 d ⟨#[58]⟩ W h hl hk (by rw [toList_data ⟨#[58]⟩]; exact hq3))
          rcases h3 : rdF num ts f 0 0 0 (k2 + 1) d (asked && n == 0) with ⟨no, k3⟩ | ⟨er, i⟩
          · rw [h3] at hE HY
            dsimp only at hE ⊢
            have HX1 := hid (fun W h => HX.out W h (by omega) hd (fun i h => by cases h))
            have HY1 := hid (fun W h => HY.out W h (by omega) hd (fun i h => by cases h))
            unfold RdOk at HX1 HY1 ⊢
            dsimp only at HX1 HY1 ⊢
            clear hE h2 h3 HX HY hb HB hq3
            cases asked <;> cases hn : (n == 0)
            all_goals rw [hn] at HX1 HY1
            all_goals (have hn2 : (n != 0) = !(n == 0) := rfl; rw [hn] at hn2)
            all_goals simp only [Bool.true_and, Bool.false_and, Bool.not_true, Bool.not_false] at HX1 HY1
            all_goals go_enter Tryd.func16, Tryd.ntmps16
            all_goals go_wp2_with fail
            all_goals refine HB1.out.mono ?_
            all_goals rintro e w1 ⟨rfl, hk1, hc1, hle⟩
            all_goals have HK1 := hid hk1
            all_goals have HC1 := hid hc1
            all_goals clear hk1 hc1 HB1
            all_goals go_wp2_with fail
            all_goals refine (HSg.out _ HC1.out hle).mono ?_
            all_goals rintro e w2 ⟨rfl, hb2⟩
            all_goals have HK2 := hid (HK1.out.trans (kept_of_below hb2))
            all_goals have HC2 := hid (HC1.out.below hb2)
            all_goals have b1 := block_facts HC2.out.box 1
            all_goals simp at b1
            all_goals obtain ⟨b11, b12⟩ := b1
            all_goals clear HSg hb2 HK1 HC1
            all_goals go_wp2_with fail
            all_goals have HC3 := hid (HC2.out.next (j := k1))
            all_goals refine (HX1.out _ HC3.out).mono ?_
            all_goals rintro e w3 ⟨rfl, hk3, hc3, hle3⟩
            all_goals have HK3 := hid ((HK2.out.setCell rfl _).trans hk3)
            all_goals have HC4 := hid hc3
            all_goals clear hk3 hc3 HC3 HC2 HK2 HX1 b11 b12
            all_goals go_wp2_with fail
            all_goals refine (HSk.out _ HC4.out hle3).mono ?_
            all_goals rintro e w4 ⟨rfl, hk4, hc4⟩
            all_goals have HK4 := hid (HK3.out.trans hk4)
            all_goals have HC5 := hid hc4
            all_goals clear hk4 hc4 HC4 HK3 HSk
            all_goals go_wp2_with fail
            all_goals refine (HY1.out _ HC5.out).mono ?_
            all_goals rintro e w5 ⟨rfl, hk5, hc5, hle5⟩
            all_goals have HK5 := hid (HK4.out.trans hk5)
            all_goals have HC6 := hid hc5
            all_goals clear hk5 hc5 HC5 HK4 HY1
            all_goals go_wp2_with fail
            all_goals go_ret
            all_goals (refine ⟨by first | rfl | simp [hn], HK5.out, ?_⟩; first | exact HC6.out | exact ⟨HC6.out, hle5⟩)
          · rw [h3] at hE HY
            dsimp only at hE ⊢
            have HX1 := hid (fun W h => HX.out W h (by omega) hd (fun i h => by cases h))
            have HY1 := hid (fun W h => HY.out W h (by omega) hd hE)
            unfold RdOk thrown at HX1 HY1 ⊢
            dsimp only at HX1 HY1 ⊢
            clear hE h2 h3 HX HY hb HB hq3
            cases asked <;> cases hn : (n == 0)
            all_goals rw [hn] at HX1 HY1
            all_goals (have hn2 : (n != 0) = !(n == 0) := rfl; rw [hn] at hn2)
            all_goals simp only [Bool.true_and, Bool.false_and, Bool.not_true, Bool.not_false] at HX1 HY1
            all_goals go_enter Tryd.func16, Tryd.ntmps16
            all_goals go_wp2_with fail
            all_goals refine HB1.out.mono ?_
            all_goals rintro e w1 ⟨rfl, hk1, hc1, hle⟩
            all_goals have HK1 := hid hk1
            all_goals have HC1 := hid hc1
            all_goals clear hk1 hc1 HB1
            all_goals go_wp2_with fail
            all_goals refine (HSg.out _ HC1.out hle).mono ?_
            all_goals rintro e w2 ⟨rfl, hb2⟩
            all_goals have HK2 := hid (HK1.out.trans (kept_of_below hb2))
            all_goals have HC2 := hid (HC1.out.below hb2)
            all_goals have b1 := block_facts HC2.out.box 1
            all_goals simp at b1
            all_goals obtain ⟨b11, b12⟩ := b1
            all_goals clear HSg hb2 HK1 HC1
            all_goals go_wp2_with fail
            all_goals have HC3 := hid (HC2.out.next (j := k1))
            all_goals refine (HX1.out _ HC3.out).mono ?_
            all_goals rintro e w3 ⟨rfl, hk3, hc3, hle3⟩
            all_goals have HK3 := hid ((HK2.out.setCell rfl _).trans hk3)
            all_goals have HC4 := hid hc3
            all_goals clear hk3 hc3 HC3 HC2 HK2 HX1 b11 b12
            all_goals go_wp2_with fail
            all_goals refine (HSk.out _ HC4.out hle3).mono ?_
            all_goals rintro e w4 ⟨rfl, hk4, hc4⟩
            all_goals have HK4 := hid (HK3.out.trans hk4)
            all_goals have HC5 := hid hc4
            all_goals clear hk4 hc4 HC4 HK3 HSk
            all_goals go_wp2_with fail
            all_goals refine (HY1.out _ HC5.out).mono ?_
            all_goals rintro e w5 ⟨rfl, hk5⟩
            all_goals have HK5 := hid (HK4.out.trans hk5)
            all_goals first | exact ⟨rfl, rfl, HK5.out⟩ | (go_wp2_with fail; exact ⟨rfl, rfl, HK5.out⟩)
        · have hq4 : ((signAt ts k2).toList == [58]) = false := by simpa using hq3
          rw [if_neg hq3]
          have HX1 := hid (fun W h => HX.out W h (by omega) hd (fun i h => by cases h))
          have HSk := hid (fun W (h : CurAt W R a c ts k2 d) (hk : k2 ≤ ts.length) => skip_off R a c ts k2 d ⟨#[58]⟩ W h hl hk (by rw [toList_data ⟨#[58]⟩]; exact hq4))
          unfold RdOk at HX1 ⊢
          unfold thrown at HSk ⊢
          dsimp only at HX1 ⊢
          clear hE h2 HX hb HB hq3 hq4
          cases asked <;> cases hn : (n == 0)
          all_goals rw [hn] at HX1
          all_goals (have hn2 : (n != 0) = !(n == 0) := rfl; rw [hn] at hn2)
          all_goals simp only [Bool.true_and, Bool.false_and, Bool.not_true, Bool.not_false] at HX1
          all_goals go_enter Tryd.func16, Tryd.ntmps16
          all_goals go_wp2_with fail
          all_goals refine HB1.out.mono ?_
          all_goals rintro e w1 ⟨rfl, hk1, hc1, hle⟩
          all_goals have HK1 := hid hk1
          all_goals have HC1 := hid hc1
          all_goals clear hk1 hc1 HB1
          all_goals go_wp2_with fail
          all_goals refine (HSg.out _ HC1.out hle).mono ?_
          all_goals rintro e w2 ⟨rfl, hb2⟩
          all_goals have HK2 := hid (HK1.out.trans (kept_of_below hb2))
          all_goals have HC2 := hid (HC1.out.below hb2)
          all_goals have b1 := block_facts HC2.out.box 1
          all_goals simp at b1
          all_goals obtain ⟨b11, b12⟩ := b1
          all_goals clear HSg hb2 HK1 HC1
          all_goals go_wp2_with fail
          all_goals have HC3 := hid (HC2.out.next (j := k1))
          all_goals refine (HX1.out _ HC3.out).mono ?_
          all_goals rintro e w3 ⟨rfl, hk3, hc3, hle3⟩
          all_goals have HK3 := hid ((HK2.out.setCell rfl _).trans hk3)
          all_goals have HC4 := hid hc3
          all_goals clear hk3 hc3 HC3 HC2 HK2 HX1 b11 b12
          all_goals go_wp2_with fail
          all_goals refine (HSk.out _ HC4.out hle3).mono ?_
          all_goals rintro e w4 ⟨rfl, hk4⟩
          all_goals have HK4 := hid (HK3.out.trans hk4)
          all_goals first | exact ⟨rfl, rfl, HK4.out⟩ | (go_wp2_with fail; exact ⟨rfl, rfl, HK4.out⟩)
      · rw [h2] at hE HX
        dsimp only at hE ⊢
        have HX1 := hid (fun W h => HX.out W h (by omega) hd hE)
        unfold RdOk thrown at HX1 ⊢
        dsimp only at HX1 ⊢
        clear hE h2 HX hb HB
        cases asked <;> cases hn : (n == 0)
        all_goals rw [hn] at HX1
        all_goals (have hn2 : (n != 0) = !(n == 0) := rfl; rw [hn] at hn2)
        all_goals simp only [Bool.true_and, Bool.false_and, Bool.not_true, Bool.not_false] at HX1
        all_goals go_enter Tryd.func16, Tryd.ntmps16
        all_goals go_wp2_with fail
        all_goals refine HB1.out.mono ?_
        all_goals rintro e w1 ⟨rfl, hk1, hc1, hle⟩
        all_goals have HK1 := hid hk1
        all_goals have HC1 := hid hc1
        all_goals clear hk1 hc1 HB1
        all_goals go_wp2_with fail
        all_goals refine (HSg.out _ HC1.out hle).mono ?_
        all_goals rintro e w2 ⟨rfl, hb2⟩
        all_goals have HK2 := hid (HK1.out.trans (kept_of_below hb2))
        all_goals have HC2 := hid (HC1.out.below hb2)
        all_goals have b1 := block_facts HC2.out.box 1
        all_goals simp at b1
        all_goals obtain ⟨b11, b12⟩ := b1
        all_goals clear HSg hb2 HK1 HC1
        all_goals go_wp2_with fail
        all_goals have HC3 := hid (HC2.out.next (j := k1))
        all_goals refine (HX1.out _ HC3.out).mono ?_
        all_goals rintro e w3 ⟨rfl, hk3⟩
        all_goals have HK3 := hid ((HK2.out.setCell rfl _).trans hk3)
        all_goals first | exact ⟨rfl, rfl, HK3.out⟩ | (go_wp2_with fail; exact ⟨rfl, rfl, HK3.out⟩)
    · have hq2 : ((signAt ts k1).toList == [63]) = false := by simpa using hq
      rw [if_neg hq]
      unfold RdOk
      dsimp only
      generalize signAt ts k1 = X at HSg hq2
      clear hE hq hb HB
      go_enter Tryd.func16, Tryd.ntmps16
      go_wp2_with fail
      refine HB1.out.mono ?_
      rintro e w1 ⟨rfl, hk1, hc1, hle⟩
      have HK1 := hid hk1
      have HC1 := hid hc1
      clear hk1 hc1 HB1
      go_wp2_with fail
      refine (HSg.out _ HC1.out hle).mono ?_
      rintro e w2 ⟨rfl, hb2⟩
      have HK2 := hid (HK1.out.trans (kept_of_below hb2))
      have HC2 := hid (HC1.out.below hb2)
      clear HSg hb2 HK1 HC1
      go_wp2_with fail
      go_ret
      exact ⟨rfl, HK2.out, HC2.out, hle⟩
  · rw [hb] at hE HB
    dsimp only at hE ⊢
    have HB1 := hid (HB.out hE)
    unfold RdOk thrown at HB1 ⊢
    dsimp only at HB1 ⊢
    clear hE hb HB
    go_enter Tryd.func16, Tryd.ntmps16
    go_wp2_with fail
    refine HB1.out.mono ?_
    rintro e w1 ⟨rfl, hk1⟩
    first | exact ⟨rfl, rfl, hk1⟩ | (go_wp2_with fail; exact ⟨rfl, rfl, hk1⟩)
end Go.Proofs.YtienjifhkmekcaaDoor
namespace Go.Proofs.YtienjifhkmekcaaDoor
open Go.RowKit Go.Shelf

/-- A token as a value. -/
def aggC (t : Tk) : Value := .agg #[.int .i64 t.kind, .string t.text, .bool t.space, .bool t.first, .int .i64 t.file, .int .i64 t.lo, .int .i64 t.hi, .int .i64 t.line, .slice none 0 0, .slice none 0 0, .int .i64 0]
/-- What stands between signs, at token t, which is token k. -/
def innerF (num : NumS) (ts : List Tk) (f k d : Nat) (asked : Bool) (t : Tk) : Rd :=
  if t.kind = 1 then .inl (0, k + 1)
  else if t.kind = 2 then (match num t.text.data.toList with | some v => .inl (v, k + 1) | none => .inr (3, k))
  else if t.kind = 3 then (match charL t.text.data.toList with | some v => .inl (v, k + 1) | none => .inr (3, k))
  else if (signAt ts k).toList == [40] then
    match rdF num ts f 0 0 0 (k + 1) (d + 1) asked with
    | .inr e => .inr e
    | .inl (v, k) => if (signAt ts k).toList == [41] then .inl (v, k + 1) else .inr (2, k)
  else if (signAt ts k).toList == [45] || (signAt ts k).toList == [43] || (signAt ts k).toList == [126] || (signAt ts k).toList == [33] then
    match rdF num ts f 3 0 0 (k + 1) (d + 1) asked with
    | .inr e => .inr e
    | .inl (v, j) => .inl (aheadL (signAt ts k).toList v, j)
  else .inr (2, k)
theorem rd_operand (num : NumS) (ts : List Tk) (f k d : Nat) (asked : Bool) : rdF num ts (f + 1) 3 0 0 k d asked = if d = 30 then .inr (10, k) else match ts[k]? with | none => .inr (9, k) | some t => innerF num ts f k d asked t := rfl
def InnerC (num : NumS) (R : Nat) (a : Option Addr) (c : Nat) (ts : List Tk) (f : Nat) : Prop := ∀ (k d : Nat) (asked : Bool) (t : Tk) (w : World), CurAt w R a c ts k ((d : Int) + 1) → ts[k]? = some t → d + 1 ≤ 30 → Enough (innerF num ts f k d asked t) →
  Calls Tryd.prog 61 #[.pointer (some ⟨R, 0, none⟩), aggC t, .bool asked] w (RdOk R a c ts ((d : Int) + 1) w (innerF num ts f k d asked t))

/-- Steps that are enough for r tokens that are left. -/
def needs (what r : Nat) : Nat := if what = 0 then 3 * r + 4 else if what = 1 then 3 * r + 3 else if what = 2 then 3 * r + 2 else 3 * r + 2

/-- It reads on, within the tokens, and its steps are enough. -/
def Fine (ts : List Tk) (what k : Nat) (res : Rd) : Prop := match res with
  | .inl (_, k') => (what = 2 ∨ k < k') ∧ k ≤ k' ∧ k' ≤ ts.length
  | .inr (e, i) => e ≠ 0 ∧ i ≤ ts.length

theorem level_lt (ts : List Tk) (k : Nat) (l : Int) (hl : 1 ≤ l) (h : ¬ levelL (signAt ts k).toList < l) : k < ts.length := by
  rcases Nat.lt_or_ge k ts.length with h1 | h1
  · exact h1
  · exfalso
    apply h
    unfold signAt
    rw [List.getElem?_eq_none h1]
    have : levelL (ByteArray.mk #[]).toList = 0 := by rw [toList_data]; rfl
    rw [this]; omega

theorem fuel_ok (num : NumS) (ts : List Tk) : ∀ (f what : Nat) (level n : Int) (k d : Nat) (asked : Bool), k ≤ ts.length → 1 ≤ level ∨ what = 0 ∨ what = 3 → what ≤ 3 → needs what (ts.length - k) ≤ f → Fine ts what k (rdF num ts f what level n k d asked)
  | 0, what, _, _, _, _, _, _, _, _, h => by
    unfold needs at h
    split at h
    · omega
    · split at h
      · omega
      · split at h <;> omega
  | f + 1, what, level, n, k, d, asked, hk, hlv, hw, h => by
    have IH := fuel_ok num ts f
    by_cases h0 : what = 0
    · subst h0
      have h' : 3 * (ts.length - k) + 4 ≤ f + 1 := by simpa [needs] using h
      have b := IH 1 1 0 k d asked hk (.inl (by omega)) (by omega) (by simp [needs]; omega)
      unfold rdF
      simp only [if_true]
      rcases hb : rdF num ts f 1 1 0 k d asked with ⟨n1, k1⟩ | ⟨e, i⟩
      · rw [hb] at b
        obtain ⟨b1, b2, b3⟩ := b
        have b4 : k < k1 := by rcases b1 with h | h; · omega
                               · exact h
        dsimp only
        split
        · rename_i hq
          have hq' := sign_lt ts k1 63 hq
          have c := IH 0 0 0 (k1 + 1) d (asked && !(n1 == 0)) (by omega) (.inr (.inl rfl)) (by omega) (by simp [needs]; omega)
          rcases hc : rdF num ts f 0 0 0 (k1 + 1) d (asked && !(n1 == 0)) with ⟨n2, k2⟩ | ⟨e, i⟩
          · rw [hc] at c
            obtain ⟨_, c2, c3⟩ := c
            dsimp only
            split
            · rename_i hq2
              have hq2' := sign_lt ts k2 58 hq2
              have g := IH 0 0 0 (k2 + 1) d (asked && n1 == 0) (by omega) (.inr (.inl rfl)) (by omega) (by simp [needs]; omega)
              rcases hg : rdF num ts f 0 0 0 (k2 + 1) d (asked && n1 == 0) with ⟨n3, k3⟩ | ⟨e, i⟩
              · rw [hg] at g
                obtain ⟨_, g2, g3⟩ := g
                exact ⟨.inr (by omega), by omega, g3⟩
              · rw [hg] at g; exact g
            · exact ⟨by decide, by omega⟩
          · rw [hc] at c; exact c
        · exact ⟨.inr b4, by omega, b3⟩
      · rw [hb] at b; exact b
    · by_cases h1 : what = 1
      · subst h1
        have h' : 3 * (ts.length - k) + 3 ≤ f + 1 := by simpa [needs] using h
        have b := IH 3 0 0 k d asked hk (.inr (.inr rfl)) (by omega) (by simp [needs]; omega)
        unfold rdF
        simp only [if_true, show ¬ ((1 : Nat) = 0) by omega, if_false]
        rcases hb : rdF num ts f 3 0 0 k d asked with ⟨n1, k1⟩ | ⟨e, i⟩
        · rw [hb] at b
          obtain ⟨b1, b2, b3⟩ := b
          have b4 : k < k1 := by rcases b1 with h | h; · omega
                                 · exact h
          dsimp only
          have c := IH 2 level n1 k1 d asked b3 (by rcases hlv with h | h | h; · exact .inl h
                                                    · omega
                                                    · omega) (by omega) (by simp [needs]; omega)
          rcases hc : rdF num ts f 2 level n1 k1 d asked with ⟨n2, k2⟩ | ⟨e, i⟩
          · rw [hc] at c
            obtain ⟨_, c2, c3⟩ := c
            exact ⟨.inr (by omega), by omega, c3⟩
          · rw [hc] at c; exact c
        · rw [hb] at b; exact b
      · by_cases h2 : what = 2
        · subst h2
          have h' : 3 * (ts.length - k) + 2 ≤ f + 1 := by simpa [needs] using h
          have hlv' : 1 ≤ level := by rcases hlv with h | h | h; · exact h
                                      · omega
                                      · omega
          unfold rdF
          simp only [if_true, show ¬ ((2 : Nat) = 0) by omega, show ¬ ((2 : Nat) = 1) by omega, if_false]
          split
          · exact ⟨.inl rfl, Nat.le_refl _, hk⟩
          · rename_i hq
            have hq' := level_lt ts k level hlv' hq
            have b := IH 1 (levelL (signAt ts k).toList + 1) 0 (k + 1) d (asked && asksL (signAt ts k).toList n) (by omega) (.inl (by omega)) (by omega) (by simp [needs]; omega)
            rcases hb : rdF num ts f 1 (levelL (signAt ts k).toList + 1) 0 (k + 1) d (asked && asksL (signAt ts k).toList n) with ⟨n1, k1⟩ | ⟨e, i⟩
            · rw [hb] at b
              obtain ⟨b1, b2, b3⟩ := b
              dsimp only
              have c : ∀ x : Int, Fine ts 2 k (rdF num ts f 2 level x k1 d asked) := fun x => by
                have c := IH 2 level x k1 d asked b3 (.inl hlv') (by omega) (by simp [needs]; omega)
                rcases hc : rdF num ts f 2 level x k1 d asked with ⟨n2, k2⟩ | ⟨e, i⟩
                · rw [hc] at c
                  obtain ⟨_, c2, c3⟩ := c
                  exact ⟨.inl rfl, by omega, c3⟩
                · rw [hc] at c; exact c
              split
              · split
                · exact c _
                · rename_i hwr
                  exact ⟨hwr, by omega⟩
              · exact c _
            · rw [hb] at b; exact b
        · have h3 : what = 3 := by omega
          subst h3
          have h' : 3 * (ts.length - k) + 2 ≤ f + 1 := by simpa [needs] using h
          rw [show rdF num ts (f + 1) 3 level n k d asked = if d = 30 then .inr (10, k) else match ts[k]? with | none => .inr (9, k) | some t => innerF num ts f k d asked t from rfl]
          split
          · exact ⟨by decide, hk⟩
          · rcases ht : ts[k]? with _ | t
            · exact ⟨by decide, hk⟩
            · have hlt := (List.getElem?_eq_some_iff.1 ht).1
              dsimp only
              unfold innerF
              have one : ∀ v : Int, Fine ts 3 k (.inl (v, k + 1)) := fun v => ⟨.inr (by omega), by omega, by omega⟩
              have bad : ∀ e : Int, e ≠ 0 → Fine ts 3 k (.inr (e, k)) := fun e he => ⟨he, hk⟩
              split
              · exact one 0
              · split
                · split
                  · exact one _
                  · exact bad 3 (by decide)
                · split
                  · split
                    · exact one _
                    · exact bad 3 (by decide)
                  · split
                    · have c := IH 0 0 0 (k + 1) (d + 1) asked (by omega) (.inr (.inl rfl)) (by omega) (by simp [needs]; omega)
                      rcases hc : rdF num ts f 0 0 0 (k + 1) (d + 1) asked with ⟨n2, k2⟩ | ⟨e, i⟩
                      · rw [hc] at c
                        obtain ⟨_, c2, c3⟩ := c
                        dsimp only
                        split
                        · rename_i hq2
                          have := sign_lt ts k2 41 hq2
                          exact ⟨.inr (by omega), by omega, by omega⟩
                        · exact ⟨by decide, c3⟩
                      · rw [hc] at c; exact c
                    · split
                      · have c := IH 3 0 0 (k + 1) (d + 1) asked (by omega) (.inr (.inr rfl)) (by omega) (by simp [needs]; omega)
                        rcases hc : rdF num ts f 3 0 0 (k + 1) (d + 1) asked with ⟨n2, k2⟩ | ⟨e, i⟩
                        · rw [hc] at c
                          obtain ⟨_, c2, c3⟩ := c
                          exact ⟨.inr (by omega), by omega, c3⟩
                        · rw [hc] at c; exact c
                      · exact bad 2 (by decide)

/-- The whole's steps are enough. -/
theorem eval_enough (num : NumS) (ts : List Tk) : Fine ts 0 0 (rdF num ts (12 * ts.length + 40) 0 0 0 0 0 true) :=
  fuel_ok num ts _ 0 0 0 0 0 true (Nat.zero_le _) (.inr (.inl rfl)) (by omega) (by simp [needs]; omega)
end Go.Proofs.YtienjifhkmekcaaDoor
namespace Go.Proofs.YtienjifhkmekcaaDoor
open Go.RowKit Go.Shelf

theorem rd_between (num : NumS) (ts : List Tk) (f k d : Nat) (level n : Int) (asked : Bool) : rdF num ts (f + 1) 1 level n k d asked = (match rdF num ts f 3 0 0 k d asked with
    | .inr e => .inr e
    | .inl (n, k) => rdF num ts f 2 level n k d asked) := rfl
theorem rd_signs (num : NumS) (ts : List Tk) (f k d : Nat) (level n : Int) (asked : Bool) : rdF num ts (f + 1) 2 level n k d asked = (if levelL (signAt ts k).toList < level then .inl (n, k)
    else match rdF num ts f 1 (levelL (signAt ts k).toList + 1) 0 (k + 1) d (asked && asksL (signAt ts k).toList n) with
      | .inr e => .inr e
      | .inl (m, j) =>
        if asked then
          if wrongL (signAt ts k).toList m = 0 then rdF num ts f 2 level (reckonL (signAt ts k).toList n m) j d asked
          else .inr (wrongL (signAt ts k).toList m, k)
        else rdF num ts f 2 level n j d asked) := rfl

/-- What holds at a round's head. -/
structure BtAt (num : NumS) (R : Nat) (a : Option Addr) (c : Nat) (ts : List Tk) (f g : Nat) (level n : Int) (k d : Nat) (asked : Bool) (w wr : World) (res : Rd) : Prop where
  le : g ≤ f
  rd : rdF num ts g 2 level n k d asked = res
  kept : Kept (· = R) w wr
  cur : CurAt wr R a c ts k d
  few : k ≤ ts.length

theorem level_sign (l : List UInt8) (h : levelL l ≠ 0) : l ∈ allSigns := by
  apply Classical.byContradiction
  intro hn
  apply h
  simp only [allSigns, bitSigns, List.mem_append, List.mem_cons, List.not_mem_nil, or_false, not_or] at hn
  obtain ⟨⟨h1, h2, h3, h4, h5, h6, h7, h8⟩, g1, g2, g3, g4, g5, g6, g7, g8, g9, g10⟩ := hn
  have e : ∀ x : List UInt8, l ≠ x → (l == x) = false := fun x hx => by simpa using hx
  simp [levelL, e _ h1, e _ h2, e _ h3, e _ h4, e _ h5, e _ h6, e _ h7, e _ h8, e _ g1, e _ g2, e _ g3, e _ g4, e _ g5, e _ g6, e _ g7, e _ g8, e _ g9, e _ g10]
theorem level_le (l : List UInt8) : levelL l ≤ 10 := by
  unfold levelL
  repeat' split
  all_goals decide

set_option maxRecDepth 100000 in
set_option maxHeartbeats 8000000 in
theorem between_step (num : NumS) (R : Nat) (a : Option Addr) (c : Nat) (ts : List Tk) (f : Nat) (hl : ts.length ≤ 3000) (hO : OperandC num R a c ts f) (hB : ∀ g, g < f → BetweenC num R a c ts g) : BetweenC num R a c ts (f + 1) := by
  intro level k d asked w hlv hw hk hd hE
  rw [rd_between] at hE ⊢
  have HO := hid (hO k d asked w hw hk hd)
  rcases hb : rdF num ts f 3 0 0 k d asked with ⟨n, k1⟩ | ⟨er, i⟩
  · rw [hb] at hE HO
    dsimp only at hE ⊢
    have HO1 := hid (HO.out (fun i h => by cases h))
    unfold RdOk at HO1
    dsimp only at HO1
    generalize hres : rdF num ts f 2 level n k1 d asked = res at hE ⊢
    have HE := hid hE
    have Hres := hid hres
    clear hres hE hb HO hw hk
    go_enter Tryd.func29, Tryd.ntmps29
    go_wp2_with fail
    refine HO1.out.mono ?_
    rintro e w1 ⟨rfl, hk1, hc1, hle⟩
    have HS0 : Hid (BtAt num R a c ts f f level n k1 d asked w w1 res) := ⟨Nat.le_refl _, Hres.out, hk1, hc1, hle⟩
    clear hk1 hc1 hle HO1 Hres
    go_wp2_with fail
    go_loopg [7] f (fun g x wr => ∃ (n : Int) (k : Nat), x = .int .i64 n ∧ Hid (BtAt num R a c ts f g level n k d asked w wr res))
    case atStart => exact ⟨n, k1, rfl, HS0.out⟩
    case round =>
      clear HS0
      obtain ⟨n, k, rfl, H⟩ := hrel
      obtain ⟨hle, hrd, hkp, hcu, hfw⟩ := H.out
      have HKp := hid hkp
      have HCu := hid hcu
      clear H hkp
      cases gk with
      | zero => exact absurd hrd.symm (HE.out k)
      | succ g =>
        rw [rd_signs] at hrd
        have hXl := level_le (signAt ts k).toList
        have hXs := level_sign (signAt ts k).toList
        have HSg := hid (fun p : Later wr => sign_any R a c ts k d p.W (hcu.below p.hb) hfw)
        have HLe := hid (fun W => levelOf_any (signAt ts k) W)
        have HAk := hid (fun n W => asks_any (signAt ts k) n W)
        have HWr := hid (fun m W => wrong_any (signAt ts k) m W)
        have HRk := hid (fun n m W => reckon_any (signAt ts k) n m W)
        have hkl := level_lt ts k level hlv
        have b1 := block_facts hcu.box 1
        simp at b1
        obtain ⟨b11, b12⟩ := b1
        generalize signAt ts k = X at hrd hXl hXs HSg HLe HAk HWr HRk hkl
        generalize levelL X.toList = lv at hrd hXl hXs HLe hkl
        have z1 := Later.cell b11
        have hnn : Nonempty (Later wr) := ⟨⟨_, Below.refl _ _⟩⟩
        clear b11 b12 hcu
        go_wp2_with fail
        refine region_later (by kernel_rfl) (by kernel_rfl) ?_
        repeat (quiet_step ((go_at_call 30; exact Calls.later (HSg.out _))))
        refine wpQuiet_nil ?_
        rintro _ ⟨p, rfl⟩
        have HCp := hid (HCu.out.below p.hb)
        have HKq := hid (HKp.out.trans (kept_of_below p.hb))
        generalize p.W = wp at HCp HKq ⊢
        clear z1 hnn HSg HCu HKp
        go_wp2_with fail
        refine (HLe.out wp).mono ?_
        rintro e w' ⟨rfl, rfl⟩
        by_cases hlo : lv < level
        · have hlod : decide (lv < level) = true := decide_eq_true hlo
          rw [if_pos hlo] at hrd
          have HRs := hid hrd
          clear hrd HLe
          go_wp2_with fail
          go_ret
          rw [← HRs.out]
          exact ⟨rfl, HKq.out, HCp.out, hfw⟩
        · have hlod : decide (lv < level) = false := decide_eq_false hlo
          rw [if_neg hlo] at hrd
          have hlt := hkl (by omega)
          have hXs' := hXs (by omega)
          have b1 := block_facts HCp.out.box 1
          simp at b1
          obtain ⟨b11, b12⟩ := b1
          have HC3 := hid (HCp.out.next (j := k))
          have HK3 := hid (HKq.out.setCell (a := ⟨R, 1, none⟩) rfl (.int .i64 ((k : Int) + 1)))
          have HBt := hid (fun aq => hB g (by omega) (lv + 1) (k + 1) d aq _ (by omega) HC3.out (by omega) hd)
          clear HCp HKq HLe hkl hXs
          cases asked with
          | false =>
            simp only [Bool.false_and] at hrd
            rcases hb2 : rdF num ts g 1 (lv + 1) 0 (k + 1) d false with ⟨m, j⟩ | ⟨er, i⟩
            · rw [hb2] at hrd
              have HB1 := hid (HBt.out false (by rw [hb2]; intro i h; cases h))
              rw [hb2] at HB1
              unfold RdOk at HB1
              dsimp only at HB1 hrd
              simp only [Bool.false_eq_true, if_false] at hrd
              have HRd := hid hrd
              clear HBt hrd hb2 HAk HWr HRk
              go_wp2_with fail
              refine HB1.out.mono ?_
              rintro e w4 ⟨rfl, hk4, hc4, hle4⟩
              have HK4 := hid (HK3.out.trans hk4)
              have HC4 := hid hc4
              clear hk4 hc4 HB1 HK3 HC3 b11 b12
              go_wp2_with fail
              go_roundg g
              case rel => exact ⟨n, j, rfl, ⟨by omega, HRd.out, HK4.out, HC4.out, hle4⟩⟩
              all_goals omega
            · rw [hb2] at hrd
              dsimp only at hrd
              have hEn : Enough (rdF num ts g 1 (lv + 1) 0 (k + 1) d false) := by rw [hb2]; intro i' h; exact HE.out i' (hrd.symm.trans h)
              have HB1 := hid (HBt.out false hEn)
              rw [hb2] at HB1
              unfold RdOk thrown at HB1
              dsimp only at HB1
              have HRs := hid hrd
              clear HBt hrd hb2 HAk HWr HRk hEn HE
              go_wp2_with fail
              refine HB1.out.mono ?_
              rintro e w4 ⟨rfl, hk4⟩
              have HK4 := hid (HK3.out.trans hk4)
              go_wp2_with fail
              rw [← HRs.out]
              exact ⟨rfl, rfl, HK4.out⟩
          | true =>
            simp only [Bool.true_and] at hrd
            have HA1 := hid (HAk.out n)
            generalize asksL X.toList n = aq at hrd HA1
            rcases hb2 : rdF num ts g 1 (lv + 1) 0 (k + 1) d aq with ⟨m, j⟩ | ⟨er, i⟩
            · rw [hb2] at hrd
              have HB1 := hid (HBt.out aq (by rw [hb2]; intro i h; cases h))
              rw [hb2] at HB1
              unfold RdOk at HB1
              dsimp only at HB1 hrd
              simp only [if_true] at hrd
              have HRd := hid hrd
              have HW1 := hid (HWr.out m)
              have HR1 := hid (fun h W => HRk.out n m W hXs' h)
              have HF1 := hid (fun W er (h : CurAt W R a c ts j d) => fail_any R a c ts j d er k W h hl hfw)
              unfold thrown at HF1
              clear HBt hrd hb2 HAk HWr HRk
              go_wp2_with fail
              refine (HA1.out _).mono ?_
              rintro e w5 ⟨rfl, rfl⟩
              go_wp2_with fail
              refine HB1.out.mono ?_
              rintro e w4 ⟨rfl, hk4, hc4, hle4⟩
              have HK4 := hid (HK3.out.trans hk4)
              have HC4 := hid hc4
              clear hk4 hc4 HB1 HK3 HC3 b11 b12 HA1
              go_wp2_with fail
              refine (HW1.out _).mono ?_
              rintro e w6 ⟨rfl, rfl⟩
              by_cases hwz : wrongL X.toList m = 0
              · have HR2 := hid (HR1.out hwz)
                have HRd2 := hid HRd.out
                rw [if_pos hwz] at HRd2
                rw [hwz]
                clear HRd HR1 HW1 HF1
                go_wp2_with fail
                refine (HR2.out _).mono ?_
                rintro e w7 ⟨rfl, rfl⟩
                go_wp2_with fail
                go_roundg g
                case rel => exact ⟨_, j, rfl, ⟨by omega, HRd2.out, HK4.out, HC4.out, hle4⟩⟩
                all_goals omega
              · have hwd : (wrongL X.toList m != 0) = true := by simpa using hwz
                have HRd2 := hid HRd.out
                rw [if_neg hwz] at HRd2
                have HF2 := hid (HF1.out _ (wrongL X.toList m) HC4.out)
                generalize wrongL X.toList m = ew at hwd HF2 HRd2 ⊢
                clear HRd HR1 HW1 HF1 hwz
                go_wp2_with fail
                refine HF2.out.mono ?_
                rintro e w7 ⟨rfl, hb7⟩
                have HK5 := hid (HK4.out.trans (kept_of_below hb7))
                go_wp2_with fail
                rw [← HRd2.out]
                exact ⟨rfl, rfl, HK5.out⟩
            · rw [hb2] at hrd
              dsimp only at hrd
              have hEn : Enough (rdF num ts g 1 (lv + 1) 0 (k + 1) d aq) := by rw [hb2]; intro i' h; exact HE.out i' (hrd.symm.trans h)
              have HB1 := hid (HBt.out aq hEn)
              rw [hb2] at HB1
              unfold RdOk thrown at HB1
              dsimp only at HB1
              have HRs := hid hrd
              clear HBt hrd hb2 HAk HWr HRk hEn HE
              go_wp2_with fail
              refine (HA1.out _).mono ?_
              rintro e w5 ⟨rfl, rfl⟩
              go_wp2_with fail
              refine HB1.out.mono ?_
              rintro e w4 ⟨rfl, hk4⟩
              have HK4 := hid (HK3.out.trans hk4)
              go_wp2_with fail
              rw [← HRs.out]
              exact ⟨rfl, rfl, HK4.out⟩
  · rw [hb] at hE HO
    dsimp only at hE ⊢
    have HO1 := hid (HO.out hE)
    unfold RdOk thrown at HO1 ⊢
    dsimp only at HO1 ⊢
    clear hE hb HO
    go_enter Tryd.func29, Tryd.ntmps29
    go_wp2_with fail
    refine HO1.out.mono ?_
    rintro e w1 ⟨rfl, hk1⟩
    first | exact ⟨rfl, rfl, hk1⟩ | (go_wp2_with fail; exact ⟨rfl, rfl, hk1⟩)
end Go.Proofs.YtienjifhkmekcaaDoor
namespace Go.Proofs.YtienjifhkmekcaaDoor
open Go.RowKit Go.Shelf

set_option maxRecDepth 100000 in
set_option maxHeartbeats 1000000 in
theorem operand_deep (num : NumS) (R : Nat) (a : Option Addr) (c : Nat) (ts : List Tk) (f : Nat) (hl : ts.length ≤ 3000) (k d : Nat) (asked : Bool) (w : World) (hw : CurAt w R a c ts k (d : Int)) (hk : k ≤ ts.length) (hd30 : d = 30) :
    Calls Tryd.prog 43 #[.pointer (some ⟨R, 0, none⟩), .bool asked] w (RdOk R a c ts d w (rdF num ts (f + 1) 3 0 0 k d asked)) := by
  rw [rd_operand]
  have b0 := block_facts hw.box 0
  have b1 := block_facts hw.box 1
  have b2 := block_facts hw.box 2
  simp at b0 b1 b2
  obtain ⟨b01, b02⟩ := b0
  obtain ⟨b11, b12⟩ := b1
  obtain ⟨b21, b22⟩ := b2
  have hR := lt_of_block hw.box
  have HF := hid (fun er W (hb : Below w.heap.size w W) => fail_any R a c ts k d er k W (hw.below hb) hl hk)
  unfold thrown at HF
  rw [if_pos hd30]
  unfold RdOk thrown
  dsimp only
  have hdi : ((d : Int) == 30) = true := by simp; omega
  go_enter Tryd.func43, Tryd.ntmps43
  go_wp2_with fail
  have z1 := Later.cell b11
  have hnn : Nonempty (Later w) := ⟨⟨_, Below.refl _ _⟩⟩
  refine region_later_tail 8 (by kernel_rfl) (by kernel_rfl) ?_
  simp only [List.take_succ_cons, List.take_zero, List.drop_succ_cons, List.drop_zero]
  repeat (quiet_step (fail))
  refine wpQuiet_nil ?_
  intro p
  have HFp := hid (HF.out 10 p.W p.hb)
  have HKp : Hid (Kept (· = R) w p.W) := kept_of_below p.hb
  generalize p.W = wp at HFp HKp ⊢
  clear z1 hnn HF
  go_wp2_with fail
  refine HFp.out.mono ?_
  rintro e w2 ⟨rfl, hb2⟩
  have HK2 := hid (HKp.out.trans (kept_of_below hb2))
  first | exact ⟨rfl, rfl, HK2.out⟩ | (go_wp2_with fail; exact ⟨rfl, rfl, HK2.out⟩)

set_option maxRecDepth 100000 in
set_option maxHeartbeats 1000000 in
theorem operand_end (num : NumS) (R : Nat) (a : Option Addr) (c : Nat) (ts : List Tk) (f : Nat) (hl : ts.length ≤ 3000) (k d : Nat) (asked : Bool) (w : World) (hw : CurAt w R a c ts k (d : Int)) (hk : k = ts.length) (hd30 : d < 30) :
    Calls Tryd.prog 43 #[.pointer (some ⟨R, 0, none⟩), .bool asked] w (RdOk R a c ts d w (rdF num ts (f + 1) 3 0 0 k d asked)) := by
  rw [rd_operand, if_neg (by omega), List.getElem?_eq_none (by omega)]
  have b0 := block_facts hw.box 0
  have b1 := block_facts hw.box 1
  have b2 := block_facts hw.box 2
  simp at b0 b1 b2
  obtain ⟨b01, b02⟩ := b0
  obtain ⟨b11, b12⟩ := b1
  obtain ⟨b21, b22⟩ := b2
  have hR := lt_of_block hw.box
  have HF := hid (fun er W (hb : Below w.heap.size w W) => fail_any R a c ts k d er k W (hw.below hb) hl (by omega))
  unfold thrown at HF
  have hdi : ((d : Int) == 30) = false := by simp; omega
  have hki : ((k : Int) == (ts.length : Int)) = true := by simp; omega
  unfold RdOk thrown
  dsimp only
  clear hd30
  have HKe := hid hk
  clear hk
  go_enter Tryd.func43, Tryd.ntmps43
  go_wp2_with fail
  go_quiet (fail)
  have HBq := hid (below_drewN (Below.refl w.heap.size w) nq)
  generalize w.drewN nq = wq at HBq ⊢
  have c11 := (HBq.out.cell (World.block_lt_of_cell? _ _ b11)).trans b11
  have c01 := (HBq.out.cell (World.block_lt_of_cell? _ _ b01)).trans b01
  go_wp2_with fail
  have z1 := Later.cell c11
  have hnn : Nonempty (Later wq) := ⟨⟨_, Below.refl _ _⟩⟩
  refine region_later_tail 8 (by kernel_rfl) (by kernel_rfl) ?_
  simp only [List.take_succ_cons, List.take_zero, List.drop_succ_cons, List.drop_zero]
  repeat (quiet_step (fail))
  refine wpQuiet_nil ?_
  intro p
  have hbp := HBq.out.trans (p.hb.mono HBq.out.size)
  have HFp := hid (HF.out 9 p.W hbp)
  have HKp : Hid (Kept (· = R) w p.W) := kept_of_below hbp
  generalize p.W = wp at HFp HKp ⊢
  clear z1 hnn HF hbp
  go_wp2_with fail
  refine HFp.out.mono ?_
  rintro e w2 ⟨rfl, hb2⟩
  have HK2 := hid (HKp.out.trans (kept_of_below hb2))
  first | exact ⟨rfl, rfl, HK2.out⟩ | (go_wp2_with fail; exact ⟨rfl, rfl, HK2.out⟩)

set_option maxRecDepth 100000 in
set_option maxHeartbeats 1000000 in
theorem operand_main (num : NumS) (R : Nat) (a : Option Addr) (c : Nat) (ts : List Tk) (f : Nat) (hI : InnerC num R a c ts f) (k d : Nat) (asked : Bool) (w : World) (hw : CurAt w R a c ts k (d : Int)) (t : Tk) (ht : ts[k]? = some t) (hd30 : d < 30) (hE : Enough (innerF num ts f k d asked t)) :
    Calls Tryd.prog 43 #[.pointer (some ⟨R, 0, none⟩), .bool asked] w (RdOk R a c ts d w (innerF num ts f k d asked t)) := by
  have b0 := block_facts hw.box 0
  have b1 := block_facts hw.box 1
  have b2 := block_facts hw.box 2
  simp at b0 b1 b2
  obtain ⟨b01, b02⟩ := b0
  obtain ⟨b11, b12⟩ := b1
  obtain ⟨b21, b22⟩ := b2
  have hR := lt_of_block hw.box
  have hkl : k < ts.length := (List.getElem?_eq_some_iff.1 ht).1
  have hki : ((k : Int) == (ts.length : Int)) = false := by simp; omega
  have hk0 : (0 : Int) ≤ (k : Int) := by omega
  have hkn : (k : Int) < (ts.length : Int) := by omega
  have hdi : ((d : Int) == 30) = false := by simp; omega
  have hwd : IntKind.i64.wrap ((d : Int) + 1) = (d : Int) + 1 := by rw [IntKind.wrap_i64]; omega
  rcases id hw.toks with h0 | ⟨tb, off, rfl, htb, hc⟩
  · rw [h0] at hkl; simp at hkl
  have HC := hid hw
  have hcx := hc k t ht
  have HIn := hid (fun W (h : CurAt W R (some ⟨tb, off, none⟩) c ts k ((d : Int) + 1)) => hI k d asked t W h ht (by omega) hE)
  have hne : tb ≠ R := fun e => by
    have h0 := hcx 10 _ rfl
    rw [e, Go.Joins.cell_of_block hw.box] at h0
    simp at h0
  generalize innerF num ts f k d asked t = res at HIn ⊢
  have HD := hid hd30
  clear hE hI hc hd30
  go_enter Tryd.func43, Tryd.ntmps43
  go_wp2_with fail
  go_quiet (fail)
  have HBq := hid (below_drewN (Below.refl w.heap.size w) nq)
  generalize w.drewN nq = wq at HBq ⊢
  have HC1 := hid (HC.out.below HBq.out)
  have e1 := block_facts HC1.out.box 2
  simp at e1
  obtain ⟨e21, e22⟩ := e1
  go_wp2_with fail
  have HC2 := hid (HC1.out.sink ((d : Int) + 1))
  have HK2 : Hid (Kept (· = R) w (wq.setCell ⟨R, 2, none⟩ (.int .i64 ((d : Int) + 1)))) := by
    have h : Kept (· = R) w wq := kept_of_below HBq.out
    exact h.setCell (a := ⟨R, 2, none⟩) rfl _
  generalize wq.setCell ⟨R, 2, none⟩ (.int .i64 ((d : Int) + 1)) = w2 at HC2 HK2 ⊢
  clear b01 b02 b11 b12 b21 b22 e21 e22 hcx
  have c0 := (block_facts HC2.out.box 0).1
  have c1 := (block_facts HC2.out.box 1).1
  simp at c0 c1
  have hcx : ∀ i v, (encT t)[i]? = some v → w2.cell? ⟨tb, off + k * 11 + i, none⟩ = some v := by
    rcases HC2.out.toks with h0 | ⟨tb', off', h, _, hc⟩
    · rw [h0] at hkl; simp at hkl
    · cases h; exact hc k t ht
  obtain ⟨tk, tt, tsp, tfi, tf, tl, th, tn⟩ := t
  have y0 := hcx 0 _ rfl
  have y1 := hcx 1 _ rfl
  have y2 := hcx 2 _ rfl
  have y3 := hcx 3 _ rfl
  have y4 := hcx 4 _ rfl
  have y5 := hcx 5 _ rfl
  have y6 := hcx 6 _ rfl
  have y7 := hcx 7 _ rfl
  have y8 := hcx 8 _ rfl
  have y9 := hcx 9 _ rfl
  have y10 := hcx 10 _ rfl
  simp only [Nat.add_zero] at y0
  have z0 := Later.cell c0
  have z1 := Later.cell c1
  have l0 := Later.cell y0
  have l1 := Later.cell y1
  have l2 := Later.cell y2
  have l3 := Later.cell y3
  have l4 := Later.cell y4
  have l5 := Later.cell y5
  have l6 := Later.cell y6
  have l7 := Later.cell y7
  have l8 := Later.cell y8
  have l9 := Later.cell y9
  have l10 := Later.cell y10
  have hnn : Nonempty (Later w2) := ⟨⟨_, Below.refl _ _⟩⟩
  unfold aggC at HIn
  dsimp only at HIn
  clear c0 c1 y0 y1 y2 y3 y4 y5 y6 y7 y8 y9 y10 hcx
  refine region_later_tail 14 (by kernel_rfl) (by kernel_rfl) ?_
  simp only [List.take_succ_cons, List.take_zero, List.drop_succ_cons, List.drop_zero]
  repeat (quiet_step (fail))
  refine wpQuiet_nil ?_
  intro p
  have HC3 := hid (HC2.out.below p.hb)
  have HK3 := hid (HK2.out.trans (kept_of_below p.hb))
  have HI1 := hid (HIn.out p.W HC3.out)
  generalize p.W = wp at HC3 HK3 HI1 ⊢
  clear z0 z1 l0 l1 l2 l3 l4 l5 l6 l7 l8 l9 l10 hnn HIn HC2 HK2
  rcases res with ⟨n, k'⟩ | ⟨er, i⟩
  · unfold RdOk at HI1 ⊢
    dsimp only at HI1 ⊢
    go_wp2_with fail
    refine HI1.out.mono ?_
    rintro e w4 ⟨rfl, hk4, hc4, hle4⟩
    have HK4 := hid (HK3.out.trans hk4)
    have HC4 := hid hc4
    have e1 := block_facts HC4.out.box 2
    simp at e1
    obtain ⟨e21, e22⟩ := e1
    have hwe : wrap64 (d : Int) = (d : Int) := by have := HD.out; unfold wrap64; omega
    clear hk4 hc4 HI1
    go_wp2_with fail
    go_ret
    exact ⟨rfl, HK4.out.setCell (a := ⟨R, 2, none⟩) rfl _, HC4.out.sink (d : Int), hle4⟩
  · unfold RdOk thrown at HI1 ⊢
    dsimp only at HI1 ⊢
    go_wp2_with fail
    refine HI1.out.mono ?_
    rintro e w4 ⟨rfl, hk4⟩
    have HK4 := hid (HK3.out.trans hk4)
    go_wp2_with fail
    exact ⟨rfl, rfl, HK4.out⟩

/-- Operand at f + 1 steps, out of inner at f. -/
theorem operand_step (num : NumS) (R : Nat) (a : Option Addr) (c : Nat) (ts : List Tk) (f : Nat) (hl : ts.length ≤ 3000) (hI : InnerC num R a c ts f) : OperandC num R a c ts (f + 1) := by
  intro k d asked w hw hk hd hE
  by_cases hd30 : d = 30
  · exact operand_deep num R a c ts f hl k d asked w hw hk hd30
  · rcases ht : ts[k]? with _ | t
    · exact operand_end num R a c ts f hl k d asked w hw (by have := List.getElem?_eq_none_iff.1 ht; omega) (by omega)
    · rw [rd_operand, if_neg hd30, ht] at hE ⊢
      exact operand_main num R a c ts f hI k d asked w hw t ht (by omega) hE
end Go.Proofs.YtienjifhkmekcaaDoor
namespace Go.Proofs.YtienjifhkmekcaaDoor
open Go.RowKit Go.Shelf

theorem kept_here (R i : Nat) (w : World) (v : Value) : Kept (· = R) w (w.setCell ⟨R, i, none⟩ v) := by
  have h : Kept (· = R) w w := kept_of_below (Below.refl _ _)
  exact h.setCell (a := ⟨R, i, none⟩) rfl _

set_option maxRecDepth 100000 in
set_option maxHeartbeats 1000000 in
theorem value_on (R : Nat) (a : Option Addr) (c : Nat) (ts : List Tk) (k : Nat) (d : Int) (n : Int) (w : World) (h : CurAt w R a c ts k d) (hk : k < ts.length) (hl : ts.length ≤ 3000) :
    Calls Tryd.prog 70 #[.pointer (some ⟨R, 0, none⟩), .int .i64 n, .bool true] w fun e w' => e = .returned (.int .i64 n) ∧ Kept (· = R) w w' ∧ CurAt w' R a c ts (k + 1) d := by
  have b1 := block_facts h.box 1
  simp at b1
  obtain ⟨b11, b12⟩ := b1
  have HC := hid h
  clear h
  go_enter Tryd.func70, Tryd.ntmps70
  go_wp2_with fail
  go_ret
  exact ⟨rfl, kept_here _ _ _ _, HC.out.next (j := k)⟩

set_option maxRecDepth 100000 in
set_option maxHeartbeats 1000000 in
theorem value_off (R : Nat) (a : Option Addr) (c : Nat) (ts : List Tk) (k : Nat) (d : Int) (n : Int) (w : World) (h : CurAt w R a c ts k d) (hk : k ≤ ts.length) (hl : ts.length ≤ 3000) :
    Calls Tryd.prog 70 #[.pointer (some ⟨R, 0, none⟩), .int .i64 n, .bool false] w fun e w' => e = thrown 3 (placeOf ts k).1 (placeOf ts k).2 ∧ Kept (· = R) w w' := by
  have b1 := block_facts h.box 1
  simp at b1
  obtain ⟨b11, b12⟩ := b1
  have HF := hid (fun W (hb : Below w.heap.size w W) => fail_any R a c ts k d 3 k W (h.below hb) hl hk)
  unfold thrown at HF ⊢
  clear h
  go_enter Tryd.func70, Tryd.ntmps70
  go_wp2_with fail
  have z1 := Later.cell b11
  have hnn : Nonempty (Later w) := ⟨⟨_, Below.refl _ _⟩⟩
  refine region_later_tail 8 (by kernel_rfl) (by kernel_rfl) ?_
  simp only [List.take_succ_cons, List.take_zero, List.drop_succ_cons, List.drop_zero]
  repeat (quiet_step (fail))
  refine wpQuiet_nil ?_
  intro p
  have HFp := hid (HF.out p.W p.hb)
  have HKp : Hid (Kept (· = R) w p.W) := kept_of_below p.hb
  generalize p.W = wp at HFp HKp ⊢
  clear z1 hnn HF
  go_wp2_with fail
  refine HFp.out.mono ?_
  rintro e w2 ⟨rfl, hb2⟩
  have HK2 := hid (HKp.out.trans (kept_of_below hb2))
  first | exact ⟨rfl, rfl, HK2.out⟩ | (go_wp2_with fail; exact ⟨rfl, rfl, HK2.out⟩)

/-- What Num must answer. -/
def NumC (num : NumS) : Prop := ∀ (s : ByteArray) (W : World), Ev W → s.size ≤ 3000 → Calls Tryd.prog 7 #[.string s] W fun e w' => e = .returned (optV (num s.data.toList)) ∧ Below W.heap.size W w'

set_option maxRecDepth 100000 in
set_option maxHeartbeats 1000000 in
theorem inner_name (num : NumS) (R : Nat) (a : Option Addr) (c : Nat) (ts : List Tk) (f : Nat) (k d : Nat) (asked : Bool) (t : Tk) (w : World) (hw : CurAt w R a c ts k ((d : Int) + 1)) (hk : k < ts.length) (hl : ts.length ≤ 3000) (hkd : t.kind = 1) :
    Calls Tryd.prog 61 #[.pointer (some ⟨R, 0, none⟩), aggC t, .bool asked] w (RdOk R a c ts ((d : Int) + 1) w (innerF num ts f k d asked t)) := by
  unfold innerF
  rw [if_pos hkd]
  unfold RdOk aggC
  dsimp only
  obtain ⟨tk, tt, tsp, tfi, tf, tl, th, tn⟩ := t
  dsimp only at hkd ⊢
  subst hkd
  have b1 := block_facts hw.box 1
  simp at b1
  obtain ⟨b11, b12⟩ := b1
  have HC := hid hw
  have hR := lt_of_block hw.box
  clear hw
  go_enter Tryd.func61, Tryd.ntmps61
  go_wp2_with fail
  go_ret
  have h1 := HC.out.next (j := k)
  have h2 : ∀ (W : World) X, Below W.heap.size W (W.alloc X) := fun W X => (Below.refl _ W).alloc (Nat.le_refl _) X
  exact ⟨rfl, (kept_here R 1 w _).trans (kept_of_below (h2 _ _)), h1.below (h2 _ _), by omega⟩

theorem below_new (W : World) (X : Obj) : Below W.heap.size W (W.alloc X) := (Below.refl _ W).alloc (Nat.le_refl _) X

set_option maxRecDepth 100000 in
set_option maxHeartbeats 1000000 in
theorem inner_num (num : NumS) (R : Nat) (a : Option Addr) (c : Nat) (ts : List Tk) (f : Nat) (hN : NumC num) (k d : Nat) (asked : Bool) (t : Tk) (hts : t.text.size ≤ 3000) (w : World) (hw : CurAt w R a c ts k ((d : Int) + 1)) (hk : k < ts.length) (hl : ts.length ≤ 3000) (hkd : t.kind = 2) :
    Calls Tryd.prog 61 #[.pointer (some ⟨R, 0, none⟩), aggC t, .bool asked] w (RdOk R a c ts ((d : Int) + 1) w (innerF num ts f k d asked t)) := by
  unfold innerF
  rw [if_neg (by omega), if_pos hkd]
  unfold aggC
  obtain ⟨tk, tt, tsp, tfi, tf, tl, th, tn⟩ := t
  dsimp only at hkd hts ⊢
  subst hkd
  have HC := hid (hw.below (below_new w (.cells #[.int .i64 2, .string tt, .bool tsp, .bool tfi, .int .i64 tf, .int .i64 tl, .int .i64 th, .int .i64 tn, .slice none 0 0, .slice none 0 0, .int .i64 0] 40)))
  have HNm := hid (hN tt _ HC.out.ev hts : Calls Tryd.prog 7 #[.string tt] (w.alloc (.cells #[.int .i64 2, .string tt, .bool tsp, .bool tfi, .int .i64 tf, .int .i64 tl, .int .i64 th, .int .i64 tn, .slice none 0 0, .slice none 0 0, .int .i64 0] 40)) _)
  unfold optV at HNm
  have HV1 := hid (fun v W (h : CurAt W R a c ts k ((d : Int) + 1)) => value_on R a c ts k ((d : Int) + 1) v W h hk hl)
  have HV2 := hid (fun v W (h : CurAt W R a c ts k ((d : Int) + 1)) => value_off R a c ts k ((d : Int) + 1) v W h (by omega) hl)
  unfold thrown at HV2
  clear hw
  rcases hn : num tt.data.toList with _ | v
  all_goals rw [hn] at HNm
  all_goals simp only [Option.getD_none, Option.getD_some, Option.isSome_none, Option.isSome_some] at HNm
  all_goals unfold RdOk thrown
  all_goals dsimp only
  all_goals go_enter Tryd.func61, Tryd.ntmps61
  all_goals go_wp2_with fail
  all_goals refine HNm.out.mono ?_
  all_goals rintro e w1 ⟨rfl, hb1⟩
  all_goals have HC1 := hid (HC.out.below hb1)
  all_goals (have HK1 : Hid (Kept (· = R) w w1) := (kept_of_below (below_new w _)).trans (kept_of_below hb1))
  all_goals clear HC HNm hb1
  all_goals go_wp2_with fail
  · refine (HV2.out _ _ HC1.out).mono ?_
    rintro e w2 ⟨rfl, hk2⟩
    have HK2 := hid (HK1.out.trans hk2)
    go_wp2_with fail
    exact ⟨rfl, rfl, HK2.out⟩
  · refine (HV1.out _ _ HC1.out).mono ?_
    rintro e w2 ⟨rfl, hk2, hc2⟩
    have HK2 := hid (HK1.out.trans hk2)
    have HC2 := hid hc2
    clear hk2 hc2
    go_wp2_with fail
    go_ret
    exact ⟨rfl, HK2.out, HC2.out, by omega⟩

set_option maxRecDepth 100000 in
set_option maxHeartbeats 1000000 in
theorem inner_char (num : NumS) (R : Nat) (a : Option Addr) (c : Nat) (ts : List Tk) (f : Nat) (k d : Nat) (asked : Bool) (t : Tk) (w : World) (hw : CurAt w R a c ts k ((d : Int) + 1)) (hk : k < ts.length) (hl : ts.length ≤ 3000) (hkd : t.kind = 3) :
    Calls Tryd.prog 61 #[.pointer (some ⟨R, 0, none⟩), aggC t, .bool asked] w (RdOk R a c ts ((d : Int) + 1) w (innerF num ts f k d asked t)) := by
  unfold innerF
  rw [if_neg (by omega), if_neg (by omega), if_pos hkd]
  unfold aggC
  obtain ⟨tk, tt, tsp, tfi, tf, tl, th, tn⟩ := t
  dsimp only at hkd ⊢
  subst hkd
  have HC := hid (hw.below (below_new w (.cells #[.int .i64 3, .string tt, .bool tsp, .bool tfi, .int .i64 tf, .int .i64 tl, .int .i64 th, .int .i64 tn, .slice none 0 0, .slice none 0 0, .int .i64 0] 40)))
  have HNm := hid (Char_any tt _ : Calls Tryd.prog 9 #[.string tt] (w.alloc (.cells #[.int .i64 3, .string tt, .bool tsp, .bool tfi, .int .i64 tf, .int .i64 tl, .int .i64 th, .int .i64 tn, .slice none 0 0, .slice none 0 0, .int .i64 0] 40)) _)
  unfold optV at HNm
  have HV1 := hid (fun v W (h : CurAt W R a c ts k ((d : Int) + 1)) => value_on R a c ts k ((d : Int) + 1) v W h hk hl)
  have HV2 := hid (fun v W (h : CurAt W R a c ts k ((d : Int) + 1)) => value_off R a c ts k ((d : Int) + 1) v W h (by omega) hl)
  unfold thrown at HV2
  clear hw
  rcases hn : charL tt.data.toList with _ | v
  all_goals rw [hn] at HNm
  all_goals simp only [Option.getD_none, Option.getD_some, Option.isSome_none, Option.isSome_some] at HNm
  all_goals unfold RdOk thrown
  all_goals dsimp only
  all_goals go_enter Tryd.func61, Tryd.ntmps61
  all_goals go_wp2_with fail
  all_goals refine HNm.out.mono ?_
  all_goals rintro e w1 ⟨rfl, hb1⟩
  all_goals have HC1 := hid (HC.out.below hb1)
  all_goals (have HK1 : Hid (Kept (· = R) w w1) := (kept_of_below (below_new w _)).trans (kept_of_below hb1))
  all_goals clear HC HNm hb1
  all_goals go_wp2_with fail
  · refine (HV2.out _ _ HC1.out).mono ?_
    rintro e w2 ⟨rfl, hk2⟩
    have HK2 := hid (HK1.out.trans hk2)
    go_wp2_with fail
    exact ⟨rfl, rfl, HK2.out⟩
  · refine (HV1.out _ _ HC1.out).mono ?_
    rintro e w2 ⟨rfl, hk2, hc2⟩
    have HK2 := hid (HK1.out.trans hk2)
    have HC2 := hid hc2
    clear hk2 hc2
    go_wp2_with fail
    go_ret
    exact ⟨rfl, HK2.out, HC2.out, by omega⟩

end Go.Proofs.YtienjifhkmekcaaDoor
namespace Go.Proofs.YtienjifhkmekcaaDoor
open Go.RowKit Go.Shelf

theorem cast_one (d : Nat) : ((d + 1 : Nat) : Int) = (d : Int) + 1 := by push_cast; rfl

/-- inner's answer at a token that is no name, number or character. -/
theorem inner_sign (num : NumS) (ts : List Tk) (f k d : Nat) (asked : Bool) (t : Tk) (h1 : t.kind ≠ 1) (h2 : t.kind ≠ 2) (h3 : t.kind ≠ 3) : innerF num ts f k d asked t =
    (if (signAt ts k).toList == [40] then
      match rdF num ts f 0 0 0 (k + 1) (d + 1) asked with
      | .inr e => .inr e
      | .inl (v, k) => if (signAt ts k).toList == [41] then .inl (v, k + 1) else .inr (2, k)
    else if (signAt ts k).toList == [45] || (signAt ts k).toList == [43] || (signAt ts k).toList == [126] || (signAt ts k).toList == [33] then
      match rdF num ts f 3 0 0 (k + 1) (d + 1) asked with
      | .inr e => .inr e
      | .inl (v, j) => .inl (aheadL (signAt ts k).toList v, j)
    else .inr (2, k)) := by
  unfold innerF
  rw [if_neg h1, if_neg h2, if_neg h3]
  all_goals rfl

set_option maxRecDepth 100000 in
set_option maxHeartbeats 2000000 in
theorem inner_paren (num : NumS) (R : Nat) (a : Option Addr) (c : Nat) (ts : List Tk) (f : Nat) (hC : ChoiceC num R a c ts f) (k d : Nat) (asked : Bool) (t : Tk) (w : World) (hw : CurAt w R a c ts k ((d : Int) + 1)) (hk : k < ts.length) (hl : ts.length ≤ 3000) (hd : d + 1 ≤ 30) (h1 : t.kind ≠ 1) (h2 : t.kind ≠ 2) (h3 : t.kind ≠ 3)
    (hE : Enough (innerF num ts f k d asked t)) (hq : ((signAt ts k).toList == [40]) = true) :
    Calls Tryd.prog 61 #[.pointer (some ⟨R, 0, none⟩), aggC t, .bool asked] w (RdOk R a c ts ((d : Int) + 1) w (innerF num ts f k d asked t)) := by
  rw [inner_sign num ts f k d asked t h1 h2 h3] at hE ⊢
  rw [if_pos hq] at hE ⊢
  unfold aggC
  obtain ⟨tk, tt, tsp, tfi, tf, tl, th, tn⟩ := t
  dsimp only at h1 h2 h3 ⊢
  have g1 : (tk == 1) = false := by simpa using h1
  have g2 : (tk == 2) = false := by simpa using h2
  have g3 : (tk == 3) = false := by simpa using h3
  have HC := hid (hw.below (below_new w (.cells #[.int .i64 tk, .string tt, .bool tsp, .bool tfi, .int .i64 tf, .int .i64 tl, .int .i64 th, .int .i64 tn, .slice none 0 0, .slice none 0 0, .int .i64 0] 40)))
  have HSg := hid (sign_any R a c ts k ((d : Int) + 1) _ HC.out (by omega))
  have HKn : Hid (Kept (· = R) w (w.alloc (.cells #[.int .i64 tk, .string tt, .bool tsp, .bool tfi, .int .i64 tf, .int .i64 tl, .int .i64 th, .int .i64 tn, .slice none 0 0, .slice none 0 0, .int .i64 0] 40))) := kept_of_below (below_new w _)
  clear hw h1 h2 h3
  have HX := hid (fun W (h : CurAt W R a c ts (k + 1) ((d + 1 : Nat) : Int)) => hC (k + 1) (d + 1) asked W h (by omega) hd)
  generalize signAt ts k = X at HSg hq
  rcases hr : rdF num ts f 0 0 0 (k + 1) (d + 1) asked with ⟨v, j⟩ | ⟨er, i⟩
  · rw [hr] at hE HX
    have HX1 := hid (fun W h => HX.out W h (fun i h => by cases h))
    unfold RdOk at HX1
    rw [cast_one] at HX1
    dsimp only at HX1 hE ⊢
    clear HX hr
    by_cases hq3 : ((signAt ts j).toList == [41]) = true
    · rw [if_pos hq3]
      have hlt := sign_lt ts j 41 hq3
      have HSk := hid (fun W (h : CurAt W R a c ts j ((d : Int) + 1)) (hk : j ≤ ts.length) => skip_on R a c ts j ((d : Int) + 1) ⟨#[41]⟩ W h hl hk (by rw [toList_data ⟨#[41]⟩]; exact hq3))
      unfold RdOk
      dsimp only
      clear hE hq3
      go_enter Tryd.func61, Tryd.ntmps61
      go_wp2_with fail
      refine HSg.out.mono ?_
      rintro e w1 ⟨rfl, hb1⟩
      have HC1 := hid (HC.out.below hb1)
      have HK1 := hid (HKn.out.trans (kept_of_below hb1))
      have b1 := block_facts HC1.out.box 1
      simp at b1
      obtain ⟨b11, b12⟩ := b1
      clear HC HSg hb1 HKn
      go_wp2_with fail
      have HC2 := hid (HC1.out.next (j := k))
      refine (HX1.out _ HC2.out).mono ?_
      rintro e w2 ⟨rfl, hk2, hc2, hle2⟩
      have HK2 := hid ((HK1.out.trans (kept_here R 1 w1 _)).trans hk2)
      have HC3 := hid hc2
      clear hk2 hc2 HC2 HX1 b11 b12 HK1 HC1
      go_wp2_with fail
      refine (HSk.out _ HC3.out hle2).mono ?_
      rintro e w3 ⟨rfl, hk3, hc3⟩
      have HK3 := hid (HK2.out.trans hk3)
      have HC4 := hid hc3
      clear hk3 hc3
      go_wp2_with fail
      go_ret
      exact ⟨rfl, HK3.out, HC4.out, by omega⟩
    · have hq4 : ((signAt ts j).toList == [41]) = false := by simpa using hq3
      rw [if_neg hq3]
      have HSk := hid (fun W (h : CurAt W R a c ts j ((d : Int) + 1)) (hk : j ≤ ts.length) => skip_off R a c ts j ((d : Int) + 1) ⟨#[41]⟩ W h hl hk (by rw [toList_data ⟨#[41]⟩]; exact hq4))
      unfold RdOk
      unfold thrown at HSk ⊢
      dsimp only
      clear hE hq3 hq4
      go_enter Tryd.func61, Tryd.ntmps61
      go_wp2_with fail
      refine HSg.out.mono ?_
      rintro e w1 ⟨rfl, hb1⟩
      have HC1 := hid (HC.out.below hb1)
      have HK1 := hid (HKn.out.trans (kept_of_below hb1))
      have b1 := block_facts HC1.out.box 1
      simp at b1
      obtain ⟨b11, b12⟩ := b1
      clear HC HSg hb1 HKn
      go_wp2_with fail
      have HC2 := hid (HC1.out.next (j := k))
      refine (HX1.out _ HC2.out).mono ?_
      rintro e w2 ⟨rfl, hk2, hc2, hle2⟩
      have HK2 := hid ((HK1.out.trans (kept_here R 1 w1 _)).trans hk2)
      have HC3 := hid hc2
      clear hk2 hc2 HC2 HX1 b11 b12 HK1 HC1
      go_wp2_with fail
      refine (HSk.out _ HC3.out hle2).mono ?_
      rintro e w3 ⟨rfl, hk3⟩
      have HK3 := hid (HK2.out.trans hk3)
      go_wp2_with fail
      exact ⟨rfl, rfl, HK3.out⟩
  · rw [hr] at hE HX
    dsimp only at hE
    have HX1 := hid (fun W h => HX.out W h hE)
    unfold RdOk thrown at HX1 ⊢
    rw [cast_one] at HX1
    dsimp only at HX1 ⊢
    clear HX hr hE
    go_enter Tryd.func61, Tryd.ntmps61
    go_wp2_with fail
    refine HSg.out.mono ?_
    rintro e w1 ⟨rfl, hb1⟩
    have HC1 := hid (HC.out.below hb1)
    have HK1 := hid (HKn.out.trans (kept_of_below hb1))
    have b1 := block_facts HC1.out.box 1
    simp at b1
    obtain ⟨b11, b12⟩ := b1
    clear HC HSg hb1 HKn
    go_wp2_with fail
    have HC2 := hid (HC1.out.next (j := k))
    refine (HX1.out _ HC2.out).mono ?_
    rintro e w2 ⟨rfl, hk2⟩
    have HK2 := hid ((HK1.out.trans (kept_here R 1 w1 _)).trans hk2)
    go_wp2_with fail
    exact ⟨rfl, rfl, HK2.out⟩

set_option maxRecDepth 100000 in
set_option maxHeartbeats 2000000 in
theorem inner_bad (num : NumS) (R : Nat) (a : Option Addr) (c : Nat) (ts : List Tk) (f : Nat) (k d : Nat) (asked : Bool) (t : Tk) (w : World) (hw : CurAt w R a c ts k ((d : Int) + 1)) (hk : k < ts.length) (hl : ts.length ≤ 3000) (_hd : d + 1 ≤ 30) (h1 : t.kind ≠ 1) (h2 : t.kind ≠ 2) (h3 : t.kind ≠ 3)
    (hq : ((signAt ts k).toList == [40]) = false) (hq1 : ((signAt ts k).toList == [45]) = false) (hq2 : ((signAt ts k).toList == [43]) = false) (hq3 : ((signAt ts k).toList == [126]) = false) (hq4 : ((signAt ts k).toList == [33]) = false) :
    Calls Tryd.prog 61 #[.pointer (some ⟨R, 0, none⟩), aggC t, .bool asked] w (RdOk R a c ts ((d : Int) + 1) w (innerF num ts f k d asked t)) := by
  rw [inner_sign num ts f k d asked t h1 h2 h3]
  rw [if_neg (by rw [hq]; simp), if_neg (by rw [hq1, hq2, hq3, hq4]; simp)]
  unfold aggC
  obtain ⟨tk, tt, tsp, tfi, tf, tl, th, tn⟩ := t
  dsimp only at h1 h2 h3 ⊢
  have g1 : (tk == 1) = false := by simpa using h1
  have g2 : (tk == 2) = false := by simpa using h2
  have g3 : (tk == 3) = false := by simpa using h3
  have HC := hid (hw.below (below_new w (.cells #[.int .i64 tk, .string tt, .bool tsp, .bool tfi, .int .i64 tf, .int .i64 tl, .int .i64 th, .int .i64 tn, .slice none 0 0, .slice none 0 0, .int .i64 0] 40)))
  have HSg := hid (sign_any R a c ts k ((d : Int) + 1) _ HC.out (by omega))
  have HKn : Hid (Kept (· = R) w (w.alloc (.cells #[.int .i64 tk, .string tt, .bool tsp, .bool tfi, .int .i64 tf, .int .i64 tl, .int .i64 th, .int .i64 tn, .slice none 0 0, .slice none 0 0, .int .i64 0] 40))) := kept_of_below (below_new w _)
  clear hw h1 h2 h3
  unfold RdOk thrown
  dsimp only
  have HF := hid (fun W (h : CurAt W R a c ts k ((d : Int) + 1)) => fail_any R a c ts k ((d : Int) + 1) 2 k W h hl (by omega))
  unfold thrown at HF
  generalize signAt ts k = X at HSg hq hq1 hq2 hq3 hq4
  go_enter Tryd.func61, Tryd.ntmps61
  go_wp2_with fail
  refine HSg.out.mono ?_
  rintro e w1 ⟨rfl, hb1⟩
  have HC1 := hid (HC.out.below hb1)
  have HK1 := hid (HKn.out.trans (kept_of_below hb1))
  have b1 := block_facts HC1.out.box 1
  simp at b1
  obtain ⟨b11, b12⟩ := b1
  clear HC HSg hb1 HKn
  go_wp2_with fail
  have z1 := Later.cell b11
  have hnn : Nonempty (Later w1) := ⟨⟨_, Below.refl _ _⟩⟩
  refine region_later_tail 8 (by kernel_rfl) (by kernel_rfl) ?_
  simp only [List.take_succ_cons, List.take_zero, List.drop_succ_cons, List.drop_zero]
  repeat (quiet_step (fail))
  refine wpQuiet_nil ?_
  intro p
  have HFp := hid (HF.out p.W (HC1.out.below p.hb))
  have HKp := hid (HK1.out.trans (kept_of_below p.hb))
  generalize p.W = wp at HFp HKp ⊢
  clear z1 hnn HF
  go_wp2_with fail
  refine HFp.out.mono ?_
  rintro e w2 ⟨rfl, hb2⟩
  have HK2 := hid (HKp.out.trans (kept_of_below hb2))
  first | exact ⟨rfl, rfl, HK2.out⟩ | (go_wp2_with fail; exact ⟨rfl, rfl, HK2.out⟩)

set_option maxRecDepth 100000 in
set_option maxHeartbeats 2000000 in
theorem inner_unary (num : NumS) (R : Nat) (a : Option Addr) (c : Nat) (ts : List Tk) (f : Nat) (hO : OperandC num R a c ts f) (k d : Nat) (asked : Bool) (t : Tk) (w : World) (hw : CurAt w R a c ts k ((d : Int) + 1)) (hk : k < ts.length) (hl : ts.length ≤ 3000) (hd : d + 1 ≤ 30) (h1 : t.kind ≠ 1) (h2 : t.kind ≠ 2) (h3 : t.kind ≠ 3)
    (hE : Enough (innerF num ts f k d asked t)) (hq : ((signAt ts k).toList == [40]) = false) (hqu : ((signAt ts k).toList == [45] || (signAt ts k).toList == [43] || (signAt ts k).toList == [126] || (signAt ts k).toList == [33]) = true) :
    Calls Tryd.prog 61 #[.pointer (some ⟨R, 0, none⟩), aggC t, .bool asked] w (RdOk R a c ts ((d : Int) + 1) w (innerF num ts f k d asked t)) := by
  rw [inner_sign num ts f k d asked t h1 h2 h3] at hE ⊢
  rw [if_neg (by rw [hq]; simp), if_pos hqu] at hE ⊢
  unfold aggC
  obtain ⟨tk, tt, tsp, tfi, tf, tl, th, tn⟩ := t
  dsimp only at h1 h2 h3 ⊢
  have g1 : (tk == 1) = false := by simpa using h1
  have g2 : (tk == 2) = false := by simpa using h2
  have g3 : (tk == 3) = false := by simpa using h3
  have HC := hid (hw.below (below_new w (.cells #[.int .i64 tk, .string tt, .bool tsp, .bool tfi, .int .i64 tf, .int .i64 tl, .int .i64 th, .int .i64 tn, .slice none 0 0, .slice none 0 0, .int .i64 0] 40)))
  have HSg := hid (sign_any R a c ts k ((d : Int) + 1) _ HC.out (by omega))
  have HKn : Hid (Kept (· = R) w (w.alloc (.cells #[.int .i64 tk, .string tt, .bool tsp, .bool tfi, .int .i64 tf, .int .i64 tl, .int .i64 th, .int .i64 tn, .slice none 0 0, .slice none 0 0, .int .i64 0] 40))) := kept_of_below (below_new w _)
  clear hw h1 h2 h3
  have HA := hid (fun n W => ahead_any (signAt ts k) n W)
  have HO := hid (fun W (h : CurAt W R a c ts (k + 1) ((d + 1 : Nat) : Int)) => hO (k + 1) (d + 1) asked W h (by omega) hd)
  generalize signAt ts k = X at HSg hq hqu HA hE ⊢
  rcases hr : rdF num ts f 3 0 0 (k + 1) (d + 1) asked with ⟨v, j⟩ | ⟨er, i⟩
  · rw [hr] at hE HO
    have HO1 := hid (fun W h => HO.out W h (fun i h => by cases h))
    unfold RdOk at HO1 ⊢
    rw [cast_one] at HO1
    dsimp only at HO1 hE ⊢
    clear hE HO hr
    by_cases q1 : (X.toList == [45]) = true
    · clear hqu
      go_enter Tryd.func61, Tryd.ntmps61
      go_wp2_with fail
      refine HSg.out.mono ?_
      rintro e w1 ⟨rfl, hb1⟩
      have HC1 := hid (HC.out.below hb1)
      have HK1 := hid (HKn.out.trans (kept_of_below hb1))
      have b1 := block_facts HC1.out.box 1
      simp at b1
      obtain ⟨b11, b12⟩ := b1
      clear HC HSg hb1 HKn
      go_wp2_with fail
      have HC2 := hid (HC1.out.next (j := k))
      refine (HO1.out _ HC2.out).mono ?_
      rintro e w2 ⟨rfl, hk2, hc2, hle2⟩
      have HK2 := hid ((HK1.out.trans (kept_here R 1 w1 _)).trans hk2)
      have HC3 := hid hc2
      clear hk2 hc2 HC2 HO1 b11 b12 HK1 HC1
      go_wp2_with fail
      refine (HA.out _ _).mono ?_
      rintro e w3 ⟨rfl, rfl⟩
      go_wp2_with fail
      go_ret
      exact ⟨rfl, HK2.out, HC3.out, hle2⟩
    · have q1' : (X.toList == [45]) = false := by simpa using q1
      clear q1
      by_cases q2 : (X.toList == [43]) = true
      · clear hqu
        go_enter Tryd.func61, Tryd.ntmps61
        go_wp2_with fail
        refine HSg.out.mono ?_
        rintro e w1 ⟨rfl, hb1⟩
        have HC1 := hid (HC.out.below hb1)
        have HK1 := hid (HKn.out.trans (kept_of_below hb1))
        have b1 := block_facts HC1.out.box 1
        simp at b1
        obtain ⟨b11, b12⟩ := b1
        clear HC HSg hb1 HKn
        go_wp2_with fail
        have HC2 := hid (HC1.out.next (j := k))
        refine (HO1.out _ HC2.out).mono ?_
        rintro e w2 ⟨rfl, hk2, hc2, hle2⟩
        have HK2 := hid ((HK1.out.trans (kept_here R 1 w1 _)).trans hk2)
        have HC3 := hid hc2
        clear hk2 hc2 HC2 HO1 b11 b12 HK1 HC1
        go_wp2_with fail
        refine (HA.out _ _).mono ?_
        rintro e w3 ⟨rfl, rfl⟩
        go_wp2_with fail
        go_ret
        exact ⟨rfl, HK2.out, HC3.out, hle2⟩
      · have q2' : (X.toList == [43]) = false := by simpa using q2
        clear q2
        by_cases q3 : (X.toList == [126]) = true
        · clear hqu
          go_enter Tryd.func61, Tryd.ntmps61
          go_wp2_with fail
          refine HSg.out.mono ?_
          rintro e w1 ⟨rfl, hb1⟩
          have HC1 := hid (HC.out.below hb1)
          have HK1 := hid (HKn.out.trans (kept_of_below hb1))
          have b1 := block_facts HC1.out.box 1
          simp at b1
          obtain ⟨b11, b12⟩ := b1
          clear HC HSg hb1 HKn
          go_wp2_with fail
          have HC2 := hid (HC1.out.next (j := k))
          refine (HO1.out _ HC2.out).mono ?_
          rintro e w2 ⟨rfl, hk2, hc2, hle2⟩
          have HK2 := hid ((HK1.out.trans (kept_here R 1 w1 _)).trans hk2)
          have HC3 := hid hc2
          clear hk2 hc2 HC2 HO1 b11 b12 HK1 HC1
          go_wp2_with fail
          refine (HA.out _ _).mono ?_
          rintro e w3 ⟨rfl, rfl⟩
          go_wp2_with fail
          go_ret
          exact ⟨rfl, HK2.out, HC3.out, hle2⟩
        · have q3' : (X.toList == [126]) = false := by simpa using q3
          have q4 : (X.toList == [33]) = true := by rw [q1', q2', q3'] at hqu; simpa using hqu
          clear q3 hqu
          go_enter Tryd.func61, Tryd.ntmps61
          go_wp2_with fail
          refine HSg.out.mono ?_
          rintro e w1 ⟨rfl, hb1⟩
          have HC1 := hid (HC.out.below hb1)
          have HK1 := hid (HKn.out.trans (kept_of_below hb1))
          have b1 := block_facts HC1.out.box 1
          simp at b1
          obtain ⟨b11, b12⟩ := b1
          clear HC HSg hb1 HKn
          go_wp2_with fail
          have HC2 := hid (HC1.out.next (j := k))
          refine (HO1.out _ HC2.out).mono ?_
          rintro e w2 ⟨rfl, hk2, hc2, hle2⟩
          have HK2 := hid ((HK1.out.trans (kept_here R 1 w1 _)).trans hk2)
          have HC3 := hid hc2
          clear hk2 hc2 HC2 HO1 b11 b12 HK1 HC1
          go_wp2_with fail
          refine (HA.out _ _).mono ?_
          rintro e w3 ⟨rfl, rfl⟩
          go_wp2_with fail
          go_ret
          exact ⟨rfl, HK2.out, HC3.out, hle2⟩
  · rw [hr] at hE HO
    dsimp only at hE
    have HO1 := hid (fun W h => HO.out W h hE)
    unfold RdOk thrown at HO1 ⊢
    rw [cast_one] at HO1
    dsimp only at HO1 ⊢
    clear hE HO hr
    by_cases q1 : (X.toList == [45]) = true
    · clear hqu
      go_enter Tryd.func61, Tryd.ntmps61
      go_wp2_with fail
      refine HSg.out.mono ?_
      rintro e w1 ⟨rfl, hb1⟩
      have HC1 := hid (HC.out.below hb1)
      have HK1 := hid (HKn.out.trans (kept_of_below hb1))
      have b1 := block_facts HC1.out.box 1
      simp at b1
      obtain ⟨b11, b12⟩ := b1
      clear HC HSg hb1 HKn
      go_wp2_with fail
      have HC2 := hid (HC1.out.next (j := k))
      refine (HO1.out _ HC2.out).mono ?_
      rintro e w2 ⟨rfl, hk2⟩
      have HK2 := hid ((HK1.out.trans (kept_here R 1 w1 _)).trans hk2)
      go_wp2_with fail
      exact ⟨rfl, rfl, HK2.out⟩
    · have q1' : (X.toList == [45]) = false := by simpa using q1
      clear q1
      by_cases q2 : (X.toList == [43]) = true
      · clear hqu
        go_enter Tryd.func61, Tryd.ntmps61
        go_wp2_with fail
        refine HSg.out.mono ?_
        rintro e w1 ⟨rfl, hb1⟩
        have HC1 := hid (HC.out.below hb1)
        have HK1 := hid (HKn.out.trans (kept_of_below hb1))
        have b1 := block_facts HC1.out.box 1
        simp at b1
        obtain ⟨b11, b12⟩ := b1
        clear HC HSg hb1 HKn
        go_wp2_with fail
        have HC2 := hid (HC1.out.next (j := k))
        refine (HO1.out _ HC2.out).mono ?_
        rintro e w2 ⟨rfl, hk2⟩
        have HK2 := hid ((HK1.out.trans (kept_here R 1 w1 _)).trans hk2)
        go_wp2_with fail
        exact ⟨rfl, rfl, HK2.out⟩
      · have q2' : (X.toList == [43]) = false := by simpa using q2
        clear q2
        by_cases q3 : (X.toList == [126]) = true
        · clear hqu
          go_enter Tryd.func61, Tryd.ntmps61
          go_wp2_with fail
          refine HSg.out.mono ?_
          rintro e w1 ⟨rfl, hb1⟩
          have HC1 := hid (HC.out.below hb1)
          have HK1 := hid (HKn.out.trans (kept_of_below hb1))
          have b1 := block_facts HC1.out.box 1
          simp at b1
          obtain ⟨b11, b12⟩ := b1
          clear HC HSg hb1 HKn
          go_wp2_with fail
          have HC2 := hid (HC1.out.next (j := k))
          refine (HO1.out _ HC2.out).mono ?_
          rintro e w2 ⟨rfl, hk2⟩
          have HK2 := hid ((HK1.out.trans (kept_here R 1 w1 _)).trans hk2)
          go_wp2_with fail
          exact ⟨rfl, rfl, HK2.out⟩
        · have q3' : (X.toList == [126]) = false := by simpa using q3
          have q4 : (X.toList == [33]) = true := by rw [q1', q2', q3'] at hqu; simpa using hqu
          clear q3 hqu
          go_enter Tryd.func61, Tryd.ntmps61
          go_wp2_with fail
          refine HSg.out.mono ?_
          rintro e w1 ⟨rfl, hb1⟩
          have HC1 := hid (HC.out.below hb1)
          have HK1 := hid (HKn.out.trans (kept_of_below hb1))
          have b1 := block_facts HC1.out.box 1
          simp at b1
          obtain ⟨b11, b12⟩ := b1
          clear HC HSg hb1 HKn
          go_wp2_with fail
          have HC2 := hid (HC1.out.next (j := k))
          refine (HO1.out _ HC2.out).mono ?_
          rintro e w2 ⟨rfl, hk2⟩
          have HK2 := hid ((HK1.out.trans (kept_here R 1 w1 _)).trans hk2)
          go_wp2_with fail
          exact ⟨rfl, rfl, HK2.out⟩

/-- inner at f steps, out of choice and operand at f, and Num. -/
theorem inner_step (num : NumS) (hN : NumC num) (R : Nat) (a : Option Addr) (c : Nat) (ts : List Tk) (f : Nat) (hl : ts.length ≤ 3000) (hts : ∀ t ∈ ts, t.text.size ≤ 3000) (hC : ChoiceC num R a c ts f) (hO : OperandC num R a c ts f) : InnerC num R a c ts f := by
  intro k d asked t w hw ht hd hE
  have hk : k < ts.length := (List.getElem?_eq_some_iff.1 ht).1
  have htm : t ∈ ts := List.mem_of_getElem? ht
  by_cases h1 : t.kind = 1
  · exact inner_name num R a c ts f k d asked t w hw hk hl h1
  · by_cases h2 : t.kind = 2
    · exact inner_num num R a c ts f hN k d asked t (hts t htm) w hw hk hl h2
    · by_cases h3 : t.kind = 3
      · exact inner_char num R a c ts f k d asked t w hw hk hl h3
      · by_cases hq : ((signAt ts k).toList == [40]) = true
        · exact inner_paren num R a c ts f hC k d asked t w hw hk hl hd h1 h2 h3 hE hq
        · have hq' : ((signAt ts k).toList == [40]) = false := by simpa using hq
          by_cases hqu : ((signAt ts k).toList == [45] || (signAt ts k).toList == [43] || (signAt ts k).toList == [126] || (signAt ts k).toList == [33]) = true
          · exact inner_unary num R a c ts f hO k d asked t w hw hk hl hd h1 h2 h3 hE hq' hqu
          · simp only [Bool.or_eq_true, not_or, Bool.not_eq_true] at hqu
            exact inner_bad num R a c ts f k d asked t w hw hk hl hd h1 h2 h3 hq' hqu.1.1.1 hqu.1.1.2 hqu.1.2 hqu.2
end Go.Proofs.YtienjifhkmekcaaDoor
namespace Go.Proofs.YtienjifhkmekcaaDoor
open Go.RowKit Go.Shelf

theorem reads_any (num : NumS) (hN : NumC num) (R : Nat) (a : Option Addr) (c : Nat) (ts : List Tk) (hl : ts.length ≤ 3000) (hts : ∀ t ∈ ts, t.text.size ≤ 3000) : ∀ f, ∀ g, g ≤ f → ChoiceC num R a c ts g ∧ BetweenC num R a c ts g ∧ OperandC num R a c ts g
  | 0 => fun g hg => by
    obtain rfl : g = 0 := by omega
    exact ⟨fun k d asked w _ _ _ hE => absurd rfl (hE k), fun level k d asked w _ _ _ _ hE => absurd rfl (hE k), fun k d asked w _ _ _ hE => absurd rfl (hE k)⟩
  | f + 1 => fun g hg => by
    have IH := reads_any num hN R a c ts hl hts f
    by_cases h : g ≤ f
    · exact IH g h
    · obtain rfl : g = f + 1 := by omega
      obtain ⟨h1, h2, h3⟩ := IH f (Nat.le_refl _)
      exact ⟨choice_step num R a c ts f hl h2 h1, between_step num R a c ts f hl h3 (fun g' hg' => (IH g' (by omega)).2.1), operand_step num R a c ts f hl (inner_step num hN R a c ts f hl hts h1 h3)⟩

/-- choice, at the whole's own number of steps. -/
theorem choice_any (num : NumS) (hN : NumC num) (R : Nat) (a : Option Addr) (c : Nat) (ts : List Tk) (hl : ts.length ≤ 3000) (hts : ∀ t ∈ ts, t.text.size ≤ 3000) (w : World) (h : CurAt w R a c ts 0 0) :
    Calls Tryd.prog 16 #[.pointer (some ⟨R, 0, none⟩), .bool true] w (RdOk R a c ts 0 w (rdF num ts (12 * ts.length + 40) 0 0 0 0 0 true)) := by
  have hF := eval_enough num ts
  refine (reads_any num hN R a c ts hl hts _ _ (Nat.le_refl _)).1 0 0 true w h (Nat.zero_le _) (by omega) (fun i hi => ?_)
  rw [hi] at hF
  exact hF.1 rfl
end Go.Proofs.YtienjifhkmekcaaDoor
