/- How the document's own resolves a tree, plain: it goes on where something is wrong; what it answers is what the program answers. -/
import Derived.Test.YtkfbhknhjpmomaaScTA
namespace Go.Proofs.Ytkfbhknhjpmomaa
/-- What is bound, or what is wrong first. -/
abbrev StR := Except (Int × Nat) (List (Nat × Nat))
def stopE (st : StR) (e : Int) (tk : Nat) : StR := match st with
  | .error y => .error y
  | .ok _ => .error (e, tk)
def putE (st : StR) (tk d : Nat) : StR := match st with
  | .error y => .error y
  | .ok b => .ok (b ++ [(tk, d)])
/-- All names, and those of this very scope. -/
abbrev Nm2 := Fr × Fr
section
variable (L : List Tk)
def useE (n : Nm2) (tk : Nat) (st : StR) : StR := match lookF n.1 (txtT L tk) with
  | some d => putE st tk d
  | none => stopE st 6 tk
def makeE (n : Nm2) (tk : Nat) (st : StR) : Nm2 × StR := match lookF n.2 (txtT L tk) with
  | some _ => (n, stopE st 7 tk)
  | none => (((txtT L tk, tk) :: n.1, (txtT L tk, tk) :: n.2), putE st tk tk)
mutual
def rfN : Nd → Nm2 → StR → Nm2 × StR
  | .mk kd tk ks, n, st =>
    if kd = 16 then (n, if baseW (txtT L tk.toNat) = true then st else useE L n tk.toNat st)
    else if kd = 10 then (n, useE L n tk.toNat st)
    else if kd = 4 then rfL ks (makeE L n tk.toNat st).1 (makeE L n tk.toNat st).2
    else if kd = 3 then rfF ks n st
    else if kd = 5 then (n, (rfL ks (n.1, []) st).2)
    else rfL ks n st
def rfL : List Nd → Nm2 → StR → Nm2 × StR
  | [], n, st => (n, st)
  | x :: r, n, st => rfL r (rfN x n st).1 (rfN x n st).2
def rfF : List Nd → Nm2 → StR → Nm2 × StR
  | t :: .mk _ tk _ :: r, n, st => ((makeE L n tk.toNat (rfN t n st).2).1, rfP r ((makeE L n tk.toNat (rfN t n st).2).1.1, []) (makeE L n tk.toNat (rfN t n st).2).2)
  | _, n, st => (n, st)
def rfP : List Nd → Nm2 → StR → StR
  | [], _, st => st
  | x :: r, n, st => if r.isEmpty = true then rfB x n st else rfP r (rfN x n st).1 (rfN x n st).2
def rfB : Nd → Nm2 → StR → StR
  | .mk _ _ ks, n, st => (rfL ks n st).2
end
/-- All of a tree. -/
def resF (n : Nd) : StR := (rfN L n ([], []) (.ok [])).2
end
theorem rfL_nil (L : List Tk) (n : Nm2) (st : StR) : rfL L [] n st = (n, st) := by rw [rfL]
theorem rfL_cons (L : List Tk) (x : Nd) (r : List Nd) (n : Nm2) (st : StR) : rfL L (x :: r) n st = rfL L r (rfN L x n st).1 (rfN L x n st).2 := by rw [rfL]
theorem rfN_mk (L : List Tk) (kd tk : Int) (ks : List Nd) (n : Nm2) (st : StR) : rfN L (.mk kd tk ks) n st =
    if kd = 16 then (n, if baseW (txtT L tk.toNat) = true then st else useE L n tk.toNat st)
    else if kd = 10 then (n, useE L n tk.toNat st)
    else if kd = 4 then rfL L ks (makeE L n tk.toNat st).1 (makeE L n tk.toNat st).2
    else if kd = 3 then rfF L ks n st
    else if kd = 5 then (n, (rfL L ks (n.1, []) st).2)
    else rfL L ks n st := by rw [rfN]
theorem rfF_two (L : List Tk) (t : Nd) (k tk : Int) (s r : List Nd) (n : Nm2) (st : StR) : rfF L (t :: .mk k tk s :: r) n st = ((makeE L n tk.toNat (rfN L t n st).2).1, rfP L r ((makeE L n tk.toNat (rfN L t n st).2).1.1, []) (makeE L n tk.toNat (rfN L t n st).2).2) := by rw [rfF]
theorem rfP_cons (L : List Tk) (x : Nd) (r : List Nd) (n : Nm2) (st : StR) : rfP L (x :: r) n st = if r.isEmpty = true then rfB L x n st else rfP L r (rfN L x n st).1 (rfN L x n st).2 := by rw [rfP]
theorem rfB_mk (L : List Tk) (kd tk : Int) (ks : List Nd) (n : Nm2) (st : StR) : rfB L (.mk kd tk ks) n st = (rfL L ks n st).2 := by rw [rfB]
/-- The kids ahead of the last one, and that one. -/
theorem rfP_snoc (L : List Tk) : ∀ (ps : List Nd) (b : Nd) (n : Nm2) (st : StR), rfP L (ps ++ [b]) n st = rfB L b (rfL L ps n st).1 (rfL L ps n st).2
  | [], b, n, st => by
    rw [List.nil_append, rfP_cons, rfL_nil, if_pos (by rfl)]
  | x :: ps, b, n, st => by
    rw [List.cons_append, rfP_cons, rfL_cons, if_neg (by simp)]
    exact rfP_snoc L ps b _ _
section
variable {L : List Tk}
theorem rfL_app : ∀ (a b : List Nd) (n : Nm2) (st : StR), rfL L (a ++ b) n st = rfL L b (rfL L a n st).1 (rfL L a n st).2
  | [], b, n, st => by rw [List.nil_append, rfL_nil]
  | x :: a, b, n, st => by rw [List.cons_append, rfL_cons, rfL_cons, rfL_app a b]
theorem use_err (n : Nm2) (tk : Nat) (y : Int × Nat) : useE L n tk (.error y) = .error y := by
  unfold useE
  split <;> rfl
theorem make_err (n : Nm2) (tk : Nat) (y : Int × Nat) : (makeE L n tk (.error y)).2 = .error y := by
  unfold makeE
  split <;> rfl
theorem rf_err (y : Int × Nat) : ∀ z : Nat, (∀ (x : Nd), zN x ≤ z → ∀ n, (rfN L x n (.error y)).2 = .error y) ∧ (∀ (ks : List Nd), zL ks ≤ z → ∀ n, (rfL L ks n (.error y)).2 = .error y)
  | 0 => by
    refine ⟨fun n hz => ?_, fun ks hz n => ?_⟩
    · have := zN_pos n; omega
    · cases ks with
      | nil => rw [rfL_nil]
      | cons n r => rw [zL_cons] at hz; have := zN_pos n; omega
  | z + 1 => by
    obtain ⟨hN, hK⟩ := rf_err y z
    have hN1 : ∀ (x : Nd), zN x ≤ z + 1 → ∀ n, (rfN L x n (.error y)).2 = .error y := by
      rintro ⟨kd, tk, ks⟩ hz n
      rw [zN_mk] at hz
      rw [rfN_mk]
      split
      · dsimp only
        split
        · rfl
        · exact use_err _ _ _
      · split
        · exact use_err _ _ _
        · split
          · rw [make_err]
            exact hK ks (by omega) _
          · split
            · match ks, hz with
              | [], _ => rw [rfF]; all_goals (intros; simp_all)
              | [t], _ => rw [rfF]; all_goals (intros; simp_all)
              | t :: .mk k1 t1 s1 :: r, hz =>
                rw [zL_cons, zL_cons] at hz
                rw [rfF_two, hN t (by omega), make_err]
                dsimp only
                have hp : ∀ (r : List Nd), zL r ≤ z → ∀ n, rfP L r n (.error y) = .error y := by
                  intro r
                  induction r with
                  | nil => intro hz n; rw [rfP]
                  | cons x r ih =>
                    intro hz n
                    rw [zL_cons] at hz
                    rw [rfP_cons]
                    split
                    · obtain ⟨kd, tk, ks⟩ := x
                      rw [rfB_mk]
                      rw [zN_mk] at hz
                      exact hK ks (by omega) n
                    · rw [hN x (by omega)]
                      exact ih (by omega) _
                exact hp r (by omega) _
            · split
              · exact hK ks (by omega) _
              · exact hK ks (by omega) _
    refine ⟨hN1, fun ks hz n => ?_⟩
    cases ks with
    | nil => rw [rfL_nil]
    | cons x r =>
      rw [zL_cons] at hz
      have := zN_pos x
      rw [rfL_cons, hN1 x (by omega)]
      exact hK r (by omega) _
theorem rfL_err (y : Int × Nat) (ks : List Nd) (n : Nm2) : (rfL L ks n (.error y)).2 = .error y := (rf_err (L := L) y (zL ks)).2 ks (Nat.le_refl _) n
theorem rfP_err (y : Int × Nat) : ∀ (r : List Nd) (n : Nm2), rfP L r n (.error y) = .error y
  | [], n => by rw [rfP]
  | x :: r, n => by
    rw [rfP_cons]
    split
    · obtain ⟨kd, tk, ks⟩ := x
      rw [rfB_mk]
      exact rfL_err y ks n
    · rw [(rf_err (L := L) y (zN x)).1 x (Nat.le_refl _)]
      exact rfP_err y r _
/-- Names as the frames have them. -/
def AllIs (A : Fr) (fs : List Fr) : Prop := ∀ s, lookF A s = findS fs s
/-- What is answered is so. -/
def RelR (fs : List Fr) (b0 : List (Nat × Nat)) (R : GotB) (x : Nm2 × StR) : Prop := match R with
  | .ok (I', b) => ∃ A', x = ((A', I'), .ok (b0 ++ b)) ∧ AllIs A' (I' :: fs)
  | .error y => x.2 = .error y
theorem AllIs.more {A I : Fr} {fs : List Fr} (h : AllIs A (I :: fs)) (p : List UInt8 × Nat) : AllIs (p :: A) ((p :: I) :: fs) := by
  intro s
  unfold lookF findS
  have h1 := h s
  unfold findS at h1
  by_cases e : p.1 = s
  · rw [if_pos e]
    unfold lookF
    rw [if_pos e]
  · rw [if_neg e, h1]
    conv => rhs; unfold lookF; rw [if_neg e]
theorem AllIs.inner {A : Fr} {fs : List Fr} (h : AllIs A fs) : AllIs A ([] :: fs) := by
  intro s
  rw [h s]
  conv => rhs; unfold findS; unfold lookF
/-- One step after another one. -/
theorem RelR.then {fs : List Fr} {b0 : List (Nat × Nat)} {R : GotB} {g : Fr → GotB} {x : Nm2 × StR} {h : Nm2 → StR → Nm2 × StR} (h1 : RelR fs b0 R x) (h2 : ∀ A I b, AllIs A (I :: fs) → RelR fs b (g I) (h (A, I) (.ok b))) (h3 : ∀ n y, (h n (.error y)).2 = .error y) : RelR fs b0 (thenR R g) (h x.1 x.2) := by
  rcases R with y | ⟨I', b⟩
  · have h1 : x.2 = .error y := h1
    show (h x.1 x.2).2 = .error y
    rw [h1]
    exact h3 _ _
  · obtain ⟨A', rfl, hA⟩ := h1
    have h4 := h2 A' I' (b0 ++ b) hA
    dsimp only
    simp only [thenR]
    rcases hg : g I' with y | ⟨I2, b2⟩
    · rw [hg] at h4
      exact h4
    · rw [hg] at h4
      obtain ⟨A2, e, hA2⟩ := h4
      exact ⟨A2, by rw [e, List.append_assoc], hA2⟩
theorem RelR.nil {A I : Fr} {fs : List Fr} (h : AllIs A (I :: fs)) (b0 : List (Nat × Nat)) : RelR fs b0 (.ok (I, [])) ((A, I), .ok b0) := ⟨A, by rw [List.append_nil], h⟩
theorem RelR.use {A I : Fr} {fs : List Fr} (h : AllIs A (I :: fs)) (b0 : List (Nat × Nat)) (tk : Nat) : RelR fs b0 (usR L tk I fs) ((A, I), useE L (A, I) tk (.ok b0)) := by
  unfold usR useE
  dsimp only
  rw [h (txtT L tk)]
  cases findS (I :: fs) (txtT L tk) with
  | none => exact rfl
  | some d => exact ⟨A, rfl, h⟩
theorem RelR.made {A I : Fr} {fs : List Fr} (h : AllIs A (I :: fs)) (b0 : List (Nat × Nat)) (tk : Nat) : RelR fs b0 (mkR L tk I) (makeE L (A, I) tk (.ok b0)) := by
  unfold mkR makeE
  dsimp only
  cases lookF I (txtT L tk) with
  | some d => exact rfl
  | none => exact ⟨_, rfl, h.more _⟩
theorem RelR.keep {A I : Fr} {fs : List Fr} (h : AllIs A (I :: fs)) {b0 : List (Nat × Nat)} {R : GotB} {x : Nm2 × StR} (h1 : RelR (I :: fs) b0 R x) : RelR fs b0 (keepF I R) ((A, I), x.2) := by
  rcases R with y | ⟨I', b⟩
  · exact h1
  · obtain ⟨A', rfl, _⟩ := h1
    exact ⟨A, rfl, h⟩
theorem rf_rel : ∀ z : Nat, (∀ (x : Nd), zN x ≤ z → L.length ∉ mtN L x → ∀ A I fs b0, AllIs A (I :: fs) → RelR fs b0 (rsN L x I fs) (rfN L x (A, I) (.ok b0))) ∧ (∀ (ks : List Nd), zL ks ≤ z → L.length ∉ mtL L ks → ∀ A I fs b0, AllIs A (I :: fs) → RelR fs b0 (rsL L ks I fs) (rfL L ks (A, I) (.ok b0)))
  | 0 => by
    refine ⟨fun n hz => ?_, fun ks hz => ?_⟩
    · have := zN_pos n; omega
    · cases ks with
      | nil => intro _ A I fs b0 h; rw [rsL_nil, rfL_nil]; exact RelR.nil h b0
      | cons n r => rw [zL_cons] at hz; have := zN_pos n; omega
  | z + 1 => by
    obtain ⟨hN, hK⟩ := rf_rel z
    have hN1 : ∀ (x : Nd), zN x ≤ z + 1 → L.length ∉ mtN L x → ∀ A I fs b0, AllIs A (I :: fs) → RelR fs b0 (rsN L x I fs) (rfN L x (A, I) (.ok b0)) := by
      rintro ⟨kd, tk, ks⟩ hz hl A I fs b0 h
      rw [zN_mk] at hz
      rw [mtN_mk] at hl
      obtain ⟨hl1, hl2⟩ := zero_mem hl rfl
      have hks := fun A I fs b0 h => hK ks (by omega) hl2 A I fs b0 h
      rw [rsN_mk, rfN_mk]
      unfold hdT at hl1
      by_cases h4 : kd = 4
      · rw [if_pos h4, if_neg (show ¬ kd = 16 by omega), if_neg (show ¬ kd = 10 by omega), if_pos h4]
        exact (RelR.made h b0 _).then (h := fun n st => rfL L ks n st) (fun A I b h => hks A I fs b h) (fun n y => rfL_err y ks n)
      rw [if_neg h4]
      by_cases h10 : kd = 10
      · rw [if_pos (.inr h10)] at hl1
        rw [if_pos h10, if_neg (show ¬ kd = 16 by omega), if_pos h10]
        have h0 : ks = [] := by
          apply Classical.byContradiction
          intro hn
          rw [if_neg (fun h => by rcases h.2 with h | h; exact h4 h; exact hn h)] at hl1
          exact hl1 (by simp)
        subst h0
        simp only [rsL_nil]
        rw [thenR_ok]
        exact RelR.use h b0 _
      rw [if_neg h10]
      rw [if_neg (by omega)] at hl1
      by_cases h16 : kd = 16
      · rw [if_pos h16, if_pos h16]
        rw [if_pos h16] at hl1
        by_cases h0 : tk < 0 ∨ ks.isEmpty = false
        · rw [if_pos h0] at hl1
          exact absurd (by simp) hl1
        have hke : ks = [] := by
          cases ks with
          | nil => rfl
          | cons => exact absurd (.inr rfl) h0
        subst hke
        rw [if_neg h0] at hl1
        simp only [rsL_nil]
        cases hb : baseW (txtT L tk.toNat) with
        | true =>
          rw [if_pos rfl, if_pos (base_key hb)]
          exact RelR.nil h b0
        | false =>
          rw [hb, if_neg (by decide)] at hl1
          rw [if_neg (show ¬ (false = true) by decide)]
          cases hk : keyW (txtT L tk.toNat) with
          | true => rw [hk, if_pos rfl] at hl1; exact absurd (by simp) hl1
          | false =>
            rw [if_neg (show ¬ (false = true) by decide), thenR_ok]
            exact RelR.use h b0 _
      rw [if_neg h16, if_neg h16, if_neg h10, if_neg h4]
      rw [if_neg h16] at hl1
      by_cases h3 : kd = 3
      · rw [if_pos h3, if_pos h3]
        have hf : funOk ks = true := by
          cases hf : funOk ks with
          | true => rfl
          | false => rw [if_pos ⟨h3, hf⟩] at hl1; exact absurd (by simp) hl1
        obtain ⟨t0, t1, r, rfl, hr⟩ := fun_is hf
        rw [rsF_two, rfF_two]
        rw [zL_cons, zL_cons] at hz
        rw [mtL_cons, mtL_cons] at hl2
        obtain ⟨g1, g2⟩ := zero_mem hl2 rfl
        obtain ⟨g2, g3⟩ := zero_mem g2 rfl
        have ht := hN (.mk 16 t0 []) (by omega) g1 A I fs b0 h
        have ht1 : (rfN L (.mk 16 t0 []) (A, I) (.ok b0)).1 = (A, I) := by rw [rfN_mk, if_pos rfl]
        have hm : ∀ f', rsN L (.mk 4 t1 []) f' fs = mkR L t1.toNat f' := fun f' => by
          rw [rsN_mk, if_pos rfl]
          simp only [rsL_nil]
          rw [thenR_ok]
        simp only [hm]
        have hp : ∀ (r : List Nd), lastOk r = true → zL r ≤ z → L.length ∉ mtL L r → ∀ A I fs b0, AllIs A (I :: fs) → ∃ A' I', RelR fs b0 (rsP L r I fs) ((A', I'), rfP L r (A, I) (.ok b0)) := by
          intro r
          induction r with
          | nil => intro h; cases h
          | cons x r ih =>
            intro hr hz hl A I fs b0 h
            rw [zL_cons] at hz
            rw [mtL_cons] at hl
            obtain ⟨g1, g2⟩ := zero_mem hl rfl
            rw [rsP_cons, rfP_cons]
            unfold lastOk at hr
            split at hr
            · rename_i he
              rw [if_pos he, if_pos he]
              have hr := of_decide_eq_true hr
              obtain ⟨kd, tk, ks⟩ := x
              have hr : kd = 5 := hr
              subst hr
              rw [rsB_mk, rfB_mk]
              rw [mt_ok L (by unfold okK; omega)] at g1
              rw [zN_mk] at hz
              exact ⟨(rfL L ks (A, I) (.ok b0)).1.1, (rfL L ks (A, I) (.ok b0)).1.2, hK ks (by omega) g1 A I fs b0 h⟩
            · rename_i he
              rw [if_neg he, if_neg he]
              have h1 := hN x (by omega) g1 A I fs b0 h
              rcases hx : rsN L x I fs with y | ⟨I1, b1⟩
              · rw [hx] at h1
                have h1 : (rfN L x (A, I) (.ok b0)).2 = .error y := h1
                refine ⟨A, I, ?_⟩
                show rfP L r _ _ = .error y
                rw [h1]
                exact rfP_err y r _
              · rw [hx] at h1
                obtain ⟨A1, e1, hA1⟩ := h1
                rw [e1]
                dsimp only
                obtain ⟨A2, I2, h2⟩ := ih hr (by omega) g2 A1 I1 fs (b0 ++ b1) hA1
                refine ⟨A2, I2, ?_⟩
                simp only [thenR]
                rcases hg : rsP L r I1 fs with y | ⟨I3, b3⟩
                · rw [hg] at h2
                  exact h2
                · rw [hg] at h2
                  obtain ⟨A3, e3, h3⟩ := h2
                  exact ⟨A3, by rw [e3, List.append_assoc], h3⟩
        rcases hx : rsN L (.mk 16 t0 []) I fs with y | ⟨I1, b1⟩
        · rw [hx] at ht
          have ht : (rfN L (.mk 16 t0 []) (A, I) (.ok b0)).2 = .error y := ht
          show (rfP L r _ _) = .error y
          rw [ht, make_err]
          exact rfP_err y r _
        · rw [hx] at ht
          obtain ⟨A1, e1, hA1⟩ := ht
          rw [e1] at ht1 ⊢
          dsimp only at ht1 ⊢
          cases ht1
          have hmk := RelR.made (L := L) h (b0 ++ b1) t1.toNat
          rcases hq : mkR L t1.toNat I with y | ⟨I2, b2⟩
          · rw [hq] at hmk
            have hmk : (makeE L (A, I) t1.toNat (.ok (b0 ++ b1))).2 = .error y := hmk
            simp only [thenR]
            rw [hq]
            show rfP L r _ _ = .error y
            rw [hmk]
            exact rfP_err y r _
          · rw [hq] at hmk
            obtain ⟨A2, e2, hA2⟩ := hmk
            simp only [thenR]
            rw [hq, e2]
            dsimp only
            obtain ⟨A3, I3, h4⟩ := hp r hr (by omega) g3 A2 [] (I2 :: fs) (b0 ++ b1 ++ b2) hA2.inner
            have h5 := RelR.keep hA2 h4
            rcases hz2 : keepF I2 (rsP L r [] (I2 :: fs)) with y | ⟨I4, b4⟩
            · rw [hz2] at h5
              exact h5
            · rw [hz2] at h5
              obtain ⟨A5, e5, h6⟩ := h5
              exact ⟨A5, by rw [e5]; simp [List.append_assoc], h6⟩
      rw [if_neg h3, if_neg h3]
      by_cases h5 : kd = 5
      · rw [if_pos h5, if_pos h5]
        exact RelR.keep h (hks A [] (I :: fs) b0 h.inner)
      · rw [if_neg h5, if_neg h5]
        exact hks A I fs b0 h
    refine ⟨hN1, fun ks hz hl A I fs b0 h => ?_⟩
    cases ks with
    | nil => rw [rsL_nil, rfL_nil]; exact RelR.nil h b0
    | cons x r =>
      rw [zL_cons] at hz
      have := zN_pos x
      rw [mtL_cons] at hl
      obtain ⟨g1, g2⟩ := zero_mem hl rfl
      rw [rsL_cons, rfL_cons]
      exact (hN1 x (by omega) g1 A I fs b0 h).then (h := fun n st => rfL L r n st) (fun A I b h => hK r (by omega) g2 A I fs b h) (fun n y => rfL_err y r n)
theorem resF_eq {n : Nd} (hc : Cv L 0 L.length (mtN L n)) : resF L n = resR L n := by
  have hl : L.length ∉ mtN L n := fun hm => by have := (hc.2.1 _ hm).2.1; omega
  have h := (rf_rel (L := L) (zN n)).1 n (Nat.le_refl _) hl [] [] [] [] (fun s => rfl)
  unfold resF resR
  rcases hx : rsN L n [] [] with y | ⟨I, b⟩
  · rw [hx] at h
    exact h
  · rw [hx] at h
    obtain ⟨A, e, _⟩ := h
    rw [e]
    rfl
/-- How many names there are more. -/
theorem rf_len : ∀ z : Nat, (∀ (x : Nd), zN x ≤ z → ∀ n st, (rfN L x n st).1.1.length ≤ n.1.length + zN x ∧ (rfN L x n st).1.2.length ≤ n.2.length + zN x) ∧ (∀ (ks : List Nd), zL ks ≤ z → ∀ n st, (rfL L ks n st).1.1.length ≤ n.1.length + zL ks ∧ (rfL L ks n st).1.2.length ≤ n.2.length + zL ks)
  | 0 => by
    refine ⟨fun n hz => ?_, fun ks hz n st => ?_⟩
    · have := zN_pos n; omega
    · cases ks with
      | nil => rw [rfL_nil]; exact ⟨Nat.le_add_right _ _, Nat.le_add_right _ _⟩
      | cons n r => rw [zL_cons] at hz; have := zN_pos n; omega
  | z + 1 => by
    obtain ⟨hN, hK⟩ := rf_len z
    have hm : ∀ (n : Nm2) tk st, (makeE L n tk st).1.1.length ≤ n.1.length + 1 ∧ (makeE L n tk st).1.2.length ≤ n.2.length + 1 := fun n tk st => by
      unfold makeE
      split
      · exact ⟨Nat.le_succ _, Nat.le_succ _⟩
      · exact ⟨Nat.le_refl _, Nat.le_refl _⟩
    have hN1 : ∀ (x : Nd), zN x ≤ z + 1 → ∀ n st, (rfN L x n st).1.1.length ≤ n.1.length + zN x ∧ (rfN L x n st).1.2.length ≤ n.2.length + zN x := by
      rintro ⟨kd, tk, ks⟩ hz n st
      rw [zN_mk] at hz ⊢
      rw [rfN_mk]
      split
      · exact ⟨Nat.le_add_right _ _, Nat.le_add_right _ _⟩
      · split
        · exact ⟨Nat.le_add_right _ _, Nat.le_add_right _ _⟩
        · split
          · have h1 := hK ks (by omega) (makeE L n tk.toNat st).1 (makeE L n tk.toNat st).2
            have h2 := hm n tk.toNat st
            omega
          · split
            · match ks, hz with
              | [], _ => rw [rfF]; exact ⟨Nat.le_add_right _ _, Nat.le_add_right _ _⟩; all_goals (intros; simp_all)
              | [t], _ => rw [rfF]; exact ⟨Nat.le_add_right _ _, Nat.le_add_right _ _⟩; all_goals (intros; simp_all)
              | t :: .mk k1 t1 s1 :: r, hz =>
                rw [rfF_two]
                have h2 := hm n t1.toNat (rfN L t n st).2
                dsimp only
                omega
            · split
              · exact ⟨Nat.le_add_right _ _, Nat.le_add_right _ _⟩
              · have h1 := hK ks (by omega) n st
                omega
    refine ⟨hN1, fun ks hz n st => ?_⟩
    cases ks with
    | nil => rw [rfL_nil]; exact ⟨Nat.le_add_right _ _, Nat.le_add_right _ _⟩
    | cons x r =>
      rw [zL_cons] at hz ⊢
      have := zN_pos x
      rw [rfL_cons]
      have h1 := hN1 x (by omega) n st
      have h2 := hK r (by omega) (rfN L x n st).1 (rfN L x n st).2
      omega
theorem rfN_len (x : Nd) (n : Nm2) (st : StR) : (rfN L x n st).1.1.length ≤ n.1.length + zN x ∧ (rfN L x n st).1.2.length ≤ n.2.length + zN x := (rf_len (L := L) (zN x)).1 x (Nat.le_refl _) n st
theorem rfL_len (ks : List Nd) (n : Nm2) (st : StR) : (rfL L ks n st).1.1.length ≤ n.1.length + zL ks ∧ (rfL L ks n st).1.2.length ≤ n.2.length + zL ks := (rf_len (L := L) (zL ks)).2 ks (Nat.le_refl _) n st
end
end Go.Proofs.Ytkfbhknhjpmomaa
