/- Each token that is wanted is one node's, no token two nodes': expressions. · Each token that is wanted is one node's, no token two nodes': declarations, statements, all of it. · Names begin with a letter: the tokens of a text. · What is wrong has a number that is not 0. -/
import Derived.Test.YtocklchafmlfkaaTgD
import Derived.Test.YtocklchafmlfkaaTgE
import Derived.Test.YtocklchafmlfkaaLxSmall
import Derived.Test.YtocklchafmlfkaaTgH
namespace Go.Proofs.Ytocklchafmlfkaa
section
mutual
/-- How many nodes are of token t. -/
def cntN : Nd → Nat → Nat
  | .mk _ tok ks, t => (if tok = (t : Int) then 1 else 0) + cntL ks t
def cntL : List Nd → Nat → Nat
  | [], _ => 0
  | n :: ks, t => cntN n t + cntL ks t
end
theorem cntN_mk (k tok : Int) (ks : List Nd) (t : Nat) : cntN (.mk k tok ks) t = (if tok = (t : Int) then 1 else 0) + cntL ks t := by rw [cntN]
theorem cntL_nil (t : Nat) : cntL [] t = 0 := by rw [cntL]
theorem cntL_cons (n : Nd) (ks : List Nd) (t : Nat) : cntL (n :: ks) t = cntN n t + cntL ks t := by rw [cntL]
theorem cntL_app : ∀ (a b : List Nd) (t : Nat), cntL (a ++ b) t = cntL a t + cntL b t
  | [], b, t => by rw [List.nil_append, cntL_nil]; omega
  | n :: a, b, t => by rw [List.cons_append, cntL_cons, cntL_cons, cntL_app a b t]; omega
/-- What must be in a tree. -/
def wantT (L : List Tk) (t : Nat) : Bool := (kindT L t == 2) || (kindT L t == 3) || (kindT L t == 4) || nameT L t
/-- Names begin with a letter. -/
def Lets (L : List Tk) : Prop := ∀ t ∈ L, t.kind = 1 → ∃ c l, t.text.data.toList = c :: l ∧ letB c = true
/-- A word that is none of these. -/
def sgnW (s : List UInt8) : Bool := keyW s || match s with
  | [] => false
  | c :: _ => !letB c
theorem unwant {L : List Tk} {i : Nat} {s : List UInt8} (hL : Lets L) (h : wordT L i = s) (hs : sgnW s = true) : wantT L i = false := by
  unfold wordT at h
  unfold wantT kindT nameT
  cases hi : L[i]? with
  | none => rfl
  | some t =>
    rw [hi] at h
    dsimp only at h ⊢
    by_cases hk : t.kind = 1 ∨ t.kind = 5
    · rw [if_pos hk] at h
      rcases hk with hk | hk
      · rw [hk]
        simp only [Int.reduceBEq, Bool.false_or, decide_true, Bool.true_and]
        rw [h]
        unfold sgnW at hs
        cases hw : keyW s with
        | true => rfl
        | false =>
          rw [hw] at hs
          obtain ⟨c, l, e1, e2⟩ := hL t (List.mem_of_getElem? hi) hk
          rw [h] at e1
          subst e1
          simp [e2] at hs
      · rw [hk]
        simp
    · rw [if_neg hk] at h
      subst h
      simp [sgnW, keyW] at hs
/-- The tokens from i to j are told by c: each wanted one once, no one twice. -/
def Cov (L : List Tk) (i j : Nat) (c : Nat → Nat) : Prop := (i ≤ j ∧ (i ≤ L.length → j ≤ L.length)) ∧ ∀ t, (t < i ∨ j ≤ t → c t = 0) ∧ (i ≤ t → t < j → c t ≤ 1 ∧ (wantT L t = true → c t = 1))
theorem Cov.nil (L : List Tk) (i : Nat) : Cov L i i (fun _ => 0) := ⟨⟨Nat.le_refl _, id⟩, fun t => ⟨fun _ => rfl, fun h1 h2 => by omega⟩⟩
theorem Cov.app {L : List Tk} {i j k : Nat} {a b : Nat → Nat} (h1 : Cov L i j a) (h2 : Cov L j k b) : Cov L i k (fun t => a t + b t) := by
  refine ⟨⟨Nat.le_trans h1.1.1 h2.1.1, fun h => h2.1.2 (h1.1.2 h)⟩, fun t => ?_⟩
  obtain ⟨p1, p2⟩ := h1.2 t
  obtain ⟨q1, q2⟩ := h2.2 t
  have l1 := h1.1.1
  have l2 := h2.1.1
  dsimp only
  constructor
  · intro h
    rw [p1 (by omega), q1 (by omega)]
  · intro h3 h4
    by_cases h : t < j
    · rw [q1 (.inl h)]
      exact p2 h3 h
    · rw [p1 (.inr (by omega)), Nat.zero_add]
      exact q2 (by omega) h4
theorem Cov.congr {L : List Tk} {i j : Nat} {a b : Nat → Nat} (h : Cov L i j a) (e : ∀ t, a t = b t) : Cov L i j b := by
  have : a = b := funext e
  rw [← this]
  exact h
theorem Cov.skip {L : List Tk} {i : Nat} (hi : i < L.length) (h : wantT L i = false) : Cov L i (i + 1) (fun _ => 0) := by
  refine ⟨⟨by omega, fun _ => hi⟩, fun t => ⟨fun _ => rfl, fun h1 h2 => ?_⟩⟩
  obtain rfl : t = i := by omega
  exact ⟨Nat.zero_le 1, fun e => by rw [h] at e; cases e⟩
theorem Cov.one {L : List Tk} {i : Nat} (hi : i < L.length) : Cov L i (i + 1) (fun t => if (i : Int) = (t : Int) then 1 else 0) := by
  refine ⟨⟨by omega, fun _ => hi⟩, fun t => ⟨fun h => ?_, fun h1 h2 => ?_⟩⟩
  · exact if_neg (by omega)
  · obtain rfl : t = i := by omega
    simp
theorem Cov.leaf {L : List Tk} (k : Int) {i : Nat} (hi : i < L.length) : Cov L i (i + 1) (cntN (.mk k (i : Int) [])) := (Cov.one hi).congr fun t => by rw [cntN_mk, cntL_nil]; omega
theorem Cov.none1 {L : List Tk} {i j : Nat} (k : Int) {ks : List Nd} (h : Cov L i j (cntL ks)) : Cov L i j (cntN (.mk k (-1) ks)) := h.congr fun t => by rw [cntN_mk, if_neg (by omega)]; omega
theorem Cov.skipW {L : List Tk} (hL : Lets L) {i : Nat} {s : List UInt8} (h : wordT L i = s) (hs : sgnW s = true) : Cov L i (i + 1) (fun _ => 0) :=
  Cov.skip (word_lt h (fun e => by rw [e] at hs; simp [sgnW, keyW] at hs)) (unwant hL h hs)
/-- What the modes tell. -/
def CovM (L : List Tk) (m i j : Nat) (n : Nd) (ks : List Nd) (n' : Nd) (ks' : List Nd) : Prop := match m with
  | 0 => Cov L i j (cntN n')
  | 1 => ∀ i0, Cov L i0 i (cntN n) → Cov L i0 j (cntN n')
  | 2 => Cov L i j (cntN n')
  | 3 => ∀ i0, Cov L i0 i (cntN n) → Cov L i0 j (cntN n')
  | 4 => Cov L i j (cntL ks')
  | _ => ∀ i0, Cov L i0 i (cntL ks) → Cov L i0 j (cntL ks')
theorem ne_ite {p : Prop} [Decidable p] {a b : Nat} (h : (if p then a else b) ≠ 0) : p ∨ b ≠ 0 := by
  by_cases hp : p
  · exact .inl hp
  · rw [if_neg hp] at h
    exact .inr h
theorem sgn_level {s : List UInt8} (h : levelW s ≠ 0) : sgnW s = true := by
  have hx : ∀ {x : List UInt8}, sgnW x = true → s = x → sgnW s = true := fun h e => e ▸ h
  unfold levelW at h
  rcases ne_ite h with e | h
  · exact hx (by decide) e
  rcases ne_ite h with e | h
  · rcases e with e | e | e | e | e | e | e | e | e | e | e <;> exact hx (by decide) e
  rcases ne_ite h with e | h
  · exact hx (by decide) e
  rcases ne_ite h with e | h
  · exact hx (by decide) e
  rcases ne_ite h with e | h
  · exact hx (by decide) e
  rcases ne_ite h with e | h
  · exact hx (by decide) e
  rcases ne_ite h with e | h
  · exact hx (by decide) e
  rcases ne_ite h with e | h
  · rcases e with e | e <;> exact hx (by decide) e
  rcases ne_ite h with e | h
  · rcases e with e | e | e | e <;> exact hx (by decide) e
  rcases ne_ite h with e | h
  · rcases e with e | e <;> exact hx (by decide) e
  rcases ne_ite h with e | h
  · rcases e with e | e <;> exact hx (by decide) e
  rcases ne_ite h with e | h
  · rcases e with e | e | e <;> exact hx (by decide) e
  exact absurd rfl h
theorem ex_cov (L : List Tk) (hL : Lets L) : ∀ (f m l d i : Nat) (n : Nd) (ks : List Nd) (n' : Nd) (ks' : List Nd) (j : Nat), 1 ≤ l ∨ m ≠ 0 ∧ m ≠ 1 → exF L f m l d i n ks = some (.ok (n', ks', j)) → CovM L m i j n ks n' ks'
  | 0, m, l, d, i, n, ks, n', ks', j, hl, h => by unfold exF at h; cases h
  | f + 1, 0, l, d, i, n, ks, n', ks', j, hl, h => by
    rw [exF] at h
    split at h
    · cases h
    · split at h
      · cases h
      · cases h
      · rename_i m1 k1 j1 h1
        exact ex_cov L hL f 1 l _ _ _ _ _ _ _ (.inl (by omega)) h i (ex_cov L hL f 2 _ _ _ _ _ _ _ _ (.inr (by omega)) h1)
  | f + 1, 1, l, d, i, n, ks, n', ks', j, hl, h => by
    rw [exF] at h
    intro i0 h0
    split at h
    · cases h
      exact h0
    · rename_i hlv
      split at h
      · cases h
      · cases h
      · rename_i m1 k1 j1 h1
        have hil : i < L.length := word_lt (s := wordT L i) rfl (fun e => by rw [e] at hlv; exact hlv (by show (0 : Nat) < l; omega))
        have hr : 1 ≤ rightW (levelW (wordT L i)) := by unfold rightW; split <;> omega
        have c1 : Cov L (i + 1) j1 (cntN m1) := ex_cov L hL f 0 _ _ _ _ _ _ _ _ (.inl hr) h1
        refine ex_cov L hL f 1 l _ _ _ _ _ _ _ (.inl (by omega)) h i0 (((h0.app (Cov.one hil)).app c1).congr fun t => ?_)
        rw [cntN_mk, cntL_cons, cntL_cons, cntL_nil]
        omega
  | f + 1, 2, l, d, i, n, ks, n', ks', j, hl, h => by
    rw [exF] at h
    split at h
    · cases h
    · rename_i hst
      have hil := stop_lt hst
      split at h
      · rename_i hah
        split at h
        · cases h
        · cases h
        · rename_i m1 k1 j1 h1
          cases h
          refine ((Cov.one hil).app (ex_cov L hL f 2 _ _ _ _ _ _ _ _ (.inr (by omega)) h1 : Cov L (i + 1) _ (cntN m1))).congr fun t => ?_
          rw [cntN_mk, cntL_cons, cntL_nil]
          omega
      · split at h
        · rename_i hw
          split at h
          · cases h
          · cases h
          · rename_i m1 k1 j1 h1
            split at h
            · rename_i hw2
              have c0 := Cov.skipW hL hw rfl
              have c1 : Cov L (i + 1) j1 (cntN m1) := ex_cov L hL f 0 _ _ _ _ _ _ _ _ (.inl (by omega)) h1
              have c2 := Cov.skipW hL hw2 rfl
              exact ex_cov L hL f 3 _ _ _ _ _ _ _ _ (.inr (by omega)) h i (((c0.app c1).app c2).congr fun t => by omega)
            · cases h
        · split at h
          · exact ex_cov L hL f 3 _ _ _ _ _ _ _ _ (.inr (by omega)) h i (Cov.leaf 10 hil)
          · exact ex_cov L hL f 3 _ _ _ _ _ _ _ _ (.inr (by omega)) h i (Cov.leaf 11 hil)
  | f + 1, 3, l, d, i, n, ks, n', ks', j, hl, h => by
    rw [exF] at h
    intro i0 h0
    split at h
    · rename_i hw
      split at h
      · cases h
      · cases h
      · rename_i m1 k1 j1 h1
        have c0 := Cov.skipW hL hw rfl
        have c1 : Cov L (i + 1) j1 (cntL k1) := ex_cov L hL f 4 _ _ _ _ _ _ _ _ (.inr (by omega)) h1
        refine ex_cov L hL f 3 _ _ _ _ _ _ _ _ (.inr (by omega)) h i0 (Cov.none1 14 (((h0.app c0).app c1).congr fun t => ?_))
        rw [cntL_cons]
        omega
    · split at h
      · rename_i hw
        split at h
        · cases h
        · cases h
        · rename_i m1 k1 j1 h1
          split at h
          · rename_i hw2
            have c0 := Cov.skipW hL hw rfl
            have c1 : Cov L (i + 1) j1 (cntN m1) := ex_cov L hL f 0 _ _ _ _ _ _ _ _ (.inl (by omega)) h1
            have c2 := Cov.skipW hL hw2 rfl
            refine ex_cov L hL f 3 _ _ _ _ _ _ _ _ (.inr (by omega)) h i0 (Cov.none1 15 ((((h0.app c0).app c1).app c2).congr fun t => ?_))
            rw [cntL_cons, cntL_cons, cntL_nil]
            omega
          · cases h
      · cases h
        exact h0
  | f + 1, 4, l, d, i, n, ks, n', ks', j, hl, h => by
    rw [exF] at h
    split at h
    · rename_i hw
      cases h
      exact (Cov.skipW hL hw rfl).congr fun t => by rw [cntL_nil]
    · split at h
      · cases h
      · cases h
      · rename_i m1 k1 j1 h1
        have c1 : Cov L i j1 (cntN m1) := ex_cov L hL f 0 _ _ _ _ _ _ _ _ (.inl (by omega)) h1
        exact ex_cov L hL f 5 _ _ _ _ _ _ _ _ (.inr (by omega)) h i (c1.congr fun t => by rw [cntL_cons, cntL_nil]; omega)
  | f + 1, m + 5, l, d, i, n, ks, n', ks', j, hl, h => by
    rw [exF] at h
    show ∀ i0, Cov L i0 i (cntL ks) → Cov L i0 j (cntL ks')
    intro i0 h0
    split at h
    · rename_i hw
      split at h
      · cases h
      · cases h
      · rename_i m1 k1 j1 h1
        have c0 := Cov.skipW hL hw rfl
        have c1 : Cov L (i + 1) j1 (cntN m1) := ex_cov L hL f 0 _ _ _ _ _ _ _ _ (.inl (by omega)) h1
        refine ex_cov L hL f 5 _ _ _ _ _ _ _ _ (.inr (by omega)) h i0 (((h0.app c0).app c1).congr fun t => ?_)
        rw [cntL_app, cntL_cons, cntL_nil]
        omega
    · split at h
      · rename_i hw
        cases h
        exact (h0.app (Cov.skipW hL hw rfl)).congr fun t => by omega
      · cases h
    all_goals omega
theorem rdX_cov {L : List Tk} (hL : Lets L) {F l d i : Nat} (hl : 1 ≤ l) {m : Nd} {j : Nat} (h : rdX L F l d i = .ok (m, j)) : Cov L i j (cntN m) := by
  unfold rdX at h
  cases hx : exF L F 0 l d i (.mk 0 0 []) [] with
  | none => rw [hx] at h; cases h
  | some R =>
    rw [hx] at h
    cases R with
    | error y => cases h
    | ok y =>
      obtain ⟨n, ks, j⟩ := y
      cases h
      exact ex_cov L hL F 0 l d i _ _ _ _ _ (.inl hl) hx
end
section
theorem name_lt {L : List Tk} {i : Nat} (h : nameT L i = true) : i < L.length := by
  unfold nameT at h
  cases hi : L[i]? with
  | none => rw [hi] at h; cases h
  | some t => exact (List.getElem?_eq_some_iff.1 hi).1
theorem typ_lt {L : List Tk} {env : Env0} {i : Nat} (h : typT L env i = true) : i < L.length := by
  unfold typT at h
  rw [Bool.or_eq_true] at h
  rcases h with h | h
  · exact word_lt (s := wordT L i) rfl fun e => by rw [e] at h; cases h
  · rw [Bool.and_eq_true] at h
    exact name_lt h.1
section
theorem star_cov {L : List Tk} (hL : Lets L) : ∀ g i, Cov L i (starT L g i) (fun _ => 0)
  | 0, i => Cov.nil L i
  | g + 1, i => by
    rw [starT]
    split
    · rename_i hw
      exact ((Cov.skipW hL hw rfl).app (star_cov hL g (i + 1))).congr fun t => rfl
    · exact Cov.nil L i
theorem dcl_cov {L : List Tk} (hL : Lets L) {F : Nat} {a : Int} {d : Nat} {env : Env0} {i : Nat} {n : Nd} {j : Nat} {env' : Env0} (h : dclT L F a d env i = .ok (n, j, env')) : Cov L i j (cntN n) := by
  unfold dclT at h
  have c0 := star_cov hL L.length i
  generalize starT L L.length i = s at *
  split at h
  · rename_i hnm
    have hsl := name_lt hnm
    split at h
    · rename_i hw
      split at h
      · cases h
      · rename_i m k hrd
        split at h
        · rename_i hw2
          cases h
          have c1 := Cov.one hsl
          have c2 := Cov.skipW hL hw rfl
          have c3 := rdX_cov hL (by omega) hrd
          have c4 := Cov.skipW hL hw2 rfl
          refine ((((c0.app c1).app c2).app c3).app c4).congr fun t => ?_
          rw [cntN_mk, cntL_cons, cntL_nil]
          omega
        · cases h
    · cases h
      refine (c0.app (Cov.leaf 4 hsl)).congr fun t => ?_
      omega
  · cases h
theorem str_cov {L : List Tk} (hL : Lets L) {F : Nat} {a : Int} {d : Nat} {env : Env0} {n : Nd} {i : Nat} {n' : Nd} {j : Nat} {env' : Env0} (h : strT L F a d env n i = .ok (n', j, env')) (i0 : Nat) (h0 : Cov L i0 i (cntN n)) : Cov L i0 j (cntN n') := by
  unfold strT at h
  split at h
  · rename_i hw
    split at h
    · cases h
    · rename_i m k hrd
      cases h
      refine ((h0.app (Cov.skipW hL hw.2 rfl)).app (rdX_cov hL (by omega) hrd)).congr fun t => ?_
      obtain ⟨kd, tk, kk⟩ := n
      rw [cntN_mk, cntN_mk]
      show _ = (if tk = (t : Int) then 1 else 0) + cntL (kk ++ [m]) t
      rw [cntL_app, cntL_cons, cntL_nil]
      omega
  · cases h
    exact h0
theorem dlp_cov {L : List Tk} (hL : Lets L) {F : Nat} {a : Int} {d : Nat} : ∀ (f : Nat) {env : Env0} {ks : List Nd} {i : Nat} {n : Nd} {j : Nat} {env' : Env0}, dlpT L F a d f env ks i = .ok (n, j, env') → ∀ i0, Cov L i0 i (cntL ks) → Cov L i0 j (cntN n)
  | 0, env, ks, i, n, j, env', h, i0, h0 => by unfold dlpT at h; cases h
  | f + 1, env, ks, i, n, j, env', h, i0, h0 => by
    unfold dlpT at h
    split at h
    · rename_i hw
      split at h
      · cases h
      · rename_i n2 j2 env2 hd
        split at h
        · cases h
        · rename_i n3 j3 env3 hs
          refine dlp_cov hL f h i0 (((h0.app (Cov.skipW hL hw rfl)).app (str_cov hL hs _ (dcl_cov hL hd))).congr fun t => ?_)
          rw [cntL_app, cntL_cons, cntL_nil]
          omega
    · split at h
      · rename_i hw
        cases h
        exact Cov.none1 2 ((h0.app (Cov.skipW hL hw rfl)).congr fun t => by omega)
      · cases h
theorem ded_cov {L : List Tk} (hL : Lets L) {F : Nat} {a : Int} {d : Nat} {env : Env0} {kd nm : Nd} {i : Nat} {n : Nd} {j : Nat} {env' : Env0} (h : dedT L F a d env kd nm i = .ok (n, j, env')) (i0 i1 : Nat) (h0 : Cov L i0 i1 (cntN kd)) (h1 : Cov L i1 i (cntN nm)) : Cov L i0 j (cntN n) := by
  unfold dedT at h
  split at h
  · cases h
  · rename_i n1 j1 env1 hs
    refine dlp_cov hL _ h i0 ((h0.app (str_cov hL hs _ h1)).congr fun t => ?_)
    rw [cntL_cons, cntL_cons, cntL_nil]
    omega
theorem dct_cov {L : List Tk} (hL : Lets L) {F : Nat} {a : Int} {d : Nat} {env : Env0} {i : Nat} {n : Nd} {j : Nat} {env' : Env0} (h : dctT L F a d env i = .ok (n, j, env')) : Cov L i j (cntN n) := by
  unfold dctT at h
  split at h
  · rename_i hty
    have hil := typ_lt hty
    split at h
    · cases h
    · rename_i n1 k1 env1 hd
      exact ded_cov hL h i (i + 1) (Cov.leaf 16 hil) (dcl_cov hL hd)
  · cases h
theorem dco_cov {L : List Tk} (hL : Lets L) {F d : Nat} {env : Env0} {i : Nat} {n : Nd} {j : Nat} {env' : Env0} (h : dcoT L F d env i = .ok (n, j, env')) : Cov L i j (cntN n) := by
  unfold dcoT at h
  split at h
  · rename_i hw
    exact ((Cov.skipW hL hw rfl).app (dct_cov hL h)).congr fun t => by omega
  · exact dct_cov hL h
theorem pln_cov {L : List Tk} (hL : Lets L) {F : Nat} {k : Int} {d : Nat} {env : Env0} {i : Nat} {n : Nd} {j : Nat} {env' : Env0} (h : plnT L F k d env i = .ok (n, j, env')) : Cov L i j (cntN n) := by
  unfold plnT at h
  split at h
  · rename_i hw
    cases h
    exact Cov.none1 k ((Cov.skipW hL hw rfl).congr fun t => by rw [cntL_nil])
  · split at h
    · cases h
    · rename_i m k' hrd
      split at h
      · rename_i hw
        cases h
        refine Cov.none1 k (((rdX_cov hL (by omega) hrd).app (Cov.skipW hL hw rfl)).congr fun t => ?_)
        rw [cntL_cons, cntL_nil]
      · cases h
theorem par_cov {L : List Tk} (hL : Lets L) {F d : Nat} {env : Env0} {i : Nat} {n : Nd} {j : Nat} {env' : Env0} (h : parT L F d env i = .ok (n, j, env')) : Cov L i j (cntN n) := by
  unfold parT at h
  split at h
  · rename_i hty
    have hil := typ_lt hty
    split at h
    · cases h
    · rename_i n1 k1 env1 hd
      cases h
      refine Cov.none1 2 (((Cov.leaf 16 hil).app (dcl_cov hL hd)).congr fun t => ?_)
      rw [cntL_cons, cntL_cons, cntL_nil]
      omega
  · cases h
theorem lpl_cov {L : List Tk} (hL : Lets L) {F d : Nat} : ∀ (f : Nat) {env : Env0} {ks : List Nd} {i : Nat} {ks' : List Nd} {j : Nat} {env' : Env0}, lplT L F d f env ks i = .ok (ks', j, env') → ∀ i0, Cov L i0 i (cntL ks) → Cov L i0 j (cntL ks')
  | 0, env, ks, i, n, j, env', h, i0, h0 => by unfold lplT at h; cases h
  | f + 1, env, ks, i, n, j, env', h, i0, h0 => by
    unfold lplT at h
    split at h
    · rename_i hw
      split at h
      · cases h
      · rename_i n2 j2 env2 hd
        refine lpl_cov hL f h i0 (((h0.app (Cov.skipW hL hw rfl)).app (par_cov hL hd)).congr fun t => ?_)
        rw [cntL_app, cntL_cons, cntL_nil]
        omega
    · split at h
      · rename_i hw
        cases h
        exact (h0.app (Cov.skipW hL hw rfl)).congr fun t => by omega
      · cases h
theorem lps_cov {L : List Tk} (hL : Lets L) {F d : Nat} {env : Env0} {i : Nat} {ks : List Nd} {j : Nat} {env' : Env0} (h : lpsT L F d env i = .ok (ks, j, env')) : Cov L i j (cntL ks) := by
  unfold lpsT at h
  split at h
  · rename_i hw
    cases h
    exact (Cov.skipW hL hw rfl).congr fun t => by rw [cntL_nil]
  · split at h
    · cases h
    · rename_i n k env1 hp
      exact lpl_cov hL _ h i ((par_cov hL hp).congr fun t => by rw [cntL_cons, cntL_nil]; omega)

/-- What the modes tell. -/
def CovS (L : List Tk) (m i j : Nat) (ks : List Nd) (n : Nd) : Prop := match m with
  | 2 => ∀ i0, Cov L i0 i (cntL ks) → Cov L i0 j (cntN n)
  | 3 => Cov L i (i + 1) (fun _ => 0) → Cov L i j (cntN n)
  | _ => Cov L i j (cntN n)
theorem st_cov {L : List Tk} (hL : Lets L) {F : Nat} : ∀ (f m : Nat) (k : Int) (d : Nat) (env : Env0) (i : Nat) (ks : List Nd) (n : Nd) (j : Nat) (env' : Env0), stF L F f m k d env i ks = some (.ok (n, j, env')) → CovS L m i j ks n
  | 0, m, k, d, env, i, ks, n, j, env', h => by unfold stF at h; cases h
  | f + 1, 0, k, d, env, i, ks, n, j, env', h => by
    rw [stF] at h
    show Cov L i j (cntN n)
    split at h
    · cases h
    · split at h
      · split at h
        · cases h
        · cases h
        · rename_i n1 j1 env1 h1
          cases h
          exact st_cov hL f 1 _ _ _ _ _ _ _ _ h1
      · split at h
        · rename_i hif
          split at h
          · cases h
          · cases h
          · rename_i n1 j1 env1 h1
            have c1 : Cov L i j1 (cntN n1) := st_cov hL f 3 _ _ _ _ _ _ _ _ h1 (Cov.skipW hL hif rfl)
            split at h
            · rename_i hw
              split at h
              · cases h
              · cases h
              · rename_i n2 j2 env2 h4
                have c2 : Cov L (j1 + 1) j2 (cntN n2) := st_cov hL f 0 _ _ _ _ _ _ _ _ h4
                cases h
                refine ((c1.app (Cov.skipW hL hw rfl)).app c2).congr fun t => ?_
                obtain ⟨kd, tk, kk⟩ := n1
                rw [cntN_mk, cntN_mk]
                show _ = (if tk = (t : Int) then 1 else 0) + cntL (kk ++ [n2]) t
                rw [cntL_app, cntL_cons, cntL_nil]
                omega
            · cases h
              exact c1
        · split at h
          · rename_i hwh
            exact st_cov hL f 3 _ _ _ _ _ _ _ _ h (Cov.skipW hL hwh rfl)
          · split at h
            · rename_i hw
              injection h with h
              exact ((Cov.skipW hL hw rfl).app (pln_cov hL h)).congr fun t => by omega
            · split at h
              · injection h with h
                exact dco_cov hL h
              · injection h with h
                exact pln_cov hL h
  | f + 1, 1, k, d, env, i, ks, n, j, env', h => by
    rw [stF] at h
    show Cov L i j (cntN n)
    split at h
    · rename_i hw
      split at h
      · cases h
      · have c2 : ∀ i0, Cov L i0 (i + 1) (cntL []) → Cov L i0 j (cntN n) := st_cov hL f 2 _ _ _ _ _ _ _ _ h
        exact c2 i ((Cov.skipW hL hw rfl).congr fun t => by rw [cntL_nil])
    · cases h
  | f + 1, 2, k, d, env, i, ks, n, j, env', h => by
    rw [stF] at h
    show ∀ i0, Cov L i0 i (cntL ks) → Cov L i0 j (cntN n)
    intro i0 h0
    split at h
    · rename_i hw
      cases h
      exact Cov.none1 5 ((h0.app (Cov.skipW hL hw rfl)).congr fun t => by omega)
    · split at h
      · cases h
      · cases h
      · rename_i n1 j1 env1 h1
        have c1 : Cov L i j1 (cntN n1) := st_cov hL f 0 _ _ _ _ _ _ _ _ h1
        have c2 : ∀ i0, Cov L i0 j1 (cntL (ks ++ [n1])) → Cov L i0 j (cntN n) := st_cov hL f 2 _ _ _ _ _ _ _ _ h
        refine c2 i0 ((h0.app c1).congr fun t => ?_)
        rw [cntL_app, cntL_cons, cntL_nil]
        omega
  | f + 1, 3, k, d, env, i, ks, n, j, env', h => by
    rw [stF] at h
    show Cov L i (i + 1) (fun _ => 0) → Cov L i j (cntN n)
    intro h0
    split at h
    · rename_i hw
      split at h
      · cases h
      · rename_i m1 j1 hrd
        split at h
        · rename_i hw2
          split at h
          · cases h
          · cases h
          · rename_i n2 j2 env2 h4
            have c2 : Cov L (j1 + 1) j2 (cntN n2) := st_cov hL f 0 _ _ _ _ _ _ _ _ h4
            cases h
            refine Cov.none1 k (((((h0.app (Cov.skipW hL hw rfl)).app (rdX_cov hL (by omega) hrd)).app (Cov.skipW hL hw2 rfl)).app c2).congr fun t => ?_)
            rw [cntL_cons, cntL_cons, cntL_nil]
            omega
        · cases h
    · cases h
  | f + 1, m + 4, k, d, env, i, ks, n, j, env', h => by rw [stF] at h; cases h
theorem fun_cov {L : List Tk} (hL : Lets L) {F G d : Nat} {env : Env0} {kd nm : Nd} {i : Nat} {n : Nd} {j : Nat} {env' : Env0} (h : funT L F G d env kd nm i = some (.ok (n, j, env'))) (i0 i1 : Nat) (h0 : Cov L i0 i1 (cntN kd)) (h1 : Cov L i1 i (cntN nm)) : Cov L i0 j (cntN n) := by
  unfold funT at h
  split at h
  · rename_i hw
    split at h
    · cases h
    · rename_i ks k env2 hp
      split at h
      · cases h
      · cases h
      · rename_i b k2 env3 hb
        have c2 : Cov L k k2 (cntN b) := st_cov hL G 1 _ _ _ _ _ _ _ _ hb
        cases h
        refine Cov.none1 3 (((((h0.app h1).app (Cov.skipW hL hw rfl)).app (lps_cov hL hp)).app c2).congr fun t => ?_)
        show _ = cntL (kd :: nm :: (ks ++ [b])) t
        rw [cntL_cons, cntL_cons, cntL_app, cntL_cons, cntL_nil]
        omega
  · cases h
theorem out_cov {L : List Tk} (hL : Lets L) {F G d : Nat} {env : Env0} {i : Nat} {n : Nd} {j : Nat} {env' : Env0} (h : outT L F G d env i = some (.ok (n, j, env'))) : Cov L i j (cntN n) := by
  unfold outT at h
  split at h
  · injection h with h
    exact dco_cov hL h
  · split at h
    · rename_i hty
      have hil := typ_lt hty
      split at h
      · cases h
      · rename_i n1 k1 env1 hd
        split at h
        · exact fun_cov hL h i (i + 1) (Cov.leaf 16 hil) (dcl_cov hL hd)
        · injection h with h
          exact ded_cov hL h i (i + 1) (Cov.leaf 16 hil) (dcl_cov hL hd)
    · cases h
theorem uni_cov {L : List Tk} (hL : Lets L) {F G : Nat} : ∀ (f : Nat) {env : Env0} {i : Nat} {ks : List Nd} {n : Nd}, uniF L F G f env i ks = some (.ok n) → Cov L 0 i (cntL ks) → Cov L 0 L.length (cntN n)
  | 0, env, i, ks, n, h, h0 => by unfold uniF at h; cases h
  | f + 1, env, i, ks, n, h, h0 => by
    unfold uniF at h
    split at h
    · rename_i hle
      have hi : i = L.length := by have := h0.1.2 (by omega); omega
      subst hi
      cases h
      exact Cov.none1 1 h0
    · split at h
      · cases h
      · cases h
      · rename_i n1 j1 env1 h1
        refine uni_cov hL f h ((h0.app (out_cov hL h1)).congr fun t => ?_)
        rw [cntL_app, cntL_cons, cntL_nil]
        omega
end
end
section
theorem pick_no : ∀ (l : List (Int × Int)), (∀ x ∈ l, x.1 ≠ 1) → (pick l).1 ≠ 1
  | [], _ => by decide
  | (k, n) :: r, h => by
    unfold pick
    split
    · decide
    · split
      · exact h (k, n) (by simp)
      · exact pick_no r fun x hx => h x (by simp [hx])
theorem pick_let {l : List UInt8} {path : Bool} (h : (pick (sizes l path)).1 = 1) : letB (byteAt l 0) = true := by
  cases hb : letB (byteAt l 0) with
  | true => rfl
  | false =>
    exfalso
    have h0 : nameSz l = 0 := by
      unfold nameSz
      split
      · rfl
      · rw [hb]; rfl
    unfold sizes at h
    rw [h0] at h
    unfold pick at h
    rw [if_neg (by decide), if_neg (by decide)] at h
    refine pick_no _ (fun x hx => ?_) h
    simp only [List.mem_cons, List.mem_nil_iff, or_false] at hx
    rcases hx with rfl | rfl | rfl | rfl | rfl
    · show (2 : Int) ≠ 1; decide
    · show (4 : Int) ≠ 1; decide
    · show (3 : Int) ≠ 1; decide
    · show (7 : Int) ≠ 1; decide
    · show (5 : Int) ≠ 1; decide
theorem pcsF_lets (s : List UInt8) : ∀ (f i : Nat) (acc A : List Pc), i ≤ s.length → (∀ p ∈ acc, p.lo < p.hi ∧ p.hi ≤ s.length ∧ (p.kind = 1 → letB (byteAt (s.drop p.lo) 0) = true)) → pcsF s f i acc = .inr A → ∀ p ∈ A, p.lo < p.hi ∧ p.hi ≤ s.length ∧ (p.kind = 1 → letB (byteAt (s.drop p.lo) 0) = true)
  | 0, _, acc, A, _, ha, h => by cases h; exact ha
  | f + 1, i, acc, A, hi, ha, h => by
    have hs := skip_to s i false (i == 0) hi
    unfold pcsF at h
    generalize skip s i false (i == 0) = g at h hs
    obtain ⟨k, sp, fi, lk⟩ := g
    dsimp only at h hs
    split at h
    · cases h
    · split at h
      · cases h; exact ha
      · rename_i hk
        split at h
        · cases h
        · rename_i hm
          have hle := pick_le (s.drop k) (!fi && behind s acc) (by simp; omega)
          have hl : (s.drop k).length = s.length - k := by simp
          have hn : k + (pick (sizes (s.drop k) (!fi && behind s acc))).2.toNat ≤ s.length ∧ 0 < (pick (sizes (s.drop k) (!fi && behind s acc))).2.toNat := by
            rcases hle with h' | ⟨h1, h2⟩
            · exact absurd h' hm
            · omega
          refine pcsF_lets s f _ _ A hn.1 (fun p hp => ?_) h
          rcases List.mem_append.1 hp with hp | hp
          · exact ha p hp
          · rw [List.mem_singleton] at hp
            subst hp
            exact ⟨by show k < k + _; omega, hn.1, fun h1 => pick_let h1⟩
theorem toks_lets (file : Int) (l : List UInt8) : Lets (toksF file l).1 := by
  unfold toksF
  split
  · exact fun t ht => by cases ht
  · rcases hp : pcs (bytesAt l (kept l)) with k | ps
    · exact fun t ht => by cases ht
    · dsimp only
      have hf := pcsF_lets _ _ 0 [] ps (Nat.zero_le _) (fun p hp => by cases hp) hp
      intro t ht hk
      unfold tksOf at ht
      obtain ⟨p, hpm, rfl⟩ := List.mem_map.1 ht
      obtain ⟨h1, h2, h3⟩ := hf p hpm
      have h4 := h3 hk
      show ∃ c r, (textOfPc (bytesAt l (kept l)) p).toArray.toList = c :: r ∧ letB c = true
      rw [List.toList_toArray]
      unfold textOfPc
      generalize bytesAt l (kept l) = s at *
      have hlt : p.lo < s.length := by omega
      have e1 : (s.take p.hi).drop p.lo = s[p.lo] :: (s.take p.hi).drop (p.lo + 1) := by
        rw [List.drop_eq_getElem_cons (by rw [List.length_take]; omega), List.getElem_take]
      refine ⟨_, _, e1, ?_⟩
      have e2 : byteAt (s.drop p.lo) 0 = s[p.lo] := by
        rw [List.drop_eq_getElem_cons hlt]
        rfl
      rw [← e2]
      exact h4
end
section
theorem stop_ne {L : List Tk} {b : Bool} {d i : Nat} {x : Int × Nat} (h : stopT L b d i = some x) : x.1 ≠ 0 := by
  unfold stopT at h
  split at h
  · cases h; simp
  · split at h
    · cases h; simp
    · split at h
      · cases h; simp
      · cases h
theorem ex_ne (L : List Tk) : ∀ (f m l d i : Nat) (n : Nd) (ks : List Nd) (x : Int × Nat), exF L f m l d i n ks = some (.error x) → x.1 ≠ 0
  | 0, m, l, d, i, n, ks, x, h => by unfold exF at h; cases h
  | f + 1, 0, l, d, i, n, ks, x, h => by
    rw [exF] at h
    split at h
    · rename_i hs
      cases h
      exact stop_ne hs
    · split at h
      · cases h
      · rename_i h1
        cases h
        exact ex_ne L f _ _ _ _ _ _ _ h1
      · exact ex_ne L f _ _ _ _ _ _ _ h
  | f + 1, 1, l, d, i, n, ks, x, h => by
    rw [exF] at h
    split at h
    · cases h
    · split at h
      · cases h
      · rename_i h1
        cases h
        exact ex_ne L f _ _ _ _ _ _ _ h1
      · exact ex_ne L f _ _ _ _ _ _ _ h
  | f + 1, 2, l, d, i, n, ks, x, h => by
    rw [exF] at h
    split at h
    · rename_i hs
      cases h
      exact stop_ne hs
    · split at h
      · split at h
        · cases h
        · rename_i h1
          cases h
          exact ex_ne L f _ _ _ _ _ _ _ h1
        · cases h
      · split at h
        · split at h
          · cases h
          · rename_i h1
            cases h
            exact ex_ne L f _ _ _ _ _ _ _ h1
          · split at h
            · exact ex_ne L f _ _ _ _ _ _ _ h
            · cases h; simp
        · split at h
          · exact ex_ne L f _ _ _ _ _ _ _ h
          · exact ex_ne L f _ _ _ _ _ _ _ h
  | f + 1, 3, l, d, i, n, ks, x, h => by
    rw [exF] at h
    split at h
    · split at h
      · cases h
      · rename_i h1
        cases h
        exact ex_ne L f _ _ _ _ _ _ _ h1
      · exact ex_ne L f _ _ _ _ _ _ _ h
    · split at h
      · split at h
        · cases h
        · rename_i h1
          cases h
          exact ex_ne L f _ _ _ _ _ _ _ h1
        · split at h
          · exact ex_ne L f _ _ _ _ _ _ _ h
          · cases h; simp
      · cases h
  | f + 1, 4, l, d, i, n, ks, x, h => by
    rw [exF] at h
    split at h
    · cases h
    · split at h
      · cases h
      · rename_i h1
        cases h
        exact ex_ne L f _ _ _ _ _ _ _ h1
      · exact ex_ne L f _ _ _ _ _ _ _ h
  | f + 1, m + 5, l, d, i, n, ks, x, h => by
    rw [exF] at h
    split at h
    · split at h
      · cases h
      · rename_i h1
        cases h
        exact ex_ne L f _ _ _ _ _ _ _ h1
      · exact ex_ne L f _ _ _ _ _ _ _ h
    · split at h
      · cases h
      · cases h; simp
    all_goals omega
section
variable {L : List Tk} {F : Nat}
theorem rdX_ne {l d i : Nat} {x : Int × Nat} (h : rdX L F l d i = .error x) : x.1 ≠ 0 := by
  unfold rdX at h
  split at h
  · cases h
  · rename_i h1
    cases h
    exact ex_ne L F _ _ _ _ _ _ _ h1
  · cases h; simp
theorem dcl_ne {a : Int} {d : Nat} {env : Env0} {i : Nat} {x : Int × Nat} (h : dclT L F a d env i = .error x) : x.1 ≠ 0 := by
  unfold dclT at h
  split at h
  · split at h
    · split at h
      · rename_i h1
        cases h
        exact rdX_ne h1
      · split at h
        · cases h
        · cases h; simp
    · cases h
  · cases h; simp
theorem str_ne {a : Int} {d : Nat} {env : Env0} {n : Nd} {i : Nat} {x : Int × Nat} (h : strT L F a d env n i = .error x) : x.1 ≠ 0 := by
  unfold strT at h
  split at h
  · split at h
    · rename_i h1
      cases h
      exact rdX_ne h1
    · cases h
  · cases h
theorem dlp_ne {a : Int} {d : Nat} : ∀ (f : Nat) {env : Env0} {ks : List Nd} {i : Nat} {x : Int × Nat}, dlpT L F a d f env ks i = .error x → x.1 ≠ 0
  | 0, env, ks, i, x, h => by unfold dlpT at h; cases h; simp
  | f + 1, env, ks, i, x, h => by
    unfold dlpT at h
    split at h
    · split at h
      · rename_i h1
        cases h
        exact dcl_ne h1
      · split at h
        · rename_i h1
          cases h
          exact str_ne h1
        · exact dlp_ne f h
    · split at h
      · cases h
      · cases h; simp
theorem ded_ne {a : Int} {d : Nat} {env : Env0} {kd nm : Nd} {i : Nat} {x : Int × Nat} (h : dedT L F a d env kd nm i = .error x) : x.1 ≠ 0 := by
  unfold dedT at h
  split at h
  · rename_i h1
    cases h
    exact str_ne h1
  · exact dlp_ne _ h
theorem dct_ne {a : Int} {d : Nat} {env : Env0} {i : Nat} {x : Int × Nat} (h : dctT L F a d env i = .error x) : x.1 ≠ 0 := by
  unfold dctT at h
  split at h
  · split at h
    · rename_i h1
      cases h
      exact dcl_ne h1
    · exact ded_ne h
  · cases h; simp
theorem dco_ne {d : Nat} {env : Env0} {i : Nat} {x : Int × Nat} (h : dcoT L F d env i = .error x) : x.1 ≠ 0 := by
  unfold dcoT at h
  split at h
  · exact dct_ne h
  · exact dct_ne h
theorem pln_ne {k : Int} {d : Nat} {env : Env0} {i : Nat} {x : Int × Nat} (h : plnT L F k d env i = .error x) : x.1 ≠ 0 := by
  unfold plnT at h
  split at h
  · cases h
  · split at h
    · rename_i h1
      cases h
      exact rdX_ne h1
    · split at h
      · cases h
      · cases h; simp
theorem par_ne {d : Nat} {env : Env0} {i : Nat} {x : Int × Nat} (h : parT L F d env i = .error x) : x.1 ≠ 0 := by
  unfold parT at h
  split at h
  · split at h
    · rename_i h1
      cases h
      exact dcl_ne h1
    · cases h
  · cases h; simp
theorem lpl_ne {d : Nat} : ∀ (f : Nat) {env : Env0} {ks : List Nd} {i : Nat} {x : Int × Nat}, lplT L F d f env ks i = .error x → x.1 ≠ 0
  | 0, env, ks, i, x, h => by unfold lplT at h; cases h; simp
  | f + 1, env, ks, i, x, h => by
    unfold lplT at h
    split at h
    · split at h
      · rename_i h1
        cases h
        exact par_ne h1
      · exact lpl_ne f h
    · split at h
      · cases h
      · cases h; simp
theorem lps_ne {d : Nat} {env : Env0} {i : Nat} {x : Int × Nat} (h : lpsT L F d env i = .error x) : x.1 ≠ 0 := by
  unfold lpsT at h
  split at h
  · cases h
  · split at h
    · rename_i h1
      cases h
      exact par_ne h1
    · exact lpl_ne _ h
theorem st_ne : ∀ (f m : Nat) (k : Int) (d : Nat) (env : Env0) (i : Nat) (ks : List Nd) (x : Int × Nat), stF L F f m k d env i ks = some (.error x) → x.1 ≠ 0
  | 0, m, k, d, env, i, ks, x, h => by unfold stF at h; cases h
  | f + 1, 0, k, d, env, i, ks, x, h => by
    rw [stF] at h
    split at h
    · rename_i hs
      cases h
      exact stop_ne hs
    · split at h
      · split at h
        · cases h
        · rename_i h1
          cases h
          exact st_ne f _ _ _ _ _ _ _ h1
        · cases h
      · split at h
        · split at h
          · cases h
          · rename_i h1
            cases h
            exact st_ne f _ _ _ _ _ _ _ h1
          · split at h
            · split at h
              · cases h
              · rename_i h1
                cases h
                exact st_ne f _ _ _ _ _ _ _ h1
              · cases h
            · cases h
        · split at h
          · exact st_ne f _ _ _ _ _ _ _ h
          · split at h
            · injection h with h
              exact pln_ne h
            · split at h
              · injection h with h
                exact dco_ne h
              · injection h with h
                exact pln_ne h
  | f + 1, 1, k, d, env, i, ks, x, h => by
    rw [stF] at h
    split at h
    · split at h
      · rename_i hs
        cases h
        exact stop_ne hs
      · exact st_ne f _ _ _ _ _ _ _ h
    · cases h; simp
  | f + 1, 2, k, d, env, i, ks, x, h => by
    rw [stF] at h
    split at h
    · cases h
    · split at h
      · cases h
      · rename_i h1
        cases h
        exact st_ne f _ _ _ _ _ _ _ h1
      · exact st_ne f _ _ _ _ _ _ _ h
  | f + 1, 3, k, d, env, i, ks, x, h => by
    rw [stF] at h
    split at h
    · split at h
      · rename_i h1
        cases h
        exact rdX_ne h1
      · split at h
        · split at h
          · cases h
          · rename_i h1
            cases h
            exact st_ne f _ _ _ _ _ _ _ h1
          · cases h
        · cases h; simp
    · cases h; simp
  | f + 1, m + 4, k, d, env, i, ks, x, h => by rw [stF] at h; cases h
theorem fun_ne {G d : Nat} {env : Env0} {kd nm : Nd} {i : Nat} {x : Int × Nat} (h : funT L F G d env kd nm i = some (.error x)) : x.1 ≠ 0 := by
  unfold funT at h
  split at h
  · split at h
    · rename_i h1
      cases h
      exact lps_ne h1
    · split at h
      · cases h
      · rename_i h1
        cases h
        exact st_ne _ _ _ _ _ _ _ _ h1
      · cases h
  · cases h; simp
theorem out_ne {G d : Nat} {env : Env0} {i : Nat} {x : Int × Nat} (h : outT L F G d env i = some (.error x)) : x.1 ≠ 0 := by
  unfold outT at h
  split at h
  · injection h with h
    exact dco_ne h
  · split at h
    · split at h
      · rename_i h1
        cases h
        exact dcl_ne h1
      · split at h
        · exact fun_ne h
        · injection h with h
          exact ded_ne h
    · cases h; simp
theorem uni_ne {G : Nat} : ∀ (f : Nat) {env : Env0} {i : Nat} {ks : List Nd} {x : Int × Nat}, uniF L F G f env i ks = some (.error x) → x.1 ≠ 0
  | 0, env, i, ks, x, h => by unfold uniF at h; cases h
  | f + 1, env, i, ks, x, h => by
    unfold uniF at h
    split at h
    · cases h
    · split at h
      · cases h
      · rename_i h1
        cases h
        exact out_ne h1
      · exact uni_ne f h
end
theorem pars_ne {L : List Tk} {x : Int × Nat} (h : parsL L = .error x) : x.1 ≠ 0 := by
  have := pars_is L
  rw [h] at this
  exact uni_ne _ this
end
end Go.Proofs.Ytocklchafmlfkaa
