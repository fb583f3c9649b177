/- Two lists of tokens, one behind the other: their trees. -/
import Derived.Test.YtocklchafmlfkaaTgL
namespace Go.Proofs.Ytocklchafmlfkaa

/-- No name is a type's. -/
def NoTy (e : Env0) : Prop := ∀ g ∈ e, ∀ x, g x = 0 ∨ g x = 1
theorem NoTy.decl {e : Env0} (h : NoTy e) (x : List UInt8) : NoTy (declE e x 1) := by
  unfold declE
  intro g hg y
  rcases List.mem_append.1 hg with hg | hg
  · exact h g (List.dropLast_subset e hg) y
  · rw [List.mem_singleton] at hg
    subst hg
    unfold updG
    split
    · exact .inr rfl
    · cases hl : e.getLast? with
      | none => exact .inl rfl
      | some z => exact h z (List.mem_of_getLast? hl) y
theorem NoTy.opens {e : Env0} (h : NoTy e) : NoTy (List.append e [(fun _ => (0 : Int) : List UInt8 → Int)]) := by
  intro g hg y
  rcases List.mem_append.1 (show g ∈ e ++ [(fun _ => (0 : Int) : List UInt8 → Int)] from hg) with hg | hg
  · exact h g hg y
  · rw [List.mem_singleton] at hg
    subst hg
    exact .inl rfl
theorem NoTy.shuts {e : Env0} (h : NoTy e) : NoTy (List.dropLast e) := fun g hg y => h g (List.dropLast_subset e hg) y
section
variable {L : List Tk} {F : Nat}
theorem dcl_nt {d : Nat} {e : Env0} {i : Nat} {n : Nd} {j : Nat} {e1 : Env0} (h : dclT L F 1 d e i = .ok (n, j, e1)) (hN : NoTy e) : NoTy e1 := by
  unfold dclT at h
  split at h
  · split at h
    · split at h
      · cases h
      · split at h
        · cases h
          exact hN.decl _
        · cases h
    · cases h
      exact hN.decl _
  · cases h
theorem dlp_nt {d : Nat} : ∀ (f : Nat) {e : Env0} {ks : List Nd} {i : Nat} {n : Nd} {j : Nat} {e1 : Env0}, dlpT L F 1 d f e ks i = .ok (n, j, e1) → NoTy e → NoTy e1
  | 0, e, ks, i, n, j, e1, h, hN => by unfold dlpT at h; cases h
  | f + 1, e, ks, i, n, j, e1, h, hN => by
    unfold dlpT at h
    split at h
    · split at h
      · cases h
      · rename_i hd
        split at h
        · cases h
        · rename_i hs
          obtain ⟨_, rfl⟩ := str_ok hs
          exact dlp_nt f h (dcl_nt hd hN)
    · split at h
      · cases h
        exact hN
      · cases h
theorem ded_nt {d : Nat} {e : Env0} {kd nm : Nd} {i : Nat} {n : Nd} {j : Nat} {e1 : Env0} (h : dedT L F 1 d e kd nm i = .ok (n, j, e1)) (hN : NoTy e) : NoTy e1 := by
  unfold dedT at h
  split at h
  · cases h
  · rename_i hs
    obtain ⟨_, rfl⟩ := str_ok hs
    exact dlp_nt _ h hN
theorem dct_nt {d : Nat} {e : Env0} {i : Nat} {n : Nd} {j : Nat} {e1 : Env0} (h : dctT L F 1 d e i = .ok (n, j, e1)) (hN : NoTy e) : NoTy e1 := by
  unfold dctT at h
  split at h
  · split at h
    · cases h
    · rename_i hd
      exact ded_nt h (dcl_nt hd hN)
  · cases h
theorem par_nt {d : Nat} {e : Env0} {i : Nat} {n : Nd} {j : Nat} {e1 : Env0} (h : parT L F d e i = .ok (n, j, e1)) (hN : NoTy e) : NoTy e1 := by
  unfold parT at h
  split at h
  · split at h
    · cases h
    · rename_i hd
      cases h
      exact dcl_nt hd hN
  · cases h
theorem lpl_nt {d : Nat} : ∀ (f : Nat) {e : Env0} {ks : List Nd} {i : Nat} {ks' : List Nd} {j : Nat} {e1 : Env0}, lplT L F d f e ks i = .ok (ks', j, e1) → NoTy e → NoTy e1
  | 0, e, ks, i, n, j, e1, h, hN => by unfold lplT at h; cases h
  | f + 1, e, ks, i, n, j, e1, h, hN => by
    unfold lplT at h
    split at h
    · split at h
      · cases h
      · rename_i hd
        exact lpl_nt f h (par_nt hd hN)
    · split at h
      · cases h
        exact hN
      · cases h
theorem lps_nt {d : Nat} {e : Env0} {i : Nat} {ks : List Nd} {j : Nat} {e1 : Env0} (h : lpsT L F d e i = .ok (ks, j, e1)) (hN : NoTy e) : NoTy e1 := by
  unfold lpsT at h
  split at h
  · cases h
    exact hN
  · split at h
    · cases h
    · rename_i hp
      exact lpl_nt _ h (par_nt hp hN)
theorem dco_nt (hT : ∀ i, wordT L i ≠ [116, 121, 112, 101, 100, 101, 102]) {d : Nat} {e : Env0} {i : Nat} {n : Nd} {j : Nat} {e1 : Env0} (h : dcoT L F d e i = .ok (n, j, e1)) (hN : NoTy e) : NoTy e1 := by
  unfold dcoT at h
  rw [if_neg (hT i)] at h
  exact dct_nt h hN
theorem st_nt (hT : ∀ i, wordT L i ≠ [116, 121, 112, 101, 100, 101, 102]) : ∀ (f m : Nat) (k : Int) (d : Nat) (e : Env0) (i : Nat) (ks : List Nd) (n : Nd) (j : Nat) (e1 : Env0), stF L F f m k d e i ks = some (.ok (n, j, e1)) → NoTy e → NoTy e1
  | 0, m, k, d, e, i, ks, n, j, e1, h, hN => by unfold stF at h; cases h
  | f + 1, 0, k, d, e, i, ks, n, j, e1, h, hN => by
    rw [stF] at h
    split at h
    · cases h
    · split at h
      · split at h
        · cases h
        · cases h
        · rename_i h1
          cases h
          exact (st_nt hT f _ _ _ _ _ _ _ _ _ h1 hN.opens).shuts
      · split at h
        · split at h
          · cases h
          · cases h
          · rename_i h1
            have hN1 := st_nt hT f _ _ _ _ _ _ _ _ _ h1 hN
            split at h
            · split at h
              · cases h
              · cases h
              · rename_i h4
                cases h
                exact st_nt hT f _ _ _ _ _ _ _ _ _ h4 hN1
            · cases h
              exact hN1
        · split at h
          · exact st_nt hT f _ _ _ _ _ _ _ _ _ h hN
          · split at h
            · injection h with h
              obtain ⟨_, rfl⟩ := pln_ok h
              exact hN
            · split at h
              · injection h with h
                exact dco_nt hT h hN
              · injection h with h
                obtain ⟨_, rfl⟩ := pln_ok h
                exact hN
  | f + 1, 1, k, d, e, i, ks, n, j, e1, h, hN => by
    rw [stF] at h
    split at h
    · split at h
      · cases h
      · exact st_nt hT f _ _ _ _ _ _ _ _ _ h hN
    · cases h
  | f + 1, 2, k, d, e, i, ks, n, j, e1, h, hN => by
    rw [stF] at h
    split at h
    · cases h
      exact hN
    · split at h
      · cases h
      · cases h
      · rename_i h1
        exact st_nt hT f _ _ _ _ _ _ _ _ _ h (st_nt hT f _ _ _ _ _ _ _ _ _ h1 hN)
  | f + 1, 3, k, d, e, i, ks, n, j, e1, h, hN => by
    rw [stF] at h
    split at h
    · split at h
      · cases h
      · split at h
        · split at h
          · cases h
          · cases h
          · rename_i h4
            cases h
            exact st_nt hT f _ _ _ _ _ _ _ _ _ h4 hN
        · cases h
    · cases h
  | f + 1, m + 4, k, d, e, i, ks, n, j, e1, h, hN => by rw [stF] at h; cases h
theorem out_nt (hT : ∀ i, wordT L i ≠ [116, 121, 112, 101, 100, 101, 102]) {G d : Nat} {e : Env0} {i : Nat} {n : Nd} {j : Nat} {e1 : Env0} (h : outT L F G d e i = some (.ok (n, j, e1))) (hN : NoTy e) : NoTy e1 := by
  unfold outT at h
  split at h
  · injection h with h
    exact dco_nt hT h hN
  · split at h
    · split at h
      · cases h
      · rename_i hd
        have hN1 := dcl_nt hd hN
        split at h
        · unfold funT at h
          split at h
          · split at h
            · cases h
            · rename_i hp
              split at h
              · cases h
              · cases h
              · rename_i hb
                cases h
                exact (st_nt hT _ _ _ _ _ _ _ _ _ _ hb (lps_nt hp hN1.opens)).shuts
          · cases h
        · injection h with h
          exact ded_nt h hN1
    · cases h
end
/-- From another place on: all of it. -/
theorem uni_shift {L L' : List Tk} {o F F' G G' : Nat} (hA : ∀ hi, Ag L L' o hi) (hl : L'.length = L.length + o) (hF : F ≤ F') (hG : G ≤ G') : ∀ (f f' : Nat) {e e' : Env0} {i : Nat} {ks : List Nd} {n : Nd}, f ≤ f' → EnvR e e' → uniF L F G f e i ks = some (.ok n) → ∃ R, n = .mk 1 (-1) R ∧ ∀ pre, uniF L' F' G' f' e' (i + o) (pre ++ mvL o ks) = some (.ok (.mk 1 (-1) (pre ++ mvL o R)))
  | 0, f', e, e', i, ks, n, hf, hE, h => by unfold uniF at h; cases h
  | f + 1, 0, e, e', i, ks, n, hf, hE, h => by omega
  | f + 1, f' + 1, e, e', i, ks, n, hf, hE, h => by
    unfold uniF at h
    split at h
    · rename_i hle
      cases h
      refine ⟨ks, rfl, fun pre => ?_⟩
      rw [uniF, if_pos (by omega)]
    · rename_i hle
      split at h
      · cases h
      · cases h
      · rename_i n1 j1 e1 h1
        obtain ⟨e1', q1, hE1⟩ := out_sim (hA j1) hF hG hE h1 (Nat.le_refl _)
        obtain ⟨R, hR, hall⟩ := uni_shift hA hl hF hG f f' (by omega) hE1 h
        refine ⟨R, hR, fun pre => ?_⟩
        rw [uniF, if_neg (by omega), q1]
        have := hall pre
        rw [mvL_app, mvL_cons, mvL_nil, ← List.append_assoc] at this
        exact this
/-- The first one, with something behind it. -/
theorem uni_pre {A B : List Tk} {F F' G G' : Nat} (hL : Lets A) (hT : ∀ i, wordT A i ≠ [116, 121, 112, 101, 100, 101, 102]) (hF : F ≤ F') (hG : G ≤ G') : ∀ (f : Nat) {e e' : Env0} {i : Nat} {ks : List Nd} {n : Nd}, EnvR e e' → NoTy e → i ≤ A.length → uniF A F G f e i ks = some (.ok n) → ∃ R e1 e1' k, n = .mk 1 (-1) R ∧ EnvR e1 e1' ∧ NoTy e1 ∧ e1.length = e.length ∧ k ≤ A.length - i ∧ ∀ g, uniF (A ++ B) F' G' (g + k) e' i ks = uniF (A ++ B) F' G' g e1' A.length R
  | 0, e, e', i, ks, n, hE, hN, hi, h => by unfold uniF at h; cases h
  | f + 1, e, e', i, ks, n, hE, hN, hi, h => by
    unfold uniF at h
    split at h
    · rename_i hle
      cases h
      obtain rfl : i = A.length := by omega
      exact ⟨ks, e, e', 0, rfl, hE, hN, rfl, by omega, fun g => rfl⟩
    · rename_i hle
      split at h
      · cases h
      · cases h
      · rename_i n1 j1 e1 h1
        have hij := out_ok h1 hE.ne
        have hj : j1 ≤ A.length := (out_cov hL h1).1.2 hi
        have hA : Ag A (A ++ B) 0 A.length := ⟨fun p hp => by rw [Nat.add_zero, List.getElem?_append_left hp], by simp⟩
        obtain ⟨e1', q1, hE1⟩ := out_sim hA hF hG hE h1 hj
        rw [mvN_zero] at q1
        obtain ⟨R, e2, e2', k, hR, hE2, hN2, hl2, hk, hall⟩ := uni_pre hL hT hF hG f hE1 (out_nt hT h1 hN) hj h
        refine ⟨R, e2, e2', k + 1, hR, hE2, hN2, hl2.trans hij.2, by omega, fun g => ?_⟩
        rw [← hall g, ← Nat.add_assoc, uniF, if_neg (by simp; omega)]
        rw [Nat.add_zero, Nat.add_zero] at q1
        rw [q1]
/-- ONE BEHIND THE OTHER. -/
theorem pars_joined {A B : List Tk} {x y : Nd} (hL : Lets A) (hT : ∀ i, wordT A i ≠ [116, 121, 112, 101, 100, 101, 102]) (h1 : parsL A = .ok x) (h2 : parsL B = .ok y) : ∃ X Y, x = .mk 1 (-1) X ∧ y = .mk 1 (-1) Y ∧ parsL (A ++ B) = .ok (.mk 1 (-1) (X ++ mvL A.length Y)) := by
  have p1 := pars_is A
  have p2 := pars_is B
  have p3 := pars_is (A ++ B)
  rw [h1] at p1
  rw [h2] at p2
  have hlen : (A ++ B).length = A.length + B.length := by simp
  have hE0 : EnvR [(fun _ => (0 : Int) : List UInt8 → Int)] [fun _ => 0] := EnvR.refl (by simp)
  have hN0 : NoTy [(fun _ => (0 : Int) : List UInt8 → Int)] := fun g hg y => by
    rw [List.mem_singleton] at hg
    subst hg
    exact .inl rfl
  obtain ⟨X, e1, e1', k, hX, hE1, hN1, hl1, hk, hall⟩ := uni_pre (B := B) (F' := 4 * (A ++ B).length + 2) (G' := 4 * (A ++ B).length + 3) hL hT (by omega) (by omega) _ hE0 hN0 (Nat.zero_le _) p1
  have hEB : EnvR [(fun _ => (0 : Int) : List UInt8 → Int)] e1' := by
    obtain ⟨g, g', r, rfl, rfl, hg⟩ := hE1
    have hr : r = [] := by
      have : (g :: r).length = 1 := hl1
      simp at this
      exact this
    subst hr
    refine ⟨_, g', [], rfl, rfl, fun z => ?_⟩
    rcases hN1 g (by simp) z with e0 | e0 <;> rcases hg z with e | ⟨e, e'⟩
    · exact .inl (e.trans e0)
    · exact .inr ⟨rfl, e'⟩
    · exact .inr ⟨rfl, e.trans e0⟩
    · exact .inr ⟨rfl, e'⟩
  have hAg : ∀ hi, Ag B (A ++ B) A.length hi := fun hi => ⟨fun p _ => by rw [List.getElem?_append_right (by omega)]; congr 1; omega, by simp⟩
  obtain ⟨Y, hY, hsh⟩ := uni_shift hAg (by omega) (F' := 4 * (A ++ B).length + 2) (G' := 4 * (A ++ B).length + 3) (by omega) (by omega) (B.length + 1) ((A ++ B).length + 1 - k) (by omega) hEB p2
  refine ⟨X, Y, hX, hY, ?_⟩
  have e3 := hall ((A ++ B).length + 1 - k)
  rw [show (A ++ B).length + 1 - k + k = (A ++ B).length + 1 by omega, p3] at e3
  have e4 := hsh X
  rw [mvL_nil, List.append_nil, Nat.zero_add] at e4
  rw [e4] at e3
  injection e3
end Go.Proofs.Ytocklchafmlfkaa
