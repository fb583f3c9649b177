/- A tree has at most twice as many nodes as it has tokens. -/
import Derived.Test.YtocklchafmlfkaaTgI
namespace Go.Proofs.Ytocklchafmlfkaa

theorem szL_nil : szL [] = 0 := by rw [szL]
theorem szL_cons (n : Nd) (ks : List Nd) : szL (n :: ks) = szN n + szL ks := by rw [szL]
theorem szL_app : ∀ (a b : List Nd), szL (a ++ b) = szL a + szL b
  | [], b => by rw [List.nil_append, szL_nil, Nat.zero_add]
  | n :: a, b => by rw [List.cons_append, szL_cons, szL_cons, szL_app a b, Nat.add_assoc]
theorem szN_more (n : Nd) (ms : List Nd) : szN (.mk n.kind n.tok (n.kids ++ ms)) = szN n + szL ms := by
  obtain ⟨k, t, ks⟩ := n
  show szN (.mk k t (ks ++ ms)) = _
  rw [szN_mk, szN_mk, szL_app, Nat.add_assoc]
theorem szL_len : ∀ ks : List Nd, ks.length ≤ szL ks
  | [] => Nat.zero_le _
  | .mk k t ks :: r => by
    have := szL_len r
    rw [szL_cons, szN_mk, List.length_cons]
    omega
/-- What the modes tell. -/
def SzM (m i j : Nat) (n : Nd) (ks : List Nd) (n' : Nd) (ks' : List Nd) : Prop := match m with
  | 0 => szN n' + 2 * i ≤ 2 * j
  | 1 => szN n' + 2 * i ≤ szN n + 2 * j
  | 2 => szN n' + 2 * i ≤ 2 * j
  | 3 => szN n' + 2 * i ≤ szN n + 2 * j
  | 4 => szL ks' + 2 * i ≤ 2 * j
  | _ => szL ks' + 2 * i ≤ szL ks + 2 * j
theorem ex_sz (L : List Tk) : ∀ (f m l d i : Nat) (n : Nd) (ks : List Nd) (n' : Nd) (ks' : List Nd) (j : Nat), exF L f m l d i n ks = some (.ok (n', ks', j)) → SzM m i j n ks n' ks'
  | 0, m, l, d, i, n, ks, n', ks', j, h => by unfold exF at h; cases h
  | f + 1, 0, l, d, i, n, ks, n', ks', j, h => by
    rw [exF] at h
    show szN n' + 2 * i ≤ 2 * j
    split at h
    · cases h
    · split at h
      · cases h
      · cases h
      · rename_i m1 k1 j1 h1
        have a1 : szN m1 + 2 * i ≤ 2 * j1 := ex_sz L f 2 _ _ _ _ _ _ _ _ h1
        have a2 : szN n' + 2 * j1 ≤ szN m1 + 2 * j := ex_sz L f 1 _ _ _ _ _ _ _ _ h
        omega
  | f + 1, 1, l, d, i, n, ks, n', ks', j, h => by
    rw [exF] at h
    show szN n' + 2 * i ≤ szN n + 2 * j
    split at h
    · cases h
      omega
    · split at h
      · cases h
      · cases h
      · rename_i m1 k1 j1 h1
        have a1 : szN m1 + 2 * (i + 1) ≤ 2 * j1 := ex_sz L f 0 _ _ _ _ _ _ _ _ h1
        have a2 : szN n' + 2 * j1 ≤ szN (.mk 13 (i : Int) [n, m1]) + 2 * j := ex_sz L f 1 _ _ _ _ _ _ _ _ h
        rw [szN_mk, szL_cons, szL_cons, szL_nil] at a2
        omega
  | f + 1, 2, l, d, i, n, ks, n', ks', j, h => by
    rw [exF] at h
    show szN n' + 2 * i ≤ 2 * j
    split at h
    · cases h
    · split at h
      · split at h
        · cases h
        · cases h
        · rename_i m1 k1 j1 h1
          have a1 : szN m1 + 2 * (i + 1) ≤ 2 * j1 := ex_sz L f 2 _ _ _ _ _ _ _ _ h1
          cases h
          rw [szN_mk, szL_cons, szL_nil]
          omega
      · split at h
        · split at h
          · cases h
          · cases h
          · rename_i m1 k1 j1 h1
            have a1 : szN m1 + 2 * (i + 1) ≤ 2 * j1 := ex_sz L f 0 _ _ _ _ _ _ _ _ h1
            split at h
            · have a2 : szN n' + 2 * (j1 + 1) ≤ szN m1 + 2 * j := ex_sz L f 3 _ _ _ _ _ _ _ _ h
              omega
            · cases h
        · split at h
          · have a2 : szN n' + 2 * (i + 1) ≤ szN (.mk 10 (i : Int) []) + 2 * j := ex_sz L f 3 _ _ _ _ _ _ _ _ h
            rw [szN_mk, szL_nil] at a2
            omega
          · have a2 : szN n' + 2 * (i + 1) ≤ szN (.mk 11 (i : Int) []) + 2 * j := ex_sz L f 3 _ _ _ _ _ _ _ _ h
            rw [szN_mk, szL_nil] at a2
            omega
  | f + 1, 3, l, d, i, n, ks, n', ks', j, h => by
    rw [exF] at h
    show szN n' + 2 * i ≤ szN n + 2 * j
    split at h
    · split at h
      · cases h
      · cases h
      · rename_i m1 k1 j1 h1
        have a1 : szL k1 + 2 * (i + 1) ≤ 2 * j1 := ex_sz L f 4 _ _ _ _ _ _ _ _ h1
        have a2 : szN n' + 2 * j1 ≤ szN (.mk 14 (-1) (n :: k1)) + 2 * j := ex_sz L f 3 _ _ _ _ _ _ _ _ h
        rw [szN_mk, szL_cons] at a2
        omega
    · split at h
      · split at h
        · cases h
        · cases h
        · rename_i m1 k1 j1 h1
          have a1 : szN m1 + 2 * (i + 1) ≤ 2 * j1 := ex_sz L f 0 _ _ _ _ _ _ _ _ h1
          split at h
          · have a2 : szN n' + 2 * (j1 + 1) ≤ szN (.mk 15 (-1) [n, m1]) + 2 * j := ex_sz L f 3 _ _ _ _ _ _ _ _ h
            rw [szN_mk, szL_cons, szL_cons, szL_nil] at a2
            omega
          · cases h
      · cases h
        omega
  | f + 1, 4, l, d, i, n, ks, n', ks', j, h => by
    rw [exF] at h
    show szL ks' + 2 * i ≤ 2 * j
    split at h
    · cases h
      rw [szL_nil]
      omega
    · split at h
      · cases h
      · cases h
      · rename_i m1 k1 j1 h1
        have a1 : szN m1 + 2 * i ≤ 2 * j1 := ex_sz L f 0 _ _ _ _ _ _ _ _ h1
        have a2 : szL ks' + 2 * j1 ≤ szL [m1] + 2 * j := ex_sz L f 5 _ _ _ _ _ _ _ _ h
        rw [szL_cons, szL_nil] at a2
        omega
  | f + 1, m + 5, l, d, i, n, ks, n', ks', j, h => by
    rw [exF] at h
    show szL ks' + 2 * i ≤ szL ks + 2 * j
    split at h
    · split at h
      · cases h
      · cases h
      · rename_i m1 k1 j1 h1
        have a1 : szN m1 + 2 * (i + 1) ≤ 2 * j1 := ex_sz L f 0 _ _ _ _ _ _ _ _ h1
        have a2 : szL ks' + 2 * j1 ≤ szL (ks ++ [m1]) + 2 * j := ex_sz L f 5 _ _ _ _ _ _ _ _ h
        rw [szL_app, szL_cons, szL_nil] at a2
        omega
    · split at h
      · cases h
        omega
      · cases h
    all_goals omega
section
variable {L : List Tk} {F : Nat}
theorem rdX_sz {l d i : Nat} {m : Nd} {j : Nat} (h : rdX L F l d i = .ok (m, j)) : szN m + 2 * i ≤ 2 * j := by
  unfold rdX at h
  split at h
  · rename_i h1
    cases h
    exact ex_sz L F 0 _ _ _ _ _ _ _ _ h1
  · cases h
  · cases h
theorem dcl_sz {a : Int} {d : Nat} {e : Env0} {i : Nat} {n : Nd} {j : Nat} {e1 : Env0} (h : dclT L F a d e i = .ok (n, j, e1)) : szN n + 2 * i + 1 ≤ 2 * j := by
  unfold dclT at h
  have hs := star_le L L.length i
  generalize starT L L.length i = s at *
  split at h
  · split at h
    · split at h
      · cases h
      · rename_i m k hrd
        have := rdX_sz hrd
        split at h
        · cases h
          rw [szN_mk, szL_cons, szL_nil]
          omega
        · cases h
    · cases h
      rw [szN_mk, szL_nil]
      omega
  · cases h
theorem str_sz {a : Int} {d : Nat} {e : Env0} {n : Nd} {i : Nat} {n' : Nd} {j : Nat} {e1 : Env0} (h : strT L F a d e n i = .ok (n', j, e1)) : szN n' + 2 * i ≤ szN n + 2 * j := by
  unfold strT at h
  split at h
  · split at h
    · cases h
    · rename_i m k hrd
      have := rdX_sz hrd
      cases h
      rw [szN_more, szL_cons, szL_nil]
      omega
  · cases h
    omega
theorem dlp_sz {a : Int} {d : Nat} : ∀ (f : Nat) {e : Env0} {ks : List Nd} {i : Nat} {n : Nd} {j : Nat} {e1 : Env0}, dlpT L F a d f e ks i = .ok (n, j, e1) → szN n + 2 * i ≤ szL ks + 2 * j
  | 0, e, ks, i, n, j, e1, h => by unfold dlpT at h; cases h
  | f + 1, e, ks, i, n, j, e1, h => by
    unfold dlpT at h
    split at h
    · split at h
      · cases h
      · rename_i n2 j2 e2 hd
        have a1 := dcl_sz hd
        split at h
        · cases h
        · rename_i n3 j3 e3 hs
          have a2 := str_sz hs
          have a3 := dlp_sz f h
          rw [szL_app, szL_cons, szL_nil] at a3
          omega
    · split at h
      · cases h
        rw [szN_mk]
        omega
      · cases h
theorem ded_sz {a : Int} {d : Nat} {e : Env0} {kd nm : Nd} {i : Nat} {n : Nd} {j : Nat} {e1 : Env0} (h : dedT L F a d e kd nm i = .ok (n, j, e1)) : szN n + 2 * i ≤ szN kd + szN nm + 2 * j := by
  unfold dedT at h
  split at h
  · cases h
  · rename_i n1 j1 e2 hs
    have a2 := str_sz hs
    have a3 := dlp_sz _ h
    rw [szL_cons, szL_cons, szL_nil] at a3
    omega
theorem dct_sz {a : Int} {d : Nat} {e : Env0} {i : Nat} {n : Nd} {j : Nat} {e1 : Env0} (h : dctT L F a d e i = .ok (n, j, e1)) : szN n + 2 * i ≤ 2 * j := by
  unfold dctT at h
  split at h
  · split at h
    · cases h
    · rename_i n1 k1 e2 hd
      have a1 := dcl_sz hd
      have a2 := ded_sz h
      rw [szN_mk 16, szL_nil] at a2
      omega
  · cases h
theorem dco_sz {d : Nat} {e : Env0} {i : Nat} {n : Nd} {j : Nat} {e1 : Env0} (h : dcoT L F d e i = .ok (n, j, e1)) : szN n + 2 * i ≤ 2 * j := by
  unfold dcoT at h
  split at h
  · have := dct_sz h
    omega
  · exact dct_sz h
theorem pln_sz {k : Int} {d : Nat} {e : Env0} {i : Nat} {n : Nd} {j : Nat} {e1 : Env0} (h : plnT L F k d e i = .ok (n, j, e1)) : szN n + 2 * i ≤ 2 * j := by
  unfold plnT at h
  split at h
  · cases h
    rw [szN_mk, szL_nil]
    omega
  · split at h
    · cases h
    · rename_i m k' hrd
      have := rdX_sz hrd
      split at h
      · cases h
        rw [szN_mk, szL_cons, szL_nil]
        omega
      · cases h
theorem par_sz {d : Nat} {e : Env0} {i : Nat} {n : Nd} {j : Nat} {e1 : Env0} (h : parT L F d e i = .ok (n, j, e1)) : szN n + 2 * i ≤ 2 * j := by
  unfold parT at h
  split at h
  · split at h
    · cases h
    · rename_i n1 k1 e2 hd
      have a1 := dcl_sz hd
      cases h
      rw [szN_mk, szL_cons, szL_cons, szL_nil, szN_mk 16, szL_nil]
      omega
  · cases h
theorem lpl_sz {d : Nat} : ∀ (f : Nat) {e : Env0} {ks : List Nd} {i : Nat} {ks' : List Nd} {j : Nat} {e1 : Env0}, lplT L F d f e ks i = .ok (ks', j, e1) → szL ks' + 2 * i ≤ szL ks + 2 * j
  | 0, e, ks, i, n, j, e1, h => by unfold lplT at h; cases h
  | f + 1, e, ks, i, n, j, e1, h => by
    unfold lplT at h
    split at h
    · split at h
      · cases h
      · rename_i n2 j2 e2 hd
        have a1 := par_sz hd
        have a3 := lpl_sz f h
        rw [szL_app, szL_cons, szL_nil] at a3
        omega
    · split at h
      · cases h
        omega
      · cases h
theorem lps_sz {d : Nat} {e : Env0} {i : Nat} {ks : List Nd} {j : Nat} {e1 : Env0} (h : lpsT L F d e i = .ok (ks, j, e1)) : szL ks + 2 * i ≤ 2 * j := by
  unfold lpsT at h
  split at h
  · cases h
    rw [szL_nil]
    omega
  · split at h
    · cases h
    · rename_i n k e2 hp
      have a1 := par_sz hp
      have a3 := lpl_sz _ h
      rw [szL_cons, szL_nil] at a3
      omega
/-- What the modes tell. -/
def SzS (m i j : Nat) (ks : List Nd) (n : Nd) : Prop := match m with
  | 2 => szN n + 2 * i ≤ szL ks + 2 * j
  | _ => szN n + 2 * i ≤ 2 * j
theorem st_sz : ∀ (f m : Nat) (k : Int) (d : Nat) (e : Env0) (i : Nat) (ks : List Nd) (n : Nd) (j : Nat) (e1 : Env0), stF L F f m k d e i ks = some (.ok (n, j, e1)) → SzS m i j ks n
  | 0, m, k, d, e, i, ks, n, j, e1, h => by unfold stF at h; cases h
  | f + 1, 0, k, d, e, i, ks, n, j, e1, h => by
    rw [stF] at h
    show szN n + 2 * i ≤ 2 * j
    split at h
    · cases h
    · split at h
      · split at h
        · cases h
        · cases h
        · rename_i h1
          cases h
          exact st_sz f 1 _ _ _ _ _ _ _ _ h1
      · split at h
        · split at h
          · cases h
          · cases h
          · rename_i n1 j1 e2 h1
            have a1 : szN n1 + 2 * i ≤ 2 * j1 := st_sz f 3 _ _ _ _ _ _ _ _ h1
            split at h
            · split at h
              · cases h
              · cases h
              · rename_i n2 j2 e3 h4
                have a2 : szN n2 + 2 * (j1 + 1) ≤ 2 * j2 := st_sz f 0 _ _ _ _ _ _ _ _ h4
                cases h
                rw [szN_more, szL_cons, szL_nil]
                omega
            · cases h
              exact a1
        · split at h
          · exact st_sz f 3 _ _ _ _ _ _ _ _ h
          · split at h
            · injection h with h
              have := pln_sz h
              omega
            · split at h
              · injection h with h
                exact dco_sz h
              · injection h with h
                exact pln_sz h
  | f + 1, 1, k, d, e, i, ks, n, j, e1, h => by
    rw [stF] at h
    show szN n + 2 * i ≤ 2 * j
    split at h
    · split at h
      · cases h
      · have a1 : szN n + 2 * (i + 1) ≤ szL [] + 2 * j := st_sz f 2 _ _ _ _ _ _ _ _ h
        rw [szL_nil] at a1
        omega
    · cases h
  | f + 1, 2, k, d, e, i, ks, n, j, e1, h => by
    rw [stF] at h
    show szN n + 2 * i ≤ szL ks + 2 * j
    split at h
    · cases h
      rw [szN_mk]
      omega
    · split at h
      · cases h
      · cases h
      · rename_i n1 j1 e2 h1
        have a1 : szN n1 + 2 * i ≤ 2 * j1 := st_sz f 0 _ _ _ _ _ _ _ _ h1
        have a2 : szN n + 2 * j1 ≤ szL (ks ++ [n1]) + 2 * j := st_sz f 2 _ _ _ _ _ _ _ _ h
        rw [szL_app, szL_cons, szL_nil] at a2
        omega
  | f + 1, 3, k, d, e, i, ks, n, j, e1, h => by
    rw [stF] at h
    show szN n + 2 * i ≤ 2 * j
    split at h
    · split at h
      · cases h
      · rename_i m1 j1 hrd
        have a0 := rdX_sz hrd
        split at h
        · split at h
          · cases h
          · cases h
          · rename_i n2 j2 e2 h4
            have a2 : szN n2 + 2 * (j1 + 1) ≤ 2 * j2 := st_sz f 0 _ _ _ _ _ _ _ _ h4
            cases h
            rw [szN_mk, szL_cons, szL_cons, szL_nil]
            omega
        · cases h
    · cases h
  | f + 1, m + 4, k, d, e, i, ks, n, j, e1, h => by rw [stF] at h; cases h
theorem out_sz {G d : Nat} {e : Env0} {i : Nat} {n : Nd} {j : Nat} {e1 : Env0} (h : outT L F G d e i = some (.ok (n, j, e1))) : szN n + 2 * i ≤ 2 * j := by
  unfold outT at h
  split at h
  · injection h with h
    exact dco_sz h
  · split at h
    · split at h
      · cases h
      · rename_i n1 k1 e2 hd
        have a1 := dcl_sz hd
        split at h
        · unfold funT at h
          split at h
          · split at h
            · cases h
            · rename_i ks k e3 hp
              have a2 := lps_sz hp
              split at h
              · cases h
              · cases h
              · rename_i b k2 e4 hb
                have a3 : szN b + 2 * k ≤ 2 * k2 := st_sz _ 1 _ _ _ _ _ _ _ _ hb
                cases h
                show szN (.mk 3 (-1) (.mk 16 (i : Int) [] :: n1 :: (ks ++ [b]))) + 2 * i ≤ _
                rw [szN_mk, szL_cons, szL_cons, szL_app, szL_cons, szL_nil, szN_mk 16, szL_nil]
                omega
          · cases h
        · injection h with h
          have a2 := ded_sz h
          rw [szN_mk 16, szL_nil] at a2
          omega
    · cases h
theorem uni_sz {G : Nat} : ∀ (f : Nat) {e : Env0} {i : Nat} {ks : List Nd} {n : Nd}, (∀ (e : Env0) i n j e1, outT L F G 0 e i = some (.ok (n, j, e1)) → i ≤ L.length → j ≤ L.length) → uniF L F G f e i ks = some (.ok n) → i ≤ L.length → szL ks ≤ 2 * i → szN n ≤ 2 * L.length + 1
  | 0, e, i, ks, n, hb, h, hi, hk => by unfold uniF at h; cases h
  | f + 1, e, i, ks, n, hb, h, hi, hk => by
    unfold uniF at h
    split at h
    · cases h
      rw [szN_mk]
      omega
    · split at h
      · cases h
      · cases h
      · rename_i n1 j1 e1 h1
        have a1 := out_sz h1
        refine uni_sz f hb h (hb _ _ _ _ _ h1 hi) ?_
        rw [szL_app, szL_cons, szL_nil]
        omega
end
theorem pars_sz {L : List Tk} (hL : Lets L) {n : Nd} (h : parsL L = .ok n) : szN n ≤ 2 * L.length + 1 := by
  have := pars_is L
  rw [h] at this
  exact uni_sz _ (fun e i n j e1 h1 hi => (out_cov hL h1).1.2 hi) this (Nat.zero_le _) (by rw [szL_nil]; omega)
end Go.Proofs.Ytocklchafmlfkaa
