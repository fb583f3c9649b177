/- Plain facts of what is bound; walks of the statements' own toks and of the closed fact that they ask first. -/
import Derived.Test.YtkfbhknhjpmomaaScTA
import Derived.Test.YtkfbhknhjpmomaaScOA
import Derived.Test.YtkfbhknhjpmomaaScCA
import Derived.Test.YtkfbhknhjpmomaaLxTokens
import Derived.Test.YtkfbhknhjpmomaaRxJoin
import Derived.Test.YtkfbhknhjpmomaaLxSmall
namespace Go.Proofs.Ytkfbhknhjpmomaa
section
variable {L : List Tk}
/-- What is told of binds. -/
structure MadeB (L : List Tk) (bs : List (Nat × Nat)) : Prop where
  rise : Rise bs
  tok : ∀ (k : Nat) p, bs[k]? = some p → p.1 < L.length ∧ p.2 ≤ p.1 ∧ txtT L p.2 = txtT L p.1 ∧ ofR bs (p.2 : Int) = (p.2 : Int)
  all : ∀ i, i < L.length → (0 ≤ ofR bs (i : Int) ↔ nameT L i = true)
theorem rise_of {bs : List (Nat × Nat)} (h : (bs.map Prod.fst).Pairwise (· < ·)) : Rise bs := by
  intro j k p q hjk hp hq
  obtain ⟨hj, rfl⟩ := List.getElem?_eq_some_iff.1 hp
  obtain ⟨hk, rfl⟩ := List.getElem?_eq_some_iff.1 hq
  have := List.pairwise_iff_getElem.1 h j k (by simpa using hj) (by simpa using hk) hjk
  simpa using this
theorem of_at {bs : List (Nat × Nat)} (hr : Rise bs) {k : Nat} {p : Nat × Nat} (hp : bs[k]? = some p) : ofR bs (p.1 : Int) = (p.2 : Int) := by
  refine of_some (i := k) ⟨by have := (List.getElem?_eq_some_iff.1 hp).1; omega, fun j q hj hq => ?_, fun j q hj hq => ?_⟩ hp (by simp)
  · have := hr j k q p hj hq hp
    omega
  · by_cases e : j = k
    · subst e; rw [hp] at hq; cases hq; exact Int.le_refl _
    · have := hr k j p q (by omega) hp hq
      omega
theorem of_noneB {bs : List (Nat × Nat)} {y : Int} (h : ∀ (k : Nat) p, bs[k]? = some p → (p.1 : Int) ≠ y) : ofR bs y = -1 := by
  unfold ofR
  rw [List.find?_eq_none.2 (fun p hp => ?_)]
  obtain ⟨k, hk⟩ := List.getElem?_of_mem hp
  simpa using h k p hk
theorem madeB_of (hL : LetsR L) {n : Nd} {b : List (Nat × Nat)} (hp : parsR L = .ok n) (hr : resR L n = .ok b) : MadeB L b := by
  obtain ⟨hc, hz⟩ := parsR_gd hL hp
  obtain ⟨hm, hd⟩ := resR_md hc hr
  have hri : Rise b := rise_of (by rw [hm]; exact hc.2.2.1)
  have hmem : ∀ (k : Nat) p, b[k]? = some p → p.1 ∈ mtN L n := fun k p hk => by
    rw [← hm]
    exact List.mem_map_of_mem (List.mem_of_getElem? hk)
  refine ⟨hri, fun k p hk => ?_, fun i hi => ?_⟩
  · obtain ⟨h1, j, hj, h2⟩ := hd k p hk
    refine ⟨(hc.2.1 _ (hmem k p hk)).2.1, ?_, h1, of_at (p := (p.2, p.2)) hri h2⟩
    by_cases e : j = k
    · subst e
      have e2 : p = (p.2, p.2) := Option.some.inj (hk.symm.trans h2)
      have e3 := congrArg Prod.fst e2
      dsimp only at e3
      omega
    · have := hri j k _ _ (by omega) h2 hk
      exact Nat.le_of_lt this
  · constructor
    · intro h
      apply Classical.byContradiction
      intro hn
      rw [of_noneB (fun k p hk e => ?_)] at h
      · omega
      · have e : p.1 = i := by omega
        exact hn (e ▸ (hc.2.1 _ (hmem k p hk)).2.2)
    · intro h
      have hx := hc.2.2.2 i (Nat.zero_le _) hi h
      rw [← hm] at hx
      obtain ⟨p, hpm, hpe⟩ := List.mem_map.1 hx
      obtain ⟨k, hk⟩ := List.getElem?_of_mem hpm
      rw [← hpe, of_at hri hk]
      omega
theorem res_few {n : Nd} {b : List (Nat × Nat)} (hr : resR L n = .ok b) : b.length ≤ zN n := by
  unfold resR at hr
  split at hr
  · cases hr
  · rename_i f' b' h
    cases hr
    exact ((rs_len L (zN n)).1 n [] [] (Nat.le_refl _) _ _ h).1
theorem txt_eq {i j : Nat} {a b : Tk} (hi : L[i]? = some a) (hj : L[j]? = some b) (h : txtT L i = txtT L j) : a.text = b.text := by
  unfold txtT at h
  rw [hi, hj] at h
  dsimp only at h
  apply ByteArray.ext
  exact Array.toList_inj.1 h
/-- What can be wrong. -/
def errOk (R : GotB) : Prop := ∀ y, R = .error y → y.1 = 6 ∨ y.1 = 7
theorem errOk.then {x : GotB} {g : Fr → GotB} (h1 : errOk x) (h2 : ∀ f, errOk (g f)) : errOk (thenR x g) := by
  intro y h
  rcases x with z | ⟨f1, b1⟩
  · exact h1 y h
  · simp only [thenR] at h
    rcases hg : g f1 with z | ⟨f2, b2⟩
    · rw [hg] at h
      cases h
      exact h2 f1 _ hg
    · rw [hg] at h; cases h
theorem errOk.keep {f : Fr} {x : GotB} (h : errOk x) : errOk (keepF f x) := by
  intro y hy
  rcases x with z | ⟨f1, b1⟩
  · exact h y hy
  · cases hy
theorem errOk.ok (f : Fr) (b : List (Nat × Nat)) : errOk (.ok (f, b)) := fun y h => by cases h
theorem errOk.use (tk : Nat) (f : Fr) (fs : List Fr) : errOk (usR L tk f fs) := by
  intro y h
  unfold usR at h
  split at h
  · cases h
  · cases h; exact .inl rfl
theorem errOk.made (tk : Nat) (f : Fr) : errOk (mkR L tk f) := by
  intro y h
  unfold mkR at h
  split at h
  · cases h; exact .inr rfl
  · cases h
theorem rs_err : ∀ z : Nat, (∀ (n : Nd), zN n ≤ z → ∀ f fs, errOk (rsN L n f fs)) ∧ (∀ (ks : List Nd), zL ks ≤ z → ∀ f fs, errOk (rsL L ks f fs))
  | 0 => by
    refine ⟨fun n hz => ?_, fun ks hz f fs => ?_⟩
    · have := zN_pos n; omega
    · cases ks with
      | nil => rw [rsL_nil]; exact errOk.ok _ _
      | cons n r => rw [zL_cons] at hz; have := zN_pos n; omega
  | z + 1 => by
    obtain ⟨hN, hK⟩ := rs_err z
    have hN1 : ∀ (n : Nd), zN n ≤ z + 1 → ∀ f fs, errOk (rsN L n f fs) := by
      rintro ⟨kd, tk, ks⟩ hz f fs
      rw [zN_mk] at hz
      have hks := fun f fs => hK ks (by omega) f fs
      rw [rsN_mk]
      split
      · exact (errOk.made _ f).then (fun f1 => hks f1 fs)
      · split
        · exact (errOk.use _ f fs).then (fun f1 => hks f1 fs)
        · split
          · split
            · exact hks f fs
            · exact (errOk.use _ f fs).then (fun f1 => hks f1 fs)
          · split
            · match ks, hz with
              | [], _ => rw [rsF]; exact errOk.ok _ _; all_goals (intros; simp_all)
              | [t], _ => rw [rsF]; exact errOk.ok _ _; all_goals (intros; simp_all)
              | t :: m :: r, hz =>
                rw [zL_cons, zL_cons] at hz
                rw [rsF_two]
                have hp : ∀ (r : List Nd), zL r ≤ z → ∀ f fs, errOk (rsP L r f fs) := by
                  intro r
                  induction r with
                  | nil => intro hz f fs; rw [rsP]; exact errOk.ok _ _
                  | cons n r ih =>
                    intro hz f fs
                    rw [zL_cons] at hz
                    rw [rsP_cons]
                    split
                    · obtain ⟨kd, tk, ks⟩ := n
                      rw [rsB_mk]
                      rw [zN_mk] at hz
                      exact hK ks (by omega) f fs
                    · exact (hN n (by omega) f fs).then (fun f1 => ih (by omega) f1 fs)
                exact ((hN t (by omega) f fs).then (fun f1 => hN m (by omega) f1 fs)).then (fun f1 => (hp r (by omega) [] (f1 :: fs)).keep)
            · split
              · exact (hks [] (f :: fs)).keep
              · exact hks f fs
    refine ⟨hN1, fun ks hz f fs => ?_⟩
    cases ks with
    | nil => rw [rsL_nil]; exact errOk.ok _ _
    | cons n r =>
      rw [zL_cons] at hz
      have := zN_pos n
      rw [rsL_cons]
      exact (hN1 n (by omega) f fs).then (fun f1 => hK r (by omega) f1 fs)
theorem res_ne {n : Nd} {y : Int × Nat} (h : resR L n = .error y) : y.1 ≠ 0 := by
  unfold resR at h
  split at h
  · rename_i z hr
    cases h
    have := (rs_err (L := L) (zN n)).1 n (Nat.le_refl _) [] [] _ hr
    omega
  · cases h
end
section
/-- The text that is asked first. -/
def aliveS : List UInt8 := [105, 110, 116, 32, 120, 59, 32, 105, 110, 116, 32, 102, 40, 105, 110, 116, 32, 121, 41, 32, 123, 32, 105, 110, 116, 32, 120, 59, 32, 120, 32, 61, 32, 121, 59, 32, 114, 101, 116, 117, 114, 110, 32, 102, 40, 120, 41, 59, 32, 125]
def asksB : Except (Int × Nat) (List (Nat × Nat)) → Bool
  | .error _ => false
  | .ok b => decide (b.length = 8) && decide (ofR b 13 = 11) && decide (ofR b 0 = -1)
def asksS (L : List Tk) : Got Nd → Bool
  | .error _ => false
  | .ok n => asksB (resR L n)
theorem aliveS_ok : asksS (toksF 0 aliveS).1 (parsR (toksF 0 aliveS).1) = true := by decide +kernel
theorem aliveS_is : ∃ n b, parsR (toksF 0 aliveS).1 = .ok n ∧ resR (toksF 0 aliveS).1 n = .ok b ∧ b.length = 8 ∧ ofR b 13 = 11 ∧ ofR b 0 = -1 := by
  have h := aliveS_ok
  cases hp : parsR (toksF 0 aliveS).1 with
  | error x => rw [hp] at h; cases h
  | ok n =>
    rw [hp] at h
    have h : asksB (resR (toksF 0 aliveS).1 n) = true := h
    cases hr : resR (toksF 0 aliveS).1 n with
    | error x => rw [hr] at h; cases h
    | ok b =>
      rw [hr] at h
      unfold asksB at h
      simp only [Bool.and_eq_true, decide_eq_true_eq] at h
      exact ⟨n, b, rfl, hr, h.1.1, h.1.2, h.2⟩
end
section
open Go.RowKit Go.Shelf
/-- What toks answers. -/
def ToksS (l : List UInt8) (w : World) (e : Ending) (w' : World) : Prop := ∃ a c, e = .returned (.slice a (toksF 0 l).1.length c) ∧ TAt w' a (toksF 0 l).1 ∧ Below w.heap.size w w' ∧ (toksF 0 l).1.length ≤ c
set_option maxRecDepth 100000 in
theorem toksS_any (HR : RToks) (s : ByteArray) (w : World) : Calls Try.prog 6 #[.string s] w (ToksS s.data.toList w) := by
  have HT := hid (HR 0 s w)
  unfold TokPost faultV at HT
  clear HR
  unfold ToksS
  generalize (toksF 0 s.data.toList).1 = ts at HT ⊢
  go_enter Try.func6, Try.ntmps6
  go_wp2_with fail
  refine HT.out.mono ?_
  rintro e w1 ⟨a, c, rfl, hT, hb1, hcap⟩
  have HT1 := hid hT
  have HB1 := hid hb1
  have HC := hid hcap
  clear hT hb1 hcap HT
  go_wp2_with fail
  go_ret
  exact ⟨a, c, rfl, HT1.out.below ((Below.refl _ w1).alloc (Nat.le_refl _) _), HB1.out.trans (((Below.refl _ w1).alloc (Nat.le_refl _) _).mono HB1.out.size), HC.out⟩
/-- A tree and no fault, as they are laid behind Parse. -/
def putNF (w : World) (x : Nv) (e f a : Int) : World := (w.alloc (boxN x)).alloc (.cells #[.int .i64 e, .int .i64 f, .int .i64 a] 29)
theorem putNF_facts (w : World) (x : Nv) (e f a : Int) : Below w.heap.size w (putNF w x e f a) ∧ (putNF w x e f a).heap.size = w.heap.size + 1 + 1 ∧ (putNF w x e f a).heap[w.heap.size]? = some (boxN x) ∧ (putNF w x e f a).heap[w.heap.size + 1]? = some (.cells #[.int .i64 e, .int .i64 f, .int .i64 a] 29) := by
  have h1 := below_new w (boxN x)
  have h2 := below_new (w.alloc (boxN x)) (.cells #[.int .i64 e, .int .i64 f, .int .i64 a] 29)
  have s1 : (w.alloc (boxN x)).heap.size = w.heap.size + 1 := by simp
  have k2 := heap_alloc_new (w.alloc (boxN x)) (.cells #[.int .i64 e, .int .i64 f, .int .i64 a] 29)
  rw [s1] at k2
  exact ⟨h1.trans (h2.mono (by omega)), by unfold putNF; simp, (h2.block _ (by omega)).trans (heap_alloc_new w (boxN x)), k2⟩
set_option maxRecDepth 100000 in
set_option maxHeartbeats 2000000 in
theorem aliveS_any (HR : RToks) (w : World) : Calls Try.prog 13 #[] w fun e w' => e = .returned (.bool true) ∧ Below w.heap.size w w' := by
  have HT : Hid (∀ W, Calls Try.prog 6 #[.string ⟨#[105, 110, 116, 32, 120, 59, 32, 105, 110, 116, 32, 102, 40, 105, 110, 116, 32, 121, 41, 32, 123, 32, 105, 110, 116, 32, 120, 59, 32, 120, 32, 61, 32, 121, 59, 32, 114, 101, 116, 117, 114, 110, 32, 102, 40, 120, 41, 59, 32, 125]⟩] W (ToksS aliveS W)) := fun W => toksS_any HR ⟨aliveS.toArray⟩ W
  have hfew : (toksF 0 aliveS).1.length ≤ 6000 := Nat.le_trans (toks_small 0 aliveS).1 (by decide)
  have HP := hid (fun a c W hT => RParseT_any (la := a) (lc := c) (toks_full 0 aliveS) (toks_small 0 aliveS).2 W hT hfew)
  obtain ⟨n, b, hpars, hres, hb8, h13, h0⟩ := aliveS_is
  obtain ⟨hcv, hz⟩ := parsR_gd (toks_letsR 0 aliveS) hpars
  have HS := hid (fun a c x W hT hx => Resolve_any (la := a) (lc := c) (n := n) (x := x) (toks_small 0 aliveS).2 W hT hfew hx (cv_wf hcv) (by omega))
  have hri := (madeB_of (toks_letsR 0 aliveS) hpars hres).rise
  unfold QPost aggN at HP
  unfold SPost aggN at HS
  rw [hpars] at HP
  rw [hres] at HS
  dsimp only at HP HS
  rw [hb8] at HS
  have HO13 : Hid (∀ (a : Option Addr) (c : Nat) (W : World), BdAt W a b → Calls Try.prog 11 #[.slice a 8 c, .int .i64 13] W fun e w' => e = .returned (.int .i64 11) ∧ Below W.heap.size W w') := fun a c W hW => by
    have := Of_any a c b 13 W hW hri (by omega)
    rwa [hb8, h13] at this
  have HO0 : Hid (∀ (a : Option Addr) (c : Nat) (W : World), BdAt W a b → Calls Try.prog 11 #[.slice a 8 c, .int .i64 0] W fun e w' => e = .returned (.int .i64 (-1)) ∧ Below W.heap.size W w') := fun a c W hW => by
    have := Of_any a c b 0 W hW hri (by omega)
    rwa [hb8, h0] at this
  have HBo : Hid (∀ (W : World) (base : Nat) (a : Option Addr) (c : Nat), W.ownsRow base 40 2 (.slice a 8 c) 8 (cellsBd b) → BdAt W a b) := fun W base a c h => by
    have h : W.ownsRow base 40 2 (.slice a 8 c) b.length (cellsBd b) := by rw [hb8]; exact h
    exact BdAt.of h
  clear hpars hres hb8 h13 h0 hcv hz hri hfew
  unfold ToksS at HT
  generalize (toksF 0 aliveS).1 = L at *
  go_enter Try.func13, Try.ntmps13
  go_wp2_with fail
  refine (HT.out _).mono ?_
  rintro e w1 ⟨a, c, rfl, hT1, hb1, _⟩
  have HB1 := hid hb1
  have HT1 := hid hT1
  have HP1 := hid (HP.out a c w1 hT1)
  clear hT1 hb1 HT HP
  go_wp2_with fail
  refine HP1.out.mono ?_
  rintro e w2 ⟨hb2, x, rfl, hx⟩
  have HB2 := hid (HB1.out.trans (hb2.mono HB1.out.size))
  obtain ⟨xk, xt, xa, xn, xc⟩ := x
  obtain ⟨g1, g2, g3, g4⟩ := putNF_facts w2 ⟨xk, xt, xa, xn, xc⟩ 0 (-1) 0
  have HT3 := hid (HT1.out.below (hb2.trans (g1.mono hb2.size)))
  have HS3 := hid (HS.out a c ⟨xk, xt, xa, xn, xc⟩ (putNF w2 ⟨xk, xt, xa, xn, xc⟩ 0 (-1) 0) HT3.out ((hx.mono fun b hb hlt => hlt).kept (fun b hb _ => g1.block b hb) |>.mono fun b hb hlt => hlt))
  have HB3 := hid (HB2.out.trans (g1.mono HB2.out.size))
  obtain ⟨⟨s0, s1, s2⟩, _⟩ := boxN_facts g3
  unfold putNF boxN at s0 s1 s2 HS3 HB3
  dsimp only at s0 s1 s2 HS3 HB3
  clear hb2 hx HP1 HB1 HB2 HT1 HT3 HS g1 g2 g3 g4
  go_wp2_with fail
  refine HS3.out.mono ?_
  rintro e w4 ⟨hb4, ba, bc, rfl, hrow⟩
  have HB4 := hid (HB3.out.trans (hb4.mono HB3.out.size))
  have HBd := hid (HBo.out _ _ _ _ hrow)
  have HB5 := hid (HB4.out.trans ((below_new w4 (.cells #[.int .i64 0, .int .i64 (-1), .int .i64 0] 29)).mono HB4.out.size))
  have HBd5 := hid (HBd.out.below (below_new w4 (.cells #[.int .i64 0, .int .i64 (-1), .int .i64 0] 29)))
  clear hb4 hrow HS3 HB3 s0 s1 s2 HBo HB4 HBd
  have HQ1 := hid (HO13.out ba bc _ HBd5.out)
  go_wp2_with fail
  refine HQ1.out.mono ?_
  rintro e w6 ⟨rfl, hb6⟩
  have HB6 := hid (HB5.out.trans (hb6.mono HB5.out.size))
  have HQ2 := hid (HO0.out ba bc _ (HBd5.out.below hb6))
  clear hb6 HQ1 HBd5
  go_wp2_with fail
  refine HQ2.out.mono ?_
  rintro e w7 ⟨rfl, hb7⟩
  have HB7 := hid (HB6.out.trans (hb7.mono HB6.out.size))
  clear hb7 HQ2
  go_wp2_with fail
  go_ret
  exact ⟨rfl, HB7.out⟩
end
end Go.Proofs.Ytkfbhknhjpmomaa
