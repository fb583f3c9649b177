/- Walk of the document's own Walk. -/
import Derived.Test.YtkfbhknhjpmomaaScWc
import Derived.Test.YtkfbhknhjpmomaaScTA
import Derived.Test.YtkfbhknhjpmomaaScSmall
namespace Go.Proofs.Ytkfbhknhjpmomaa
open Go.RowKit Go.Shelf Go.Maps Go.WideMaps
/-- Names of tokens that are not great. -/
def NmOk (n : Nm2) : Prop := (∀ p ∈ n.1, p.2 ≤ 1000000) ∧ ∀ p ∈ n.2, p.2 ≤ 1000000
theorem NmOk.look {n : Nm2} (h : NmOk n) : ∀ x d, lookF n.1 x = some d → d ≤ 1000000 := fun _ _ hd => h.1 _ (look_mem hd)
theorem NmOk.make {L : List Tk} {n : Nm2} (h : NmOk n) {tk : Nat} (htk : tk ≤ 1000000) (st : StR) : NmOk (makeE L n tk st).1 := by
  unfold makeE
  split
  · exact h
  · refine ⟨fun p hp => ?_, fun p hp => ?_⟩
    · rcases List.mem_cons.1 hp with rfl | hp
      · exact htk
      · exact h.1 p hp
    · rcases List.mem_cons.1 hp with rfl | hp
      · exact htk
      · exact h.2 p hp
theorem NmOk.inner {n : Nm2} (h : NmOk n) : NmOk (n.1, []) := ⟨h.1, fun p hp => by cases hp⟩
section
variable (base r ob : Nat) (la : Option Addr) (lc : Nat) (L : List Tk)
/-- What is behind a walk. -/
def WkPost (M : Nat) (R : Nm2 × StR) (w : World) (q : Ending) (w' : World) : Prop := ∃ v', q = .returned v' ∧ Nm2At w' ob v' R.1 ∧ NmOk R.1 ∧ SrAt w' r ob la lc L R.2 M ∧ Kept (fun b => b = r ∨ b = ob) w w'
def WkC (N : Nat) : Prop := ∀ (n : Nd) (x : Nv) (w : World) (v : Value) (nm : Nm2) (st : StR) (M : Nat), zN n ≤ N → (∀ t ∈ mtN L n, t < L.length) → NdIs w (· < base) x n → Nm2At w ob v nm → NmOk nm → SrAt w r ob la lc L st M → M + zN n ≤ 500000 → nm.1.length + zN n ≤ 500000 → nm.2.length + zN n ≤ 500000 →
  Calls Try.prog 22 #[.pointer (some ⟨r, 0, none⟩), v, aggN x] w (WkPost r ob la lc L (M + zN n) (rfN L n nm st) w)
/-- Ahead of a round. -/
def LpSt (w2 : World) (C : Nat) (ks : List Nd) (R : Nm2 × StR) (M0 E j : Nat) (wr : World) : Prop := ∃ (a i : Nat) (nm : Nm2) (st : StR), wr.heap[C]? = some (.cells #[.map (some a), .map (some i)] 72) ∧ Nm2At wr ob (.agg #[.map (some a), .map (some i)]) nm ∧ NmOk nm ∧ SrAt wr r ob la lc L st (M0 + zL (ks.take j)) ∧ rfL L (ks.drop j) nm st = R ∧ Kept (fun b => b = r ∨ b = ob ∨ b = C) w2 wr ∧ nm.1.length + zL (ks.drop j) + E ≤ 500000 ∧ nm.2.length + zL (ks.drop j) + E ≤ 500000
end
section
variable {base r ob : Nat} {la : Option Addr} {lc : Nat} {L : List Tk}
theorem zL_take {ks : List Nd} {j : Nat} {kd : Nd} (h : ks[j]? = some kd) : zL (ks.take (j + 1)) = zL (ks.take j) + zN kd := by
  have h1 : zL ks = zL (ks.take j) + zL (ks.drop j) := by rw [← zL_app, List.take_append_drop]
  have h2 : zL ks = zL (ks.take (j + 1)) + zL (ks.drop (j + 1)) := by rw [← zL_app, List.take_append_drop]
  have h3 := zL_drop h
  omega
theorem lp_next {w2 wr w3 w4 : World} {C : Nat} {ks : List Nd} {R : Nm2 × StR} {M0 E j : Nat} {kd : Nd} {nm : Nm2} {st : StR} {a i : Nat} {q : Ending} (hlo : ∀ b off, la = some ⟨b, off, none⟩ → L ≠ [] → b ≠ C) (hCr : C ≠ r) (hCo : C ≠ ob) (hkd : ks[j]? = some kd)
    (h1 : wr.heap[C]? = some (.cells #[.map (some a), .map (some i)] 72)) (h5 : rfL L (ks.drop j) nm st = R) (h6 : Kept (fun b => b = r ∨ b = ob ∨ b = C) w2 wr) (h7 : nm.1.length + zL (ks.drop j) + E ≤ 500000) (h8 : nm.2.length + zL (ks.drop j) + E ≤ 500000)
    (hb : Below wr.heap.size wr w3) (hp : WkPost r ob la lc L (M0 + zL (ks.take j) + zN kd) (rfN L kd nm st) w3 q w4) :
    ∃ a' i', q = .returned (.agg #[.map (some a'), .map (some i')]) ∧ w4.heap[C]? = some (.cells #[.map (some a), .map (some i)] 72) ∧ LpSt r ob la lc L w2 C ks R M0 E (j + 1) ((w4.setCell ⟨C, 0, none⟩ (.map (some a'))).setCell ⟨C, 1, none⟩ (.map (some i'))) := by
  obtain ⟨v', rfl, ⟨a', i', rfl, m1, m2, m3, m4⟩, hok, hS, hk⟩ := hp
  have hCl := lt_of_block h1
  have h1' := (hk.block C (by have := hb.size; omega) (by omega)).trans ((hb.block C hCl).trans h1)
  have hCO : CellO w4 C := ⟨_, _, _, h1', by decide, by decide⟩
  have hne1 : a' ≠ C := fun e => by subst e; exact m1.noCell hCO
  have hne2 : i' ≠ C := fun e => by subst e; exact m2.noCell hCO
  have hz := zL_drop hkd
  obtain ⟨l1, l2⟩ := rfN_len (L := L) kd nm st
  refine ⟨a', i', rfl, h1', a', i', (rfN L kd nm st).1, (rfN L kd nm st).2, nm_put _ _ h1', ⟨a', i', rfl, m1.same (nm_other _ _ _ hne1), m2.same (nm_other _ _ _ hne2), m3, m4⟩, hok, ?_, ?_, ?_, by omega, by omega⟩
  · rw [zL_take hkd, ← Nat.add_assoc]
    exact hS.putB hCr.symm hCo.symm hlo
  · rw [← h5, drop_at hkd, rfL_cons]
  · have k1 : Kept (fun b => b = r ∨ b = ob ∨ b = C) w2 w4 := (h6.trans (kept_of_below hb)).trans (hk.mono fun b hb => by rcases hb with h | h; exact .inl h; exact .inr (.inl h))
    exact (k1.setCell (a := ⟨C, 0, none⟩) (.inr (.inr rfl)) _).setCell (a := ⟨C, 1, none⟩) (.inr (.inr rfl)) _
/-- Behind the first region. -/
def walkW (w : World) (a i : Nat) (x : Nv) : World := ((w.alloc (.cells #[.map (some a), .map (some i)] 72)).alloc (boxN x)).alloc (.cells #[.map none, .map none] 72)
theorem walkW_facts (w : World) (a i : Nat) (x : Nv) : Below w.heap.size w (walkW w a i x) ∧ (walkW w a i x).heap.size = w.heap.size + 3 ∧ (walkW w a i x).heap[w.heap.size]? = some (.cells #[.map (some a), .map (some i)] 72) ∧ (walkW w a i x).heap[w.heap.size + 1]? = some (boxN x) ∧ (walkW w a i x).heap[w.heap.size + 2]? = some (.cells #[.map none, .map none] 72) := by
  unfold walkW
  have h1 := below_new w (.cells #[.map (some a), .map (some i)] 72)
  have k1 := heap_alloc_new w (.cells #[.map (some a), .map (some i)] 72)
  have s1 : (w.alloc (.cells #[.map (some a), .map (some i)] 72)).heap.size = w.heap.size + 1 := by simp
  generalize w.alloc (.cells #[.map (some a), .map (some i)] 72) = w1 at *
  have h2 := below_new w1 (boxN x)
  have k2 := heap_alloc_new w1 (boxN x)
  have s2 : (w1.alloc (boxN x)).heap.size = w.heap.size + 2 := by simp [s1]
  rw [s1] at k2
  generalize w1.alloc (boxN x) = w2 at *
  have h3 := below_new w2 (.cells #[.map none, .map none] 72)
  have k3 := heap_alloc_new w2 (.cells #[.map none, .map none] 72)
  have s3 : (w2.alloc (.cells #[.map none, .map none] 72)).heap.size = w.heap.size + 3 := by simp [s2]
  rw [s2] at k3
  generalize w2.alloc (.cells #[.map none, .map none] 72) = w3 at *
  exact ⟨(h1.trans (h2.mono (by omega))).trans (h3.mono (by omega)), s3, (h3.block _ (by omega)).trans ((h2.block _ (by omega)).trans k1), (h3.block _ (by omega)).trans k2, k3⟩
/-- Its end. -/
theorem wk_fin {w w9 : World} {a i M : Nat} {R : Nm2 × StR} (hlo : ∀ b off, la = some ⟨b, off, none⟩ → L ≠ [] → b < w.heap.size) (hr : r < w.heap.size) (ho : ob < w.heap.size) (h2 : w9.heap[w.heap.size + 2]? = some (.cells #[.map none, .map none] 72)) (hN : Nm2At w9 ob (.agg #[.map (some a), .map (some i)]) R.1) (hok : NmOk R.1) (hS : SrAt w9 r ob la lc L R.2 M) (hK : Kept (fun b => b = r ∨ b = ob) w w9) :
    WkPost r ob la lc L M R w (.returned (.agg #[.map (some a), .map (some i)])) ((w9.setCell ⟨w.heap.size + 2, 0, none⟩ (.map (some a))).setCell ⟨w.heap.size + 2, 1, none⟩ (.map (some i))) := by
  obtain ⟨a', i', ev, m1, m2, m3, m4⟩ := hN
  cases ev
  have hCO : CellO w9 (w.heap.size + 2) := ⟨_, _, _, h2, by decide, by decide⟩
  refine ⟨_, rfl, ⟨a, i, rfl, m1.same (nm_other _ _ _ (fun e => by subst e; exact m1.noCell hCO)), m2.same (nm_other _ _ _ (fun e => by subst e; exact m2.noCell hCO)), m3, m4⟩, hok, hS.putB (by omega) (by omega) (fun b off e hL => by have := hlo b off e hL; omega), ?_⟩
  exact (hK.setFar (a := ⟨w.heap.size + 2, 0, none⟩) (by simp) _).setFar (a := ⟨w.heap.size + 2, 1, none⟩) (by simp) _
theorem mtL_mem {L : List Tk} {t : Nat} : ∀ {ks : List Nd} {kd : Nd}, kd ∈ ks → t ∈ mtN L kd → t ∈ mtL L ks
  | [], kd, h, _ => by cases h
  | x :: r, kd, h, ht => by
    rw [mtL_cons]
    rcases List.mem_cons.1 h with rfl | h
    · exact List.mem_append_left _ ht
    · exact List.mem_append_right _ (mtL_mem h ht)
theorem make_len (n : Nm2) (tk : Nat) (st : StR) : (makeE L n tk st).1.1.length ≤ n.1.length + 1 ∧ (makeE L n tk st).1.2.length ≤ n.2.length + 1 := by
  unfold makeE
  split
  · exact ⟨Nat.le_succ _, Nat.le_succ _⟩
  · exact ⟨Nat.le_refl _, Nat.le_refl _⟩
theorem last_is : ∀ {r : List Nd}, lastOk r = true → ∃ ps bt bks, r = ps ++ [.mk 5 bt bks]
  | [], h => by cases h
  | x :: r, h => by
    unfold lastOk at h
    split at h
    · rename_i he
      have e : r = [] := by simpa using he
      subst e
      obtain ⟨k, t, s⟩ := x
      have hk : k = 5 := of_decide_eq_true h
      subst hk
      exact ⟨[], t, s, rfl⟩
    · obtain ⟨ps, bt, bks, rfl⟩ := last_is h
      exact ⟨x :: ps, bt, bks, rfl⟩
set_option maxRecDepth 100000 in
set_option maxHeartbeats 8000000 in
theorem wk_step (hlo : ∀ b off, la = some ⟨b, off, none⟩ → L ≠ [] → b < base) (hbr : base ≤ r) (hbo : base ≤ ob) (hts : ∀ t ∈ L, t.text.size ≤ 3000) (hfew : L.length ≤ 6000) (N : Nat) (hN : WkC base r ob la lc L N) : WkC base r ob la lc L (N + 1) := by
  intro n x w v nm st M hz hmt hx hNm hok hS hM hl1 hl2
  obtain ⟨kd, tk, ks⟩ := n
  obtain ⟨xk, xt, xa, xn, xc⟩ := x
  obtain rfl : xk = kd := hx.kind
  obtain rfl : xt = tk := hx.tok
  obtain rfl : xn = ks.length := by
    obtain ⟨_, _, hae, _, _⟩ := NwAt.of (show KidsAt w (· < base) (.slice xa xn xc) ks from hx.kids)
    injection hae
  have hwf : wfN L.length (.mk xk xt ks) := (mt_wf (L := L) (zN (.mk xk xt ks))).1 _ (Nat.le_refl _) hmt
  obtain ⟨hw1, hw3, hwk⟩ := wfN_mk.1 hwf
  have hrl := hS.lt
  have hol := hS.olt
  rw [zN_mk] at hz hM hl1 hl2 ⊢
  obtain ⟨a, i, rfl, mA, mI, ma, mi⟩ := id hNm
  obtain ⟨f1, f2, f3, f4, f5⟩ := walkW_facts w a i ⟨xk, xt, xa, ks.length, xc⟩
  have HB1 := hid f1
  have HBx := hid (And.intro f3 (And.intro f4 f5))
  have HS1 := hid (hS.below f1)
  have HN1 := hid (hNm.below f1)
  have HOk := hid hok
  have hkn := NwAt.of (show KidsAt w (· < base) (.slice xa ks.length xc) ks from hx.kids)
  have HKn := hid (hkn.same f1.size (fun b _ hlt => f1.block b hlt))
  have hz1 : (walkW w a i ⟨xk, xt, xa, ks.length, xc⟩).heap.size = w.heap.size + 3 := f2
  have HLo : Hid (∀ b off, la = some ⟨b, off, none⟩ → L ≠ [] → b < w.heap.size) := fun b off e hL => by have := hlo b off e hL; omega
  have HWf := hid (And.intro hw1 (And.intro hw3 hwk))
  have HMk : Hid (∀ t ∈ mtL L ks, t < L.length) := fun t ht => hmt t (by rw [mtN_mk]; exact List.mem_append_right _ ht)
  have HMh : Hid (∀ t ∈ hdT L xk xt ks, t < L.length) := fun t ht => hmt t (by rw [mtN_mk]; exact List.mem_append_left _ ht)
  have HK1 := hid (kept_of_below (X := fun b => b = r ∨ b = ob) f1)
  generalize hRR : rfN L (.mk xk xt ks) nm st = R
  rw [rfN_mk] at hRR
  have HNc := hid hN
  unfold aggN
  clear f1 f2 f3 f4 f5 hS hNm hok hx hwf hw1 hw3 hwk hmt mA mI ma mi hkn hN
  go_enter Try.func22, Try.ntmps22
  go_upto_region 1 with fail
  change Code.wp _ _ _ _ (walkW w a i ⟨xk, xt, xa, ks.length, xc⟩)
  generalize walkW w a i ⟨xk, xt, xa, ks.length, xc⟩ = w1 at *
  obtain ⟨⟨x0, x1, x2⟩, _⟩ := boxN_facts HBx.out.2.1
  obtain ⟨y0, y1, _, _⟩ := nm_facts HBx.out.1
  dsimp only at x0 x1 x2
  have hlen : ks.length ≤ zL ks := zL_len ks
  by_cases k10 : xk = 10
  · subst k10
    obtain ⟨t, rfl⟩ : ∃ t : Nat, xt = (t : Int) := ⟨xt.toNat, by have := (HWf.out.1 (.inr (.inl rfl))).1; omega⟩
    have htl : t < L.length := by have := (HWf.out.1 (.inr (.inl rfl))).2; omega
    rw [if_neg (by omega), if_pos rfl, Int.toNat_natCast] at hRR
    have HU := hid (suse_any t htl hfew hts (by omega) HS1.out HN1.out HOk.out.look)
    have HRR := hid hRR
    clear hRR
    go_wp2_with fail
    refine HU.out.mono ?_
    rintro e w2 ⟨rfl, hS2, hk2⟩
    have hn2 := HN1.out.kept HS1.out.cellO hk2
    have hb0 := (hk2.block w.heap.size (by omega) (by omega)).trans HBx.out.1
    have hb2 := (hk2.block (w.heap.size + 2) (by omega) (by omega)).trans HBx.out.2.2
    have HF := hid (wk_fin (R := R) (M := M + (1 + zL ks)) HLo.out hrl hol hb2 (by rw [← HRR.out]; exact hn2) (by rw [← HRR.out]; exact HOk.out) (by rw [← HRR.out]; exact hS2.mono (by omega)) (HK1.out.trans hk2))
    have HB2 := hid hb2
    obtain ⟨u0, u1, _, _⟩ := nm_facts hb0
    obtain ⟨v0, v1, v2, v3⟩ := nm_facts hb2
    have hz2 := hk2.size
    clear hS2 hk2 hn2 hb0 hb2 x0 x1 x2 y0 y1 HU
    go_wp2_with fail
    exact bodyPost_ret (nm_ret Try.results22 (nm_put _ _ HB2.out) _ rfl) rfl HF.out
  by_cases k16 : xk = 16
  · subst k16
    obtain ⟨t, rfl⟩ : ∃ t : Nat, xt = (t : Int) := ⟨xt.toNat, by have := (HWf.out.1 (.inr (.inr rfl))).1; omega⟩
    have htl : t < L.length := by have := (HWf.out.1 (.inr (.inr rfl))).2; omega
    rw [if_pos rfl, Int.toNat_natCast] at hRR
    obtain ⟨tkn, htk⟩ : ∃ tkn, L[t]? = some tkn := ⟨_, List.getElem?_eq_getElem htl⟩
    have htx : txtT L t = tkn.text.data.toList := by unfold txtT; rw [htk]
    rcases HS1.out.toks with h0 | ⟨tb, off, hla, htbl, hcx⟩
    · rw [h0] at htl; simp at htl
    subst hla
    have q0 := Later.cell HS1.out.facts.1.1
    have q1 := Later.cell (hcx t tkn htk 1 _ rfl)
    have q2 := Later.cell x1
    have hnp : Nonempty (Later w1) := ⟨⟨w1, Below.refl _ _⟩⟩
    have i0 : (0 : Int) ≤ (t : Int) := by omega
    have i1 : (t : Int) < (L.length : Int) := by omega
    have HBa := hid (fun W => Base_any tkn.text W)
    rw [← htx] at HBa
    have HRR := hid hRR
    generalize tkn.text = X at *
    have hrl1 : r < w1.heap.size := HS1.out.lt
    clear hRR htk htx hcx
    cases hb : baseW (txtT L t) with
    | true =>
      rw [hb] at HBa
      have HRe : Hid (R = (nm, st)) := by show _ = _; rw [← HRR.out, if_pos hb]
      clear hb HRR
      go_wp2_with fail
      refine region_later (by kernel_rfl) (by kernel_rfl) ?_
      repeat (first | go_big_quiet_step ((go_at_call 44; exact Calls.later (HBa.out _))) | quiet_step ((go_at_call 44; exact Calls.later (HBa.out _))))
      refine wpQuiet_nil ?_
      rintro _ ⟨p, rfl⟩
      have hb2 := p.hb
      generalize p.W = w2 at *
      have hx2 := (hb2.block (w.heap.size + 2) (by omega)).trans HBx.out.2.2
      have hx0 := (hb2.block w.heap.size (by omega)).trans HBx.out.1
      have HF := hid (wk_fin (R := R) (M := M + (1 + zL ks)) HLo.out hrl hol hx2 (by rw [HRe.out]; exact HN1.out.below hb2) (by rw [HRe.out]; exact HOk.out) (by rw [HRe.out]; exact (HS1.out.below hb2).mono (by omega)) (HK1.out.trans (kept_of_below hb2)))
      have HB2 := hid hx2
      obtain ⟨u0, u1, _, _⟩ := nm_facts hx0
      obtain ⟨v0, v1, v2, v3⟩ := nm_facts hx2
      have hz2 := hb2.size
      clear hb2 hx2 hx0 x0 x1 x2 y0 y1 q0 q1 q2
      go_wp2_with fail
      exact bodyPost_ret (nm_ret Try.results22 (nm_put _ _ HB2.out) _ rfl) rfl HF.out
    | false =>
      rw [hb] at HBa
      have HRe : Hid (R = (nm, useE L nm t st)) := by show _ = _; rw [← HRR.out, if_neg (by rw [hb]; decide)]
      clear hb HRR
      go_wp2_with fail
      refine region_later (by kernel_rfl) (by kernel_rfl) ?_
      repeat (first | go_big_quiet_step ((go_at_call 44; exact Calls.later (HBa.out _))) | quiet_step ((go_at_call 44; exact Calls.later (HBa.out _))))
      refine wpQuiet_nil ?_
      rintro _ ⟨p, rfl⟩
      have hb2 := p.hb
      generalize p.W = w2 at *
      have hx2 := (hb2.block (w.heap.size + 2) (by omega)).trans HBx.out.2.2
      have hx0 := (hb2.block w.heap.size (by omega)).trans HBx.out.1
      obtain ⟨⟨p0, p1, p2⟩, _⟩ := boxN_facts ((hb2.block (w.heap.size + 1) (by omega)).trans HBx.out.2.1)
      dsimp only at p0 p1 p2
      obtain ⟨u0, u1, _, _⟩ := nm_facts hx0
      have HS2 := hid (HS1.out.below hb2)
      have HN2 := hid (HN1.out.below hb2)
      have HK2 := hid (HK1.out.trans (kept_of_below hb2))
      have hz2 := hb2.size
      have HU := hid (suse_any t htl hfew hts (by omega) HS2.out HN2.out HOk.out.look)
      have HX2 := hid (And.intro hx0 hx2)
      clear hb2 hx2 hx0 x0 x1 x2 y0 y1 q0 q1 q2
      go_wp2_with fail
      refine HU.out.mono ?_
      rintro e w3 ⟨rfl, hS3, hk3⟩
      have hn3 := HN2.out.kept HS2.out.cellO hk3
      have hb0 := (hk3.block w.heap.size (by omega) (by omega)).trans HX2.out.1
      have hb2 := (hk3.block (w.heap.size + 2) (by omega) (by omega)).trans HX2.out.2
      have HF := hid (wk_fin (R := R) (M := M + (1 + zL ks)) HLo.out hrl hol hb2 (by rw [HRe.out]; exact hn3) (by rw [HRe.out]; exact HOk.out) (by rw [HRe.out]; exact hS3.mono (by omega)) (HK2.out.trans hk3))
      have HB2 := hid hb2
      obtain ⟨s0, s1, _, _⟩ := nm_facts hb0
      obtain ⟨v0, v1, v2, v3⟩ := nm_facts hb2
      have hz3 := hk3.size
      clear hS3 hk3 hn3 hb0 hb2 p0 p1 p2 u0 u1 HU
      go_wp2_with fail
      exact bodyPost_ret (nm_ret Try.results22 (nm_put _ _ HB2.out) _ rfl) rfl HF.out
  rw [if_neg k16, if_neg k10] at hRR
  by_cases k4 : xk = 4
  · subst k4
    obtain ⟨t, rfl⟩ : ∃ t : Nat, xt = (t : Int) := ⟨xt.toNat, by have := (HWf.out.1 (.inl rfl)).1; omega⟩
    have htl : t < L.length := by have := (HWf.out.1 (.inl rfl)).2; omega
    rw [if_pos rfl, Int.toNat_natCast] at hRR
    have HU := hid (smake_any t htl hfew hts (by omega) HS1.out HN1.out (by omega) (by omega))
    have HOm := hid (HOk.out.make (L := L) (tk := t) (by omega) st)
    have HLm := hid (make_len (L := L) nm t st)
    have HR2m := hid hRR
    clear hRR
    go_wp2_with fail
    refine HU.out.mono ?_
    rintro e w2 ⟨v', rfl, ⟨a', i', rfl, m1, m2, m3, m4⟩, hS2, hk2⟩
    have hx0 := (hk2.block w.heap.size (by omega) (by omega)).trans HBx.out.1
    have hx1 := (hk2.block (w.heap.size + 1) (by omega) (by omega)).trans HBx.out.2.1
    have hx2 := (hk2.block (w.heap.size + 2) (by omega) (by omega)).trans HBx.out.2.2
    have hz2 := hk2.size
    have hkn2 := HKn.out.same hk2.size (fun b hb hlt => hk2.block b hlt (by rintro (h | h) <;> omega))
    have hn2 : Nm2At w2 ob (.agg #[.map (some a'), .map (some i')]) (makeE L nm t st).1 := ⟨a', i', rfl, m1, m2, m3, m4⟩
    have hCO : CellO w2 w.heap.size := ⟨_, _, _, hx0, by decide, by decide⟩
    have hk23 : Kept (fun b => b = r ∨ b = ob) w ((w2.setCell ⟨w.heap.size, 0, none⟩ (.map (some a'))).setCell ⟨w.heap.size, 1, none⟩ (.map (some i'))) := ((HK1.out.trans hk2).setFar (a := ⟨w.heap.size, 0, none⟩) (Nat.le_refl _) _).setFar (a := ⟨w.heap.size, 1, none⟩) (Nat.le_refl _) _
    have hot : ∀ b, b ≠ w.heap.size → ((w2.setCell ⟨w.heap.size, 0, none⟩ (.map (some a'))).setCell ⟨w.heap.size, 1, none⟩ (.map (some i'))).heap[b]? = w2.heap[b]? := fun b hb => nm_other _ _ _ hb
    have hsz : ((w2.setCell ⟨w.heap.size, 0, none⟩ (.map (some a'))).setCell ⟨w.heap.size, 1, none⟩ (.map (some i'))).heap.size = w2.heap.size := by simp
    have HSt : Hid (LpSt r ob la lc L ((w2.setCell ⟨w.heap.size, 0, none⟩ (.map (some a'))).setCell ⟨w.heap.size, 1, none⟩ (.map (some i'))) w.heap.size ks R (M + 1) 0 0 ((w2.setCell ⟨w.heap.size, 0, none⟩ (.map (some a'))).setCell ⟨w.heap.size, 1, none⟩ (.map (some i')))) := by
      refine ⟨a', i', (makeE L nm t st).1, (makeE L nm t st).2, nm_put _ _ hx0, ⟨a', i', rfl, m1.same (hot _ (fun e => by subst e; exact m1.noCell hCO)), m2.same (hot _ (fun e => by subst e; exact m2.noCell hCO)), m3, m4⟩, HOm.out, ?_, ?_, Kept.refl _ _, ?_, ?_⟩
      · rw [List.take_zero, zL_nil]
        exact hS2.putB (by omega) (by omega) (fun b off e hL => by have := HLo.out b off e hL; omega)
      · rw [List.drop_zero]; exact HR2m.out
      · rw [List.drop_zero]; have := HLm.out.1; omega
      · rw [List.drop_zero]; have := HLm.out.2; omega
    have HKs := hid (hkn2.same (Nat.le_of_eq hsz.symm) (fun b hb _ => hot b (by omega)))
    have HB2 := hid ((hot (w.heap.size + 2) (by omega)).trans hx2)
    have HX1 := hid ((hot (w.heap.size + 1) (by omega)).trans hx1)
    have HK23 := hid hk23
    obtain ⟨u0, u1, u2, u3⟩ := nm_facts hx0
    have hl0 := lt_of_block hx0
    clear hS2 hk2 hn2 hx0 hx1 hx2 hCO hk23 hot m1 m2 hkn2 x0 x1 x2 y0 y1 HU HOm HLm
    go_upto_region 14 with fail
    change Code.wp _ _ _ _ ((w2.setCell ⟨w.heap.size, 0, none⟩ (.map (some a'))).setCell ⟨w.heap.size, 1, none⟩ (.map (some i')))
    generalize (w2.setCell ⟨w.heap.size, 0, none⟩ (.map (some a'))).setCell ⟨w.heap.size, 1, none⟩ (.map (some i')) = w3 at *
    clear u0 u1 u2 u3
    obtain ⟨⟨x0, x1, x2⟩, _⟩ := boxN_facts HX1.out
    dsimp only at x0 x1 x2
    have HKw := hid (fun wr (hk : Kept (fun b => b = r ∨ b = ob ∨ b = w.heap.size) w3 wr) => (⟨hk.os.trans HK23.out.os, hk.tape.trans HK23.out.tape, hk.output.trans HK23.out.output, Nat.le_trans HK23.out.size hk.size, fun b hb hx => (hk.block b (by have := HK23.out.size; omega) (by rintro (h | h | h); exact hx (.inl h); exact hx (.inr h); omega)).trans (HK23.out.block b hb hx)⟩ : Kept (fun b => b = r ∨ b = ob) w wr))
    go_wp2_with fail
    go_loopw [69] (fun v wr => ∃ j : Nat, j ≤ ks.length ∧ v = .int .i64 (j : Int) ∧ Hid (LpSt r ob la lc L w3 w.heap.size ks R (M + 1) 0 j wr)) (fun v _ => ks.length - (intOf v).toNat)
    case atStart => exact ⟨0, Nat.zero_le _, rfl, HSt.out⟩
    case round =>
      obtain ⟨j, hj, rfl, hst⟩ := hrel
      obtain ⟨a1, i1, nm1, st1, g1, g2, g3, g4, g5, g6, g7, g8⟩ := hst.out
      obtain ⟨c0, c1, _, _⟩ := nm_facts g1
      have hCl := lt_of_block g1
      by_cases hjl : j < ks.length
      · have hji : (j : Int) < (ks.length : Int) := by omega
        have hj0 : (0 : Int) ≤ (j : Int) := by omega
        have hw2 : IntKind.i64.wrap ((j : Int) + 1) = (j : Int) + 1 := by rw [IntKind.wrap_i64]; omega
        have hjd : decide ((j : Int) < (ks.length : Int)) = true := decide_eq_true hji
        obtain ⟨kd, hkd⟩ : ∃ kd, ks[j]? = some kd := ⟨_, List.getElem?_eq_getElem hjl⟩
        have hVr := HKs.out.same (w' := wr) g6.size (fun b hb hlt => g6.block b hlt (by rintro (h | h | h) <;> omega))
        obtain ⟨a0, c0', hae, _, hkids⟩ := hVr
        cases hae
        obtain ⟨g, off, y, ea, hgb, hgl, hy, e0, e1, e2⟩ := hkids j kd hkd
        cases ea
        have hbk := below_new wr (boxN y)
        have hzt := zL_take hkd
        have hzd := zL_drop hkd
        have hzs : zL ks = zL (ks.take j) + zL (ks.drop j) := by rw [← zL_app, List.take_append_drop]
        have HI := hid (HNc.out kd y (wr.alloc (boxN y)) (.agg #[.map (some a1), .map (some i1)]) nm1 st1 (M + 1 + zL (ks.take j)) (by omega) (fun t ht => HMk.out t (mtL_mem (List.mem_of_getElem? hkd) ht)) (hy.kept fun b _ hlt => hbk.block b hlt) (g2.below hbk) g3 (g4.below hbk) (by omega) (by omega) (by omega))
        have HA := hid (fun (e : Ending) (w4 : World) hq => lp_next (lc := lc) (q := e) (w4 := w4) (w2 := w3) (R := R) (M0 := M + 1) (E := 0) (fun b off e hL => by have := HLo.out b off e hL; omega) (by omega) (by omega) hkd g1 g5 g6 g7 g8 hbk hq)
        unfold aggN at HI
        clear hst g1 g2 g3 g4 g5 g6 g7 g8 hbk hkids hy hkd hzt hzd hzs
        go_wp2_with fail
        refine HI.out.mono ?_
        intro e w4 hq
        obtain ⟨a', i', rfl, hC4, hst4⟩ := HA.out e w4 hq
        obtain ⟨d0, d1, d2, d3⟩ := nm_facts hC4
        have HSt4 := hid hst4
        have hCl4 := lt_of_block hC4
        clear hq hst4 hC4 HA HI
        go_wp2_with fail
        go_roundw
        case rel => exact ⟨j + 1, by omega, by go_num, HSt4.out⟩
        case measure => simp [intOf]; omega
      · have hjk : j = ks.length := by omega
        subst hjk
        have hji : ¬ ((ks.length : Int) < (ks.length : Int)) := by omega
        rw [List.drop_length, rfL_nil] at g5
        rw [List.take_length] at g4
        clear hst
        have hb2 := (g6.block (w.heap.size + 2) (by omega) (by rintro (h | h | h) <;> omega)).trans HB2.out
        have HF := hid (wk_fin (R := R) (M := M + (1 + zL ks)) HLo.out hrl hol hb2 (by rw [← g5]; exact g2) (by rw [← g5]; exact g3) (by rw [← g5]; exact g4.mono (by omega)) (HKw.out wr g6))
        have HB9 := hid hb2
        obtain ⟨v0, v1, v2, v3⟩ := nm_facts hb2
        have hl9 := lt_of_block hb2
        clear g1 g2 g3 g4 g5 g6 g7 g8 hb2
        go_wp2_with fail
        exact bodyPost_ret (nm_ret Try.results22 (nm_put _ _ HB9.out) _ rfl) rfl HF.out
  rw [if_neg k4] at hRR
  have b16 : (xk == 16) = false := beq_eq_false_iff_ne.2 k16
  have b10 : (xk == 10) = false := beq_eq_false_iff_ne.2 k10
  have b4 : (xk == 4) = false := beq_eq_false_iff_ne.2 k4
  by_cases k3 : xk = 3
  · subst k3
    rw [if_pos rfl] at hRR
    have hfo : funOk ks = true := by
      cases hf : funOk ks with
      | true => rfl
      | false =>
        have := HMh.out L.length (by unfold hdT; rw [if_neg (by omega), if_neg (by omega), if_pos ⟨rfl, hf⟩]; simp)
        omega
    obtain ⟨t0, t1', rr, hks, hla⟩ := fun_is hfo
    obtain ⟨ps, bt, bks, rfl⟩ := last_is hla
    have hwk := HWf.out.2.2
    rw [hks, wfL_cons, wfL_cons] at hwk
    have hwt := (wfN_mk.1 hwk.2.1).1 (.inl rfl)
    obtain ⟨t1, rfl⟩ : ∃ t1 : Nat, t1' = (t1 : Int) := ⟨t1'.toNat, by omega⟩
    have ht1 : t1 < L.length := by omega
    have hzk : zL ks = 1 + 1 + zL ps + (1 + zL bks) := by rw [hks, zL_cons, zL_cons, zL_app, zL_cons, zL_nil, zN_mk, zN_mk, zN_mk, zL_nil]; omega
    have hzk1 : 1 + 1 + zL ps + (1 + zL bks) ≤ zL ks := Nat.le_of_eq hzk.symm
    have hzk2 : zL ks ≤ 1 + 1 + zL ps + (1 + zL bks) := Nat.le_of_eq hzk
    clear hzk
    have hpl := zL_len ps
    have hbl := zL_len bks
    have HMps : Hid (∀ t ∈ mtL L ps, t < L.length) := fun t ht => HMk.out t (by rw [hks, mtL_cons, mtL_cons, mtL_app]; exact List.mem_append_right _ (List.mem_append_right _ (List.mem_append_left _ ht)))
    have HMb : Hid (∀ t ∈ mtL L bks, t < L.length) := fun t ht => HMk.out t (by rw [hks, mtL_cons, mtL_cons, mtL_app, mtL_cons, mtL_nil, List.append_nil, mt_ok L (k := 5) (by unfold okK; omega)]; exact List.mem_append_right _ (List.mem_append_right _ (List.mem_append_right _ ht)))
    have HMt : Hid (∀ t ∈ mtN L (.mk 16 t0 []), t < L.length) := fun t ht => HMk.out t (by rw [hks, mtL_cons]; exact List.mem_append_left _ ht)
    have hRF : rfF L ks nm st = ((makeE L nm t1 (rfN L (.mk 16 t0 []) nm st).2).1, (rfL L bks (rfL L ps ((makeE L nm t1 (rfN L (.mk 16 t0 []) nm st).2).1.1, []) (makeE L nm t1 (rfN L (.mk 16 t0 []) nm st).2).2).1 (rfL L ps ((makeE L nm t1 (rfN L (.mk 16 t0 []) nm st).2).1.1, []) (makeE L nm t1 (rfN L (.mk 16 t0 []) nm st).2).2).2).2) := by
      rw [hks, rfF_two, rfP_snoc, rfB_mk, Int.toNat_natCast]
    rw [hRF] at hRR
    generalize hq1 : (rfN L (.mk 16 t0 []) nm st).2 = s1 at hRR
    generalize hmk : makeE L nm t1 s1 = mk at hRR
    generalize hq2 : rfL L ps (mk.1.1, []) mk.2 = Q2 at hRR
    generalize hq3 : rfL L bks Q2.1 Q2.2 = Q3 at hRR
    have HR2 := hid hRR
    have HQ1 := hid hq1
    have HMK := hid hmk
    have HQ2 := hid hq2
    have HQ3 := hid hq3
    have HKq := hid hks
    have hml := make_len (L := L) nm t1 s1
    rw [hmk] at hml
    have HOm : Hid (NmOk mk.1) := by show NmOk mk.1; rw [← hmk]; exact HOk.out.make (by omega) s1
    have hkl3 : ks.length = ps.length + 3 := by rw [hks]; simp
    have HL3 := hid hkl3
    obtain ⟨a0, c0, hae, hc0, hkids⟩ := HKn.out
    cases hae
    obtain ⟨g, off, y0', ea, hgb, hgl, hy0, e00, e01, e02⟩ := hkids 0 (.mk 16 t0 []) (by rw [hks]; rfl)
    subst ea
    obtain ⟨g', off', y1', ea, _, _, hy1, e10, e11, e12⟩ := hkids 1 (.mk 4 (t1 : Int) []) (by rw [hks]; rfl)
    cases ea
    have hy1t : y1'.tok = (t1 : Int) := hy1.tok
    rw [hy1t] at e11
    obtain ⟨p2, hp2⟩ : ∃ p2, p2 = ps.length + 2 := ⟨_, rfl⟩
    have HP2 := hid hp2
    have hkx : ks.length ≤ xc := hc0
    have hkb : ks.length ≤ 500000 := by omega
    have hsub : IntKind.i64.wrap ((ks.length : Int) - 1) = (p2 : Int) := by rw [IntKind.wrap_i64]; omega
    have hc2 : (2 : Int) ≤ (xc : Int) := by omega
    have hc2d : decide ((2 : Int) ≤ (xc : Int)) = true := decide_eq_true hc2
    have hp2a : (2 : Int) ≤ (p2 : Int) := by omega
    have hp2b : (p2 : Int) ≤ (xc : Int) := by omega
    have hp2ad : decide ((2 : Int) ≤ (p2 : Int)) = true := decide_eq_true hp2a
    have hp2bd : decide ((p2 : Int) ≤ (xc : Int)) = true := decide_eq_true hp2b
    have hp2n : (p2 : Int) < (ks.length : Int) := by omega
    have hp2nd : decide ((p2 : Int) < (ks.length : Int)) = true := decide_eq_true hp2n
    have hp20 : (0 : Int) ≤ (p2 : Int) := by omega
    have h0n : (0 : Int) < (ks.length : Int) := by omega
    have h0nd : decide ((0 : Int) < (ks.length : Int)) = true := decide_eq_true h0n
    have h1n : (1 : Int) < (ks.length : Int) := by omega
    have h1nd : decide ((1 : Int) < (ks.length : Int)) = true := decide_eq_true h1n
    have h0m : 0 < ks.length := by omega
    have h1m : 1 < ks.length := by omega
    have hC0 := hid (fun p : Later w1 => HNc.out (.mk 16 t0 []) y0' p.W (.agg #[.map (some a), .map (some i)]) nm st M (by rw [zN_mk, zL_nil]; omega) HMt.out (hy0.kept fun b _ hlt => p.hb.block b hlt) (HN1.out.below p.hb) HOk.out (HS1.out.below p.hb) (by rw [zN_mk, zL_nil]; omega) (by rw [zN_mk, zL_nil]; omega) (by rw [zN_mk, zL_nil]; omega))
    unfold aggN at hC0
    have He1 := hid (And.intro e11 hgl)
    clear hRR hRF hq1 hmk hq2 hq3 hks hla hfo hwk hwt hkids hy0 hy1 hy1t hp2 hkl3 e10 e11 e12 hc0 b16 b10 b4
    simp only [Nat.zero_mul, Nat.add_zero] at e00 e01 e02
    go_wp2_with fail
    have z2 := Later.cell x2
    have z3 := Later.cell y0
    have z4 := Later.cell y1
    have z5 := Later.cell e00
    have z6 := Later.cell e01
    have z7 := Later.cell e02
    have hnn : Nonempty (Later w1) := ⟨⟨_, Below.refl _ _⟩⟩
    refine region_later_tail 6 (by kernel_rfl) (by kernel_rfl) ?_
    simp only [List.take_succ_cons, List.take_zero, List.drop_succ_cons, List.drop_zero]
    repeat (first | go_big_quiet_step (fail) | quiet_step (fail))
    refine wpQuiet_nil ?_
    intro p
    have HC1 := hid (hC0.out p)
    have HB2p := hid p.hb
    generalize p.W = w2 at HC1 HB2p ⊢
    clear z2 z3 z4 z5 z6 z7 hnn hC0 e00 e01 e02
    go_wp2_with fail
    refine HC1.out.mono ?_
    rintro e w3 ⟨v3, rfl, _, _, hS3, hk3⟩
    rw [HQ1.out, zN_mk, zL_nil] at hS3
    have hk13 := (kept_of_below (X := fun b => b = r ∨ b = ob) HB2p.out).trans hk3
    have hz3 := hk13.size
    have hx0 := (hk13.block w.heap.size (by omega) (by omega)).trans HBx.out.1
    have hx1 := (hk13.block (w.heap.size + 1) (by omega) (by omega)).trans HBx.out.2.1
    have hx2 := (hk13.block (w.heap.size + 2) (by omega) (by omega)).trans HBx.out.2.2
    have hn3 := HN1.out.kept HS1.out.cellO hk13
    have hkn3 := HKn.out.same hk13.size (fun b hb hlt => hk13.block b hlt (by rintro (h | h) <;> omega))
    have e11 := (hk13.cell (p := ⟨g, off + 1 * 3 + 1, none⟩) (show g < w1.heap.size from hgl) (show ¬ (g = r ∨ g = ob) by omega)).trans He1.out.1
    have HU := hid (fun p : Later w3 => smake_any t1 ht1 hfew hts (by omega) (hS3.below p.hb) (hn3.below p.hb) (by omega) (by omega))
    rw [HMK.out] at HU
    have HX3 := hid (And.intro hx0 (And.intro hx1 hx2))
    have HKn3 := hid hkn3
    have HK13 := hid (HK1.out.trans hk13)
    clear x0 x1 x2 y0 y1
    obtain ⟨⟨x0, x1, x2⟩, _⟩ := boxN_facts hx1
    dsimp only at x0 x1 x2
    obtain ⟨y0, y1, _, _⟩ := nm_facts hx0
    have hr3 : r < w3.heap.size := by omega
    clear hS3 hk3 hk13 hx0 hx1 hx2 hn3 hkn3 HC1
    go_wp2_with fail
    have z2 := Later.cell x2
    have z3 := Later.cell y0
    have z4 := Later.cell y1
    have z5 := Later.cell e11
    have hnn : Nonempty (Later w3) := ⟨⟨_, Below.refl _ _⟩⟩
    refine region_later_tail 7 (by kernel_rfl) (by kernel_rfl) ?_
    simp only [List.take_succ_cons, List.take_zero, List.drop_succ_cons, List.drop_zero]
    repeat (first | go_big_quiet_step (fail) | quiet_step (fail))
    refine wpQuiet_nil ?_
    intro p
    have HU4 := hid (HU.out p)
    have HB4 := hid p.hb
    generalize p.W = w4 at HU4 HB4 ⊢
    clear z2 z3 z4 z5 hnn HU e11 x0 x1 x2 y0 y1
    go_wp2_with fail
    refine HU4.out.mono ?_
    rintro e w5 ⟨v', rfl, ⟨a', i', rfl, m1, m2, m3, m4⟩, hS5, hk5⟩
    have hk35 := (kept_of_below (X := fun b => b = r ∨ b = ob) HB4.out).trans hk5
    have hz5 := hk35.size
    have hx0 := (hk35.block w.heap.size (by omega) (by omega)).trans HX3.out.1
    obtain ⟨u0, u1, u2, u3⟩ := nm_facts hx0
    have hl0 := lt_of_block hx0
    have H5 := hid (And.intro m1 (And.intro m2 (And.intro hS5 hk35)))
    have HX5 := hid hx0
    clear m1 m2 hS5 hk5 hk35 hx0
    go_upto_region 22 with fail
    change Code.wp _ _ _ _ ((w5.setCell ⟨w.heap.size, 0, none⟩ (.map (some a'))).setCell ⟨w.heap.size, 1, none⟩ (.map (some i')))
    have hot : ∀ b, b ≠ w.heap.size → ((w5.setCell ⟨w.heap.size, 0, none⟩ (.map (some a'))).setCell ⟨w.heap.size, 1, none⟩ (.map (some i'))).heap[b]? = w5.heap[b]? := fun b hb => nm_other _ _ _ hb
    have hx60 := nm_put (.map (some a')) (.map (some i')) HX5.out
    have hsz : ((w5.setCell ⟨w.heap.size, 0, none⟩ (.map (some a'))).setCell ⟨w.heap.size, 1, none⟩ (.map (some i'))).heap.size = w5.heap.size := by simp
    have hS6 := H5.out.2.2.1.putB (g := w.heap.size) (x := .map (some a')) (y := .map (some i')) (by omega) (by omega) (fun b off e hL => by have := HLo.out b off e hL; omega)
    have hK6 := ((HK13.out.trans H5.out.2.2.2).setFar (a := ⟨w.heap.size, 0, none⟩) (Nat.le_refl _) (.map (some a'))).setFar (a := ⟨w.heap.size, 1, none⟩) (Nat.le_refl _) (.map (some i'))
    have hCO5 : CellO w5 w.heap.size := ⟨_, _, _, HX5.out, by decide, by decide⟩
    have hm61 := H5.out.1.same (hot a' (fun e => H5.out.1.noCell (by rw [e]; exact hCO5)))
    have hm62 := H5.out.2.1.same (hot i' (fun e => H5.out.2.1.noCell (by rw [e]; exact hCO5)))
    have hx61 := (hot (w.heap.size + 1) (by omega)).trans ((H5.out.2.2.2.block (w.heap.size + 1) (by omega) (by omega)).trans HX3.out.2.1)
    have hx62 := (hot (w.heap.size + 2) (by omega)).trans ((H5.out.2.2.2.block (w.heap.size + 2) (by omega) (by omega)).trans HX3.out.2.2)
    have hkn6 := (HKn3.out.same H5.out.2.2.2.size (fun b hb hlt => H5.out.2.2.2.block b hlt (by rintro (h | h) <;> omega))).same (Nat.le_of_eq hsz.symm) (fun b hb _ => hot b (by omega))
    have HO := hid (NOpen_any a' i' ((w5.setCell ⟨w.heap.size, 0, none⟩ (.map (some a'))).setCell ⟨w.heap.size, 1, none⟩ (.map (some i'))))
    have HS6 := hid hS6
    have HK6 := hid hK6
    have HM6 := hid (And.intro hm61 hm62)
    have HX6 := hid (And.intro hx60 (And.intro hx61 hx62))
    have HKn6 := hid hkn6
    clear u0 u1 u2 u3 hot hS6 hK6 hCO5 hm61 hm62 hx60 hx61 hx62 hkn6 HX5 HX3 HKn3 HK13 H5
    generalize (w5.setCell ⟨w.heap.size, 0, none⟩ (.map (some a'))).setCell ⟨w.heap.size, 1, none⟩ (.map (some i')) = w6 at *
    obtain ⟨y0, y1, _, _⟩ := nm_facts HX6.out.1
    go_wp2_with fail
    refine HO.out.mono ?_
    rintro e w7 ⟨m, rfl, hm, hmo, hb7⟩
    have hb8 := below_new w7 (.cells #[.map (some a'), .map (some m)] 72)
    have hx8 := heap_alloc_new w7 (.cells #[.map (some a'), .map (some m)] 72)
    have hb68 := hb7.trans (hb8.mono hb7.size)
    have hz7 := hb7.size
    have hz8 : (w7.alloc (.cells #[.map (some a'), .map (some m)] 72)).heap.size = w7.heap.size + 1 := by simp
    have hmf : MfAt (w7.alloc (.cells #[.map (some a'), .map (some m)] 72)) m [] := ⟨.map [], map_same hmo (hb8.block m hmo.lt), ScTold.none⟩
    have hal := HM6.out.1.lt
    have HSt : Hid (LpSt r ob la lc L (w7.alloc (.cells #[.map (some a'), .map (some m)] 72)) w7.heap.size ps Q2 (M + 2) (zL bks) 0 (w7.alloc (.cells #[.map (some a'), .map (some m)] 72))) := by
      refine ⟨a', m, (mk.1.1, []), mk.2, hx8, ⟨a', m, rfl, HM6.out.1.same (hb68.block a' hal), hmf, m3, by omega⟩, HOm.out.inner, ?_, ?_, Kept.refl _ _, ?_, ?_⟩
      · rw [List.take_zero, zL_nil]
        exact (HS6.out.below hb68).mono (by omega)
      · rw [List.drop_zero]; exact HQ2.out
      · rw [List.drop_zero]; show mk.1.1.length + _ + _ ≤ _; omega
      · rw [List.drop_zero]; show 0 + _ + _ ≤ _; omega
    have HKe2 := hid (HKn6.out.same hb68.size (fun b _ hlt => hb68.block b hlt))
    have HB0 := hid ((hb68.block w.heap.size (by omega)).trans HX6.out.1)
    have HX1 := hid ((hb68.block (w.heap.size + 1) (by omega)).trans HX6.out.2.1)
    have HB2 := hid ((hb68.block (w.heap.size + 2) (by omega)).trans HX6.out.2.2)
    have HN3 := hid (show Nm2At (w7.alloc (.cells #[.map (some a'), .map (some m)] 72)) ob (.agg #[.map (some a'), .map (some i')]) mk.1 from ⟨a', i', rfl, HM6.out.1.same (hb68.block a' hal), HM6.out.2.same (hb68.block i' HM6.out.2.lt), m3, m4⟩)
    have HcO := hid (HS6.out.below hb68).cellO
    have HX8 := hid hx8
    have HKe := hid (HK6.out.trans (kept_of_below hb68))
    have HOk9 := hid (show NmOk R.1 by rw [← HR2.out]; exact HOm.out)
    clear hb7 hb8 hx8 hmo hmf hb68 y0 y1 HO HM6 HX6 HKn6 HS6 HK6
    go_upto_region 23 with fail
    change Code.wp _ _ _ _ (w7.alloc (.cells #[.map (some a'), .map (some m)] 72))
    generalize w7.alloc (.cells #[.map (some a'), .map (some m)] 72) = w3' at *
    obtain ⟨⟨x0, x1, x2⟩, _⟩ := boxN_facts HX1.out
    dsimp only at x0 x1 x2
    have HNw := hid (fun wr (hk : Kept (fun b => b = r ∨ b = ob ∨ b = w7.heap.size) w3' wr) => by
      obtain ⟨a0, i0', ev, m1, m2, m3, m4⟩ := HN3.out
      cases ev
      have hC : CellO w3' w7.heap.size := ⟨_, _, _, HX8.out, by decide, by decide⟩
      refine (⟨a', i', rfl, m1.same (hk.block a' m1.lt ?_), m2.same (hk.block i' m2.lt ?_), m3, m4⟩ : Nm2At wr ob (.agg #[.map (some a'), .map (some i')]) mk.1)
      · rintro (h | h | h)
        · subst h; exact m1.noCell HcO.out
        · exact m3 h
        · subst h; exact m1.noCell hC
      · rintro (h | h | h)
        · subst h; exact m2.noCell HcO.out
        · exact m4 h
        · subst h; exact m2.noCell hC)
    have HKw := hid (fun wr (hk : Kept (fun b => b = r ∨ b = ob ∨ b = w7.heap.size) w3' wr) => (⟨hk.os.trans HKe.out.os, hk.tape.trans HKe.out.tape, hk.output.trans HKe.out.output, Nat.le_trans HKe.out.size hk.size, fun b hb hx => (hk.block b (by have := HKe.out.size; omega) (by rintro (h | h | h); exact hx (.inl h); exact hx (.inr h); omega)).trans (HKe.out.block b hb hx)⟩ : Kept (fun b => b = r ∨ b = ob) w wr))
    generalize hCe : w7.heap.size = C at *
    clear hCe
    have HKps : Hid (NwAt w3' base (.slice (some ⟨g, off + 6, none⟩) ps.length (xc - 2)) ps) := by
      have h := HKe2.out
      rw [HL3.out, HKq.out] at h
      exact h.mid
    go_wp2_with fail
    rw [show p2 - 2 = ps.length by have := HP2.out; omega]
    generalize hxd : xc - 2 = xd at *
    clear hxd
    go_loopw [106] (fun v wr => ∃ j : Nat, j ≤ ps.length ∧ v = .int .i64 (j : Int) ∧ Hid (LpSt r ob la lc L w3' C ps Q2 (M + 2) (zL bks) j wr)) (fun v _ => ps.length - (intOf v).toNat)
    case atStart => exact ⟨0, Nat.zero_le _, rfl, HSt.out⟩
    case round =>
      obtain ⟨j, hj, rfl, hst⟩ := hrel
      obtain ⟨a1, i1, nm1, st1, g1, g2, g3, g4, g5, g6, g7, g8⟩ := hst.out
      obtain ⟨c0, c1, _, _⟩ := nm_facts g1
      have hCl := lt_of_block g1
      by_cases hjl : j < ps.length
      · have hji : (j : Int) < (ps.length : Int) := by omega
        have hj0 : (0 : Int) ≤ (j : Int) := by omega
        have hw2 : IntKind.i64.wrap ((j : Int) + 1) = (j : Int) + 1 := by rw [IntKind.wrap_i64]; omega
        have hjd : decide ((j : Int) < (ps.length : Int)) = true := decide_eq_true hji
        obtain ⟨kd, hkd⟩ : ∃ kd, ps[j]? = some kd := ⟨_, List.getElem?_eq_getElem hjl⟩
        have hVr := HKps.out.same (w' := wr) g6.size (fun b hb hlt => g6.block b hlt (by rintro (h | h | h) <;> omega))
        obtain ⟨a0, c0', hae, _, hkids⟩ := hVr
        cases hae
        obtain ⟨g, off, y, ea, hgb, hgl, hy, e0, e1, e2⟩ := hkids j kd hkd
        cases ea
        have hbk := below_new wr (boxN y)
        have hzt := zL_take hkd
        have hzd := zL_drop hkd
        have hzs : zL ps = zL (ps.take j) + zL (ps.drop j) := by rw [← zL_app, List.take_append_drop]
        have HI := hid (HNc.out kd y (wr.alloc (boxN y)) (.agg #[.map (some a1), .map (some i1)]) nm1 st1 (M + 2 + zL (ps.take j)) (by omega) (fun t ht => HMps.out t (mtL_mem (List.mem_of_getElem? hkd) ht)) (hy.kept fun b _ hlt => hbk.block b hlt) (g2.below hbk) g3 (g4.below hbk) (by omega) (by omega) (by omega))
        have HA := hid (fun (e : Ending) (w4 : World) hq => lp_next (lc := lc) (q := e) (w4 := w4) (w2 := w3') (R := Q2) (M0 := M + 2) (E := (zL bks)) (fun b off e hL => by have := HLo.out b off e hL; omega) (by omega) (by omega) hkd g1 g5 g6 g7 g8 hbk hq)
        unfold aggN at HI
        clear hst g1 g2 g3 g4 g5 g6 g7 g8 hbk hkids hy hkd hzt hzd hzs
        go_wp2_with fail
        refine HI.out.mono ?_
        intro e w4 hq
        obtain ⟨a', i', rfl, hC4, hst4⟩ := HA.out e w4 hq
        obtain ⟨d0, d1, d2, d3⟩ := nm_facts hC4
        have HSt4 := hid hst4
        have hCl4 := lt_of_block hC4
        clear hq hst4 hC4 HA HI
        go_wp2_with fail
        go_roundw
        case rel => exact ⟨j + 1, by omega, by go_num, HSt4.out⟩
        case measure => simp [intOf]; omega
      · have hjk : j = ps.length := by omega
        subst hjk
        have hji : ¬ ((ps.length : Int) < (ps.length : Int)) := by omega
        rw [List.drop_length, rfL_nil] at g5
        rw [List.take_length] at g4
        clear hst
        have hyb := (HKe2.out.same (w' := wr) g6.size (fun b hb hlt => g6.block b hlt (by rintro (h | h | h) <;> omega)))
        obtain ⟨a0, c0', hae, _, hkids⟩ := hyb
        cases hae
        obtain ⟨g', off', yb, ea, hgb, hgl, hyb, e0, e1, e2⟩ := hkids (ps.length + 2) (.mk 5 bt bks) (by rw [HKq.out]; simp)
        cases ea
        obtain ⟨yk, yt, ya, yn, yc⟩ := yb
        have hyn : yn = bks.length := by
          obtain ⟨_, _, hae, _, _⟩ := NwAt.of (show KidsAt wr (· < base) (.slice ya yn yc) bks from hyb.kids)
          injection hae
        subst hyn
        have HKb := hid (NwAt.of (show KidsAt wr (· < base) (.slice ya bks.length yc) bks from hyb.kids))
        dsimp only at e0 e1 e2
        rw [show (ps.length + 2) * 3 = p2 * 3 by rw [HP2.out]] at e0 e1 e2
        obtain ⟨⟨x0, x1, x2⟩, _⟩ := boxN_facts ((g6.block (w.heap.size + 1) (by omega) (by rintro (h | h | h) <;> omega)).trans HX1.out)
        dsimp only at x0 x1 x2
        have HSt3 : Hid (LpSt r ob la lc L wr C bks Q3 (M + 2 + zL ps) 0 0 wr) := by
          refine ⟨a1, i1, nm1, st1, g1, g2, g3, ?_, ?_, Kept.refl _ _, ?_, ?_⟩
          · rw [List.take_zero, zL_nil]; exact g4
          · rw [List.drop_zero, ← HQ3.out, ← g5]
          · rw [List.drop_zero]; rw [List.drop_length, zL_nil] at g7; omega
          · rw [List.drop_zero]; rw [List.drop_length, zL_nil] at g8; omega
        have HBb := hid (And.intro ((g6.block w.heap.size (by omega) (by rintro (h | h | h) <;> omega)).trans HB0.out) (And.intro ((g6.block (w.heap.size + 2) (by omega) (by rintro (h | h | h) <;> omega)).trans HB2.out) (And.intro (HNw.out wr g6) (HKw.out wr g6))))
        have HCO := hid (And.intro g4.cellO (show CellO wr C from ⟨_, _, _, g1, by decide, by decide⟩))
        have hz9 := g6.size
        have hg9 : g < wr.heap.size := hgl
        clear g1 g2 g3 g4 g5 g6 g7 g8 hkids hyb HSt HB2 HB0
        go_wp2_with fail
        have HB0 := hid HBb.out.1
        have HB2 := hid HBb.out.2.1
        have HKs := HKb
        have HNw := hid (fun wx (hk : Kept (fun b => b = r ∨ b = ob ∨ b = C) wr wx) => by
          obtain ⟨a0, i0', ev, m1, m2, m3, m4⟩ := HBb.out.2.2.1
          cases ev
          refine (⟨a', i', rfl, m1.same (hk.block a' m1.lt ?_), m2.same (hk.block i' m2.lt ?_), m3, m4⟩ : Nm2At wx ob (.agg #[.map (some a'), .map (some i')]) _)
          · rintro (h | h | h)
            · subst h; exact m1.noCell HCO.out.1
            · exact m3 h
            · subst h; exact m1.noCell HCO.out.2
          · rintro (h | h | h)
            · subst h; exact m2.noCell HCO.out.1
            · exact m4 h
            · subst h; exact m2.noCell HCO.out.2)
        have HKw := hid (fun wx (hk : Kept (fun b => b = r ∨ b = ob ∨ b = C) wr wx) => (⟨hk.os.trans HBb.out.2.2.2.os, hk.tape.trans HBb.out.2.2.2.tape, hk.output.trans HBb.out.2.2.2.output, Nat.le_trans HBb.out.2.2.2.size hk.size, fun b hb hx => (hk.block b (by have := HBb.out.2.2.2.size; omega) (by rintro (h | h | h); exact hx (.inl h); exact hx (.inr h); omega)).trans (HBb.out.2.2.2.block b hb hx)⟩ : Kept (fun b => b = r ∨ b = ob) w wx))
        generalize wr = w30 at *
        go_loopw [122] (fun v wr => ∃ j : Nat, j ≤ bks.length ∧ v = .int .i64 (j : Int) ∧ Hid (LpSt r ob la lc L w30 C bks Q3 (M + 2 + zL ps) 0 j wr)) (fun v _ => bks.length - (intOf v).toNat)
        case atStart => exact ⟨0, Nat.zero_le _, rfl, HSt3.out⟩
        case round =>
          obtain ⟨j, hj, rfl, hst⟩ := hrel
          obtain ⟨a1, i1, nm1, st1, g1, g2, g3, g4, g5, g6, g7, g8⟩ := hst.out
          obtain ⟨c0, c1, _, _⟩ := nm_facts g1
          have hCl := lt_of_block g1
          by_cases hjl : j < bks.length
          · have hji : (j : Int) < (bks.length : Int) := by omega
            have hj0 : (0 : Int) ≤ (j : Int) := by omega
            have hw2 : IntKind.i64.wrap ((j : Int) + 1) = (j : Int) + 1 := by rw [IntKind.wrap_i64]; omega
            have hjd : decide ((j : Int) < (bks.length : Int)) = true := decide_eq_true hji
            obtain ⟨kd, hkd⟩ : ∃ kd, bks[j]? = some kd := ⟨_, List.getElem?_eq_getElem hjl⟩
            have hVr := HKs.out.same (w' := wr) g6.size (fun b hb hlt => g6.block b hlt (by rintro (h | h | h) <;> omega))
            obtain ⟨a0, c0', hae, _, hkids⟩ := hVr
            cases hae
            obtain ⟨g, off, y, ea, hgb, hgl, hy, e0, e1, e2⟩ := hkids j kd hkd
            cases ea
            have hbk := below_new wr (boxN y)
            have hzt := zL_take hkd
            have hzd := zL_drop hkd
            have hzs : zL bks = zL (bks.take j) + zL (bks.drop j) := by rw [← zL_app, List.take_append_drop]
            have HI := hid (HNc.out kd y (wr.alloc (boxN y)) (.agg #[.map (some a1), .map (some i1)]) nm1 st1 (M + 2 + zL ps + zL (bks.take j)) (by omega) (fun t ht => HMb.out t (mtL_mem (List.mem_of_getElem? hkd) ht)) (hy.kept fun b _ hlt => hbk.block b hlt) (g2.below hbk) g3 (g4.below hbk) (by omega) (by omega) (by omega))
            have HA := hid (fun (e : Ending) (w4 : World) hq => lp_next (lc := lc) (q := e) (w4 := w4) (w2 := w30) (R := Q3) (M0 := M + 2 + zL ps) (E := 0) (fun b off e hL => by have := HLo.out b off e hL; omega) (by omega) (by omega) hkd g1 g5 g6 g7 g8 hbk hq)
            unfold aggN at HI
            clear hst g1 g2 g3 g4 g5 g6 g7 g8 hbk hkids hy hkd hzt hzd hzs
            go_wp2_with fail
            refine HI.out.mono ?_
            intro e w4 hq
            obtain ⟨a', i', rfl, hC4, hst4⟩ := HA.out e w4 hq
            obtain ⟨d0, d1, d2, d3⟩ := nm_facts hC4
            have HSt4 := hid hst4
            have hCl4 := lt_of_block hC4
            clear hq hst4 hC4 HA HI
            go_wp2_with fail
            go_roundw
            case rel => exact ⟨j + 1, by omega, by go_num, HSt4.out⟩
            case measure => simp [intOf]; omega
          · have hjk : j = bks.length := by omega
            subst hjk
            have hji : ¬ ((bks.length : Int) < (bks.length : Int)) := by omega
            rw [List.drop_length, rfL_nil] at g5
            rw [List.take_length] at g4
            clear hst
            have hb2 := (g6.block (w.heap.size + 2) (by omega) (by rintro (h | h | h) <;> omega)).trans HB2.out
            have hb0 := (g6.block w.heap.size (by omega) (by rintro (h | h | h) <;> omega)).trans HB0.out
            have hn9 := HNw.out wr g6
            have HF := hid (wk_fin (R := R) (M := M + (1 + zL ks)) HLo.out hrl hol hb2 (by rw [← HR2.out]; exact hn9) HOk9.out (by rw [← HR2.out, ← g5]; exact g4.mono (by omega)) (HKw.out wr g6))
            have HB9 := hid hb2
            obtain ⟨v0, v1, v2, v3⟩ := nm_facts hb2
            obtain ⟨u0, u1, _, _⟩ := nm_facts hb0
            have hl9 := lt_of_block hb2
            clear g1 g2 g3 g4 g5 g6 g7 g8 hb2 hb0 hn9 c0 c1
            go_wp2_with fail
            exact bodyPost_ret (nm_ret Try.results22 (nm_put _ _ HB9.out) _ rfl) rfl HF.out
  rw [if_neg k3] at hRR
  have b3 : (xk == 3) = false := beq_eq_false_iff_ne.2 k3
  by_cases k5 : xk = 5
  · subst k5
    rw [if_pos rfl] at hRR
    generalize hQ : rfL L ks (nm.1, []) st = Q at hRR
    have HR2 := hid hRR
    have HQ := hid hQ
    have HO := hid (NOpen_any a i w1)
    clear hRR hQ b16 b10 b4 b3
    go_wp2_with fail
    refine HO.out.mono ?_
    rintro e w2 ⟨m, rfl, hm, hmo, hb2⟩
    have hb3 := below_new w2 (.cells #[.map (some a), .map (some m)] 72)
    have hx3 := heap_alloc_new w2 (.cells #[.map (some a), .map (some m)] 72)
    have hb13 := hb2.trans (hb3.mono hb2.size)
    have hz2 := hb2.size
    have hz3 : (w2.alloc (.cells #[.map (some a), .map (some m)] 72)).heap.size = w2.heap.size + 1 := by simp
    obtain ⟨a0, i0', ev, m1, m2, m3, m4⟩ := HN1.out
    cases ev
    have hal := m1.lt
    have hmf : MfAt (w2.alloc (.cells #[.map (some a), .map (some m)] 72)) m [] := ⟨.map [], map_same hmo (hb3.block m hmo.lt), ScTold.none⟩
    have HSt : Hid (LpSt r ob la lc L (w2.alloc (.cells #[.map (some a), .map (some m)] 72)) w2.heap.size ks Q M 0 0 (w2.alloc (.cells #[.map (some a), .map (some m)] 72))) := by
      refine ⟨a, m, (nm.1, []), st, hx3, ⟨a, m, rfl, m1.same (hb13.block a hal), hmf, m3, by omega⟩, HOk.out.inner, ?_, ?_, Kept.refl _ _, ?_, ?_⟩
      · rw [List.take_zero, zL_nil]
        exact HS1.out.below hb13
      · rw [List.drop_zero]; exact HQ.out
      · rw [List.drop_zero]; show nm.1.length + _ + 0 ≤ _; omega
      · rw [List.drop_zero]; show 0 + _ + 0 ≤ _; omega
    have HKs := hid (HKn.out.same hb13.size (fun b _ hlt => hb13.block b hlt))
    have hx0 := (hb13.block w.heap.size (by omega)).trans HBx.out.1
    have HX1 := hid ((hb13.block (w.heap.size + 1) (by omega)).trans HBx.out.2.1)
    have HB2 := hid ((hb13.block (w.heap.size + 2) (by omega)).trans HBx.out.2.2)
    have HB0 := hid hx0
    have HN3 := hid (HN1.out.below hb13)
    have HcO := hid (HS1.out.below hb13).cellO
    have HX3 := hid hx3
    have HKe := hid (HK1.out.trans (kept_of_below hb13))
    have HOk9 := hid (show NmOk R.1 by rw [← HR2.out]; exact HOk.out)
    clear hb2 hb3 hx3 hmo hmf m1 m2 hx0 hb13 x0 x1 x2 y0 y1 HO
    go_upto_region 36 with fail
    change Code.wp _ _ _ _ (w2.alloc (.cells #[.map (some a), .map (some m)] 72))
    generalize w2.alloc (.cells #[.map (some a), .map (some m)] 72) = w3 at *
    obtain ⟨⟨x0, x1, x2⟩, _⟩ := boxN_facts HX1.out
    dsimp only at x0 x1 x2
    have HNw := hid (fun wr (hk : Kept (fun b => b = r ∨ b = ob ∨ b = w2.heap.size) w3 wr) => by
      obtain ⟨a0, i0', ev, m1, m2, m3, m4⟩ := HN3.out
      cases ev
      have hC : CellO w3 w2.heap.size := ⟨_, _, _, HX3.out, by decide, by decide⟩
      refine (⟨a, i, rfl, m1.same (hk.block a m1.lt ?_), m2.same (hk.block i m2.lt ?_), m3, m4⟩ : Nm2At wr ob (.agg #[.map (some a), .map (some i)]) nm)
      · rintro (h | h | h)
        · subst h; exact m1.noCell HcO.out
        · exact m3 h
        · subst h; exact m1.noCell hC
      · rintro (h | h | h)
        · subst h; exact m2.noCell HcO.out
        · exact m4 h
        · subst h; exact m2.noCell hC)
    have HKw := hid (fun wr (hk : Kept (fun b => b = r ∨ b = ob ∨ b = w2.heap.size) w3 wr) => (⟨hk.os.trans HKe.out.os, hk.tape.trans HKe.out.tape, hk.output.trans HKe.out.output, Nat.le_trans HKe.out.size hk.size, fun b hb hx => (hk.block b (by have := HKe.out.size; omega) (by rintro (h | h | h); exact hx (.inl h); exact hx (.inr h); omega)).trans (HKe.out.block b hb hx)⟩ : Kept (fun b => b = r ∨ b = ob) w wr))
    go_wp2_with fail
    generalize w2.heap.size = C at *
    go_loopw [138] (fun v wr => ∃ j : Nat, j ≤ ks.length ∧ v = .int .i64 (j : Int) ∧ Hid (LpSt r ob la lc L w3 C ks Q (M) 0 j wr)) (fun v _ => ks.length - (intOf v).toNat)
    case atStart => exact ⟨0, Nat.zero_le _, rfl, HSt.out⟩
    case round =>
      obtain ⟨j, hj, rfl, hst⟩ := hrel
      obtain ⟨a1, i1, nm1, st1, g1, g2, g3, g4, g5, g6, g7, g8⟩ := hst.out
      obtain ⟨c0, c1, _, _⟩ := nm_facts g1
      have hCl := lt_of_block g1
      by_cases hjl : j < ks.length
      · have hji : (j : Int) < (ks.length : Int) := by omega
        have hj0 : (0 : Int) ≤ (j : Int) := by omega
        have hw2 : IntKind.i64.wrap ((j : Int) + 1) = (j : Int) + 1 := by rw [IntKind.wrap_i64]; omega
        have hjd : decide ((j : Int) < (ks.length : Int)) = true := decide_eq_true hji
        obtain ⟨kd, hkd⟩ : ∃ kd, ks[j]? = some kd := ⟨_, List.getElem?_eq_getElem hjl⟩
        have hVr := HKs.out.same (w' := wr) g6.size (fun b hb hlt => g6.block b hlt (by rintro (h | h | h) <;> omega))
        obtain ⟨a0, c0', hae, _, hkids⟩ := hVr
        cases hae
        obtain ⟨g, off, y, ea, hgb, hgl, hy, e0, e1, e2⟩ := hkids j kd hkd
        cases ea
        have hbk := below_new wr (boxN y)
        have hzt := zL_take hkd
        have hzd := zL_drop hkd
        have hzs : zL ks = zL (ks.take j) + zL (ks.drop j) := by rw [← zL_app, List.take_append_drop]
        have HI := hid (HNc.out kd y (wr.alloc (boxN y)) (.agg #[.map (some a1), .map (some i1)]) nm1 st1 (M + zL (ks.take j)) (by omega) (fun t ht => HMk.out t (mtL_mem (List.mem_of_getElem? hkd) ht)) (hy.kept fun b _ hlt => hbk.block b hlt) (g2.below hbk) g3 (g4.below hbk) (by omega) (by omega) (by omega))
        have HA := hid (fun (e : Ending) (w4 : World) hq => lp_next (lc := lc) (q := e) (w4 := w4) (w2 := w3) (R := Q) (M0 := M) (E := 0) (fun b off e hL => by have := HLo.out b off e hL; omega) (by omega) (by omega) hkd g1 g5 g6 g7 g8 hbk hq)
        unfold aggN at HI
        clear hst g1 g2 g3 g4 g5 g6 g7 g8 hbk hkids hy hkd hzt hzd hzs
        go_wp2_with fail
        refine HI.out.mono ?_
        intro e w4 hq
        obtain ⟨a', i', rfl, hC4, hst4⟩ := HA.out e w4 hq
        obtain ⟨d0, d1, d2, d3⟩ := nm_facts hC4
        have HSt4 := hid hst4
        have hCl4 := lt_of_block hC4
        clear hq hst4 hC4 HA HI
        go_wp2_with fail
        go_roundw
        case rel => exact ⟨j + 1, by omega, by go_num, HSt4.out⟩
        case measure => simp [intOf]; omega
      · have hjk : j = ks.length := by omega
        subst hjk
        have hji : ¬ ((ks.length : Int) < (ks.length : Int)) := by omega
        rw [List.drop_length, rfL_nil] at g5
        rw [List.take_length] at g4
        clear hst
        have hb2 := (g6.block (w.heap.size + 2) (by omega) (by rintro (h | h | h) <;> omega)).trans HB2.out
        have hb0 := (g6.block w.heap.size (by omega) (by rintro (h | h | h) <;> omega)).trans HB0.out
        have hn9 := HNw.out wr g6
        have HF := hid (wk_fin (R := R) (M := M + (1 + zL ks)) HLo.out hrl hol hb2 (by rw [← HR2.out]; exact hn9) HOk9.out (by rw [← HR2.out, ← g5]; exact g4.mono (by omega)) (HKw.out wr g6))
        have HB9 := hid hb2
        obtain ⟨v0, v1, v2, v3⟩ := nm_facts hb2
        obtain ⟨u0, u1, _, _⟩ := nm_facts hb0
        have hl9 := lt_of_block hb2
        clear g1 g2 g3 g4 g5 g6 g7 g8 hb2 hb0 hn9 c0 c1
        go_wp2_with fail
        exact bodyPost_ret (nm_ret Try.results22 (nm_put _ _ HB9.out) _ rfl) rfl HF.out
  rw [if_neg k5] at hRR
  have b5 : (xk == 5) = false := beq_eq_false_iff_ne.2 k5
  have HRR := hid hRR
  have HSt : Hid (LpSt r ob la lc L w1 w.heap.size ks R M 0 0 w1) := by
    refine ⟨a, i, nm, st, HBx.out.1, HN1.out, HOk.out, ?_, ?_, Kept.refl _ _, ?_, ?_⟩
    · rw [List.take_zero, zL_nil]
      exact HS1.out
    · rw [List.drop_zero]; exact HRR.out
    · rw [List.drop_zero]; omega
    · rw [List.drop_zero]; omega
  have HB2 := hid HBx.out.2.2
  have HKw := hid (fun wr (hk : Kept (fun b => b = r ∨ b = ob ∨ b = w.heap.size) w1 wr) => (⟨hk.os.trans HK1.out.os, hk.tape.trans HK1.out.tape, hk.output.trans HK1.out.output, Nat.le_trans HK1.out.size hk.size, fun b hb hx => (hk.block b (by omega) (by rintro (h | h | h); exact hx (.inl h); exact hx (.inr h); omega)).trans (HK1.out.block b hb hx)⟩ : Kept (fun b => b = r ∨ b = ob) w wr))
  clear hRR y0 y1
  go_wp2_with fail
  go_loopw [25] (fun v wr => ∃ j : Nat, j ≤ ks.length ∧ v = .int .i64 (j : Int) ∧ Hid (LpSt r ob la lc L w1 w.heap.size ks R (M) 0 j wr)) (fun v _ => ks.length - (intOf v).toNat)
  case atStart => exact ⟨0, Nat.zero_le _, rfl, HSt.out⟩
  case round =>
    obtain ⟨j, hj, rfl, hst⟩ := hrel
    obtain ⟨a1, i1, nm1, st1, g1, g2, g3, g4, g5, g6, g7, g8⟩ := hst.out
    obtain ⟨c0, c1, _, _⟩ := nm_facts g1
    have hCl := lt_of_block g1
    by_cases hjl : j < ks.length
    · have hji : (j : Int) < (ks.length : Int) := by omega
      have hj0 : (0 : Int) ≤ (j : Int) := by omega
      have hw2 : IntKind.i64.wrap ((j : Int) + 1) = (j : Int) + 1 := by rw [IntKind.wrap_i64]; omega
      have hjd : decide ((j : Int) < (ks.length : Int)) = true := decide_eq_true hji
      obtain ⟨kd, hkd⟩ : ∃ kd, ks[j]? = some kd := ⟨_, List.getElem?_eq_getElem hjl⟩
      have hVr := HKn.out.same (w' := wr) g6.size (fun b hb hlt => g6.block b hlt (by rintro (h | h | h) <;> omega))
      obtain ⟨a0, c0', hae, _, hkids⟩ := hVr
      cases hae
      obtain ⟨g, off, y, ea, hgb, hgl, hy, e0, e1, e2⟩ := hkids j kd hkd
      cases ea
      have hbk := below_new wr (boxN y)
      have hzt := zL_take hkd
      have hzd := zL_drop hkd
      have hzs : zL ks = zL (ks.take j) + zL (ks.drop j) := by rw [← zL_app, List.take_append_drop]
      have HI := hid (HNc.out kd y (wr.alloc (boxN y)) (.agg #[.map (some a1), .map (some i1)]) nm1 st1 (M + zL (ks.take j)) (by omega) (fun t ht => HMk.out t (mtL_mem (List.mem_of_getElem? hkd) ht)) (hy.kept fun b _ hlt => hbk.block b hlt) (g2.below hbk) g3 (g4.below hbk) (by omega) (by omega) (by omega))
      have HA := hid (fun (e : Ending) (w4 : World) hq => lp_next (lc := lc) (q := e) (w4 := w4) (w2 := w1) (R := R) (M0 := M) (E := 0) (fun b off e hL => by have := HLo.out b off e hL; omega) (by omega) (by omega) hkd g1 g5 g6 g7 g8 hbk hq)
      unfold aggN at HI
      clear hst g1 g2 g3 g4 g5 g6 g7 g8 hbk hkids hy hkd hzt hzd hzs
      go_wp2_with fail
      refine HI.out.mono ?_
      intro e w4 hq
      obtain ⟨a', i', rfl, hC4, hst4⟩ := HA.out e w4 hq
      obtain ⟨d0, d1, d2, d3⟩ := nm_facts hC4
      have HSt4 := hid hst4
      have hCl4 := lt_of_block hC4
      clear hq hst4 hC4 HA HI
      go_wp2_with fail
      go_roundw
      case rel => exact ⟨j + 1, by omega, by go_num, HSt4.out⟩
      case measure => simp [intOf]; omega
    · have hjk : j = ks.length := by omega
      subst hjk
      have hji : ¬ ((ks.length : Int) < (ks.length : Int)) := by omega
      rw [List.drop_length, rfL_nil] at g5
      rw [List.take_length] at g4
      clear hst
      have hb2 := (g6.block (w.heap.size + 2) (by omega) (by rintro (h | h | h) <;> omega)).trans HB2.out
      have HF := hid (wk_fin (R := R) (M := M + (1 + zL ks)) HLo.out hrl hol hb2 (by rw [← g5]; exact g2) (by rw [← g5]; exact g3) (by rw [← g5]; exact g4.mono (by omega)) (HKw.out wr g6))
      have HB9 := hid hb2
      obtain ⟨v0, v1, v2, v3⟩ := nm_facts hb2
      have hl9 := lt_of_block hb2
      clear g1 g2 g3 g4 g5 g6 g7 g8 hb2
      go_wp2_with fail
      exact bodyPost_ret (nm_ret Try.results22 (nm_put _ _ HB9.out) _ rfl) rfl HF.out
end
end Go.Proofs.Ytkfbhknhjpmomaa
