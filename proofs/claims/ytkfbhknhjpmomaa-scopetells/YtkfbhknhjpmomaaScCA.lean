/- Walk of the resolver's node. · All depths of the resolver; the closure that Resolve defers: what is thrown is caught. · Walk of the program's Resolve. · Walk of the program's Of: a name's bind is searched by halves. -/
import Derived.Test.YtkfbhknhjpmomaaScNA
import Derived.Test.YtkfbhknhjpmomaaScOA
namespace Go.Proofs.Ytkfbhknhjpmomaa
section
open Go.RowKit Go.Shelf Go.Maps Go.WideMaps
section
variable {base r : Nat} {la : Option Addr} {lc : Nat} {L : List Tk}
theorem rn_from {bs : List (Nat × Nat)} {row : Option Nat} {mb : Nat} {R2 : GotB} {w w2 w' : World} {e : Ending} (hk1 : Kept (rX r mb row) w w2) (h : RnPost base r la lc L bs row mb R2 w2 e w') : RnPost base r la lc L bs row mb R2 w e w' := by
  have := rn_seq (b1 := []) (row2 := row) hk1 (fun g h => .inl h) (by rw [List.append_nil]; exact h)
  rwa [seqR_nil] at this
set_option maxRecDepth 100000 in
set_option maxHeartbeats 8000000 in
theorem nd_step (hts : ∀ t ∈ L, t.text.size ≤ 3000) (hfew : L.length ≤ 6000) (N : Nat) (hL : NlC base r la lc L N) (hFn : FnC base r la lc L N) : NdC base r la lc L (N + 1) := by
  intro n x w bs ba bc B mb sv f fs hz hwf hx hR hS hbm hB hl1 hl2
  obtain ⟨kd, tk, ks⟩ := n
  obtain ⟨xk, xt, xa, xn, xc⟩ := x
  obtain rfl : xk = kd := hx.kind
  obtain rfl : xt = tk := hx.tok
  have hxk : KidsAt w (· < base) (.slice xa xn xc) ks := hx.kids
  rw [zN_mk] at hz hl1 hl2
  obtain ⟨hw1, hw3, hwk⟩ := wfN_mk.1 hwf
  generalize hRR : rsN L (.mk xk xt ks) f fs = R
  rw [rsN_mk] at hRR
  have hMf := hS.map
  obtain ⟨m1, b1, v', rfl, hmB, hb1m, hmm1, hm, hb, hM, hF⟩ := id hS
  have h1 := below_new w (boxN ⟨xk, xt, xa, xn, xc⟩)
  have s1 : (w.alloc (boxN ⟨xk, xt, xa, xn, xc⟩)).heap.size = w.heap.size + 1 := by simp
  have k1 := heap_alloc_new w (boxN ⟨xk, xt, xa, xn, xc⟩)
  have h2 := below_new (w.alloc (boxN ⟨xk, xt, xa, xn, xc⟩)) (.cells #[.map (some mb), .func (.func 43) #[] #[.pointer (some ⟨m1, 0, none⟩), .pointer (some ⟨b1, 0, none⟩)]] 65)
  have k2 := heap_alloc_new (w.alloc (boxN ⟨xk, xt, xa, xn, xc⟩)) (.cells #[.map (some mb), .func (.func 43) #[] #[.pointer (some ⟨m1, 0, none⟩), .pointer (some ⟨b1, 0, none⟩)]] 65)
  rw [s1] at k2
  have h12 := h1.trans (h2.mono (by omega))
  have HX1 := hid ((h2.block _ (by omega)).trans k1)
  have HS1 := hid k2
  have HB1 := hid h12
  have HR := hid (And.intro hR hS)
  have HL := hid hL
  have HFn := hid hFn
  have HWf := hid (And.intro hw1 (And.intro hw3 hwk))
  have HKs := hid (And.intro hxk hx)
  have HRR := hid hRR
  have hbase := hR.hr
  have hrlt := lt_of_block hR.box
  have hmlt := hM.lt
  clear hM hF hm hb h1 h2 s1 k1 k2 h12 hR hS hL hFn hx hxk hwf hw1 hw3 hwk hRR hMf
  unfold aggN
  go_enter Try.func19, Try.ntmps19
  go_upto_region 1 with fail
  change Code.wp _ _ _ _ ((w.alloc (boxN ⟨xk, xt, xa, xn, xc⟩)).alloc (.cells #[.map (some mb), .func (.func 43) #[] #[.pointer (some ⟨m1, 0, none⟩), .pointer (some ⟨b1, 0, none⟩)]] 65))
  generalize (w.alloc (boxN ⟨xk, xt, xa, xn, xc⟩)).alloc (.cells #[.map (some mb), .func (.func 43) #[] #[.pointer (some ⟨m1, 0, none⟩), .pointer (some ⟨b1, 0, none⟩)]] 65) = w1 at HX1 HS1 HB1 ⊢
  obtain ⟨⟨x0, x1, x2⟩, _⟩ := boxN_facts (x := ⟨xk, xt, xa, xn, xc⟩) HX1.out
  dsimp only at x0 x1 x2
  have y0 : w1.cell? ⟨w.heap.size + 1, 0, none⟩ = some (.map (some mb)) := by unfold World.cell?; rw [HS1.out]; rfl
  have y1 : w1.cell? ⟨w.heap.size + 1, 1, none⟩ = some (.func (.func 43) #[] #[.pointer (some ⟨m1, 0, none⟩), .pointer (some ⟨b1, 0, none⟩)]) := by unfold World.cell?; rw [HS1.out]; rfl
  have hXl := lt_of_block HX1.out
  have hSl := lt_of_block HS1.out
  have hR1 := HR.out.1.below HB1.out
  have hS1 := HR.out.2.turn (fun b _ hlt _ _ => HB1.out.block b hlt) (HR.out.2.map.same (HB1.out.block mb hmlt))
  have H1 := hid (And.intro hR1 hS1)
  have hw1z := HB1.out.size
  have HK1 := hid (kept_of_below (X := rX r mb (Value.slice ba bs.length bc).ownBlock) HB1.out)
  clear hR1 hS1
  by_cases k4 : xk = 4
  · subst k4
    obtain ⟨t, rfl⟩ : ∃ t : Nat, xt = (t : Int) := ⟨xt.toNat, by have := (HWf.out.1 (.inl rfl)).1; omega⟩
    have htl : t < L.length := by have := (HWf.out.1 (.inl rfl)).2; omega
    have HRq : Hid (R = thenR (mkR L t f) (fun f' => rsL L ks f' fs)) := by
      show _ = _
      have h0 := HRR.out
      rw [if_pos rfl, Int.toNat_natCast] at h0
      exact h0.symm
    have HW := hid (And.intro H1.out.1 (And.intro H1.out.2 (And.intro HX1.out HS1.out)))
    have HKW := hid HK1.out
    have HWz := hid (show w.heap.size ≤ w1.heap.size from hw1z)
    have HD := hid (rdecl_any hts hfew t B mb _ f fs htl HW.out.1 HW.out.2.1 hbm (by omega) (by omega))
    cases hr1 : mkR L t f with
    | error ye =>
      rw [hr1] at HD
      have HRe : Hid (R = .error ye) := by
        show _ = _
        have h0 := HRq.out
        rw [hr1] at h0
        exact h0
      clear hr1
      go_wp2_with fail
      refine HD.out.mono ?_
      intro e w2 hq
      have HE : Hid (RnPost base r la lc L bs (Value.slice ba bs.length bc).ownBlock mb R w e w2) := by
        show RnPost _ _ _ _ _ _ _ _ _ _ _ _
        rw [HRe.out]
        exact rn_from HKW.out hq
      obtain ⟨rfl, hk2⟩ := hq
      clear hk2
      exact ⟨rfl, HE.out⟩
    | ok z =>
      obtain ⟨f1, bs1⟩ := z
      rw [hr1] at HD
      have HRe : Hid (R = seqR bs1 (rsL L ks f1 fs)) := by
        show _ = _
        have h0 := HRq.out
        rw [hr1, thenR_seq] at h0
        exact h0
      have hlen : bs1.length ≤ 1 ∧ f1.length ≤ f.length + 1 := by
        have := lenOk_mk L t f _ _ hr1
        exact this
      clear hr1
      go_wp2_with fail
      refine HD.out.mono ?_
      rintro e w2 ⟨rfl, hm2, ⟨ba2, bc2, hv2, hrow2⟩, hk2⟩
      have hz2 := hk2.size
      have hX2 := rx_cells HW.out.1 HW.out.2.1.map hk2 HW.out.2.2.1 (by decide) (by decide)
      have hS2 := rx_cells HW.out.1 HW.out.2.1.map hk2 HW.out.2.2.2 (by decide) (by decide)
      obtain ⟨⟨u0, u1, u2⟩, _⟩ := boxN_facts (x := ⟨4, t, xa, xn, xc⟩) hX2
      dsimp only at u0 u1 u2
      have v0 : w2.cell? ⟨w.heap.size + 1, 0, none⟩ = some (.map (some mb)) := by unfold World.cell?; rw [hS2]; rfl
      have v1 : w2.cell? ⟨w.heap.size + 1, 1, none⟩ = some (.func (.func 43) #[] #[.pointer (some ⟨m1, 0, none⟩), .pointer (some ⟨b1, 0, none⟩)]) := by unfold World.cell?; rw [hS2]; rfl
      have hlow := rx_low HW.out.1 hbm hk2
      have hKk : Kept (rX r mb (Value.slice ba bs.length bc).ownBlock) w w2 := kept_then HKW.out hk2 (fun b _ h => h)
      have hlb : (bs ++ bs1).length = bs.length + bs1.length := by simp
      have HN := hid (HL.out ks (.slice xa xn xc) w2 (bs ++ bs1) ba2 bc2 B mb _ f1 fs (by omega) HWf.out.2.2 ((NwAt.of HKs.out.1).same hKk.size (fun b hb hlt => hKk.block b hlt (fun hx => by
        rcases hx with h | h | h
        · omega
        · omega
        · have := (HR.out.1.row.lt b h).1; omega))) hv2 (HW.out.2.1.kept HW.out.1 hk2 hm2) hbm (by have := hKk.size; omega) (by omega) (by omega))
      have HFm : Hid (∀ (e : Ending) (w' : World), RnPost base r la lc L (bs ++ bs1) (Value.slice ba2 (bs ++ bs1).length bc2).ownBlock mb (rsL L ks f1 fs) w2 e w' → RnPost base r la lc L bs (Value.slice ba bs.length bc).ownBlock mb R w e w') := fun e w' h => by
        rw [HRe.out]
        exact rn_seq hKk (fun g hg => (hrow2 g hg).imp id (fun h => by have := HWz.out; omega)) h
      clear hX2 hS2 hlow hKk hv2 hrow2 hm2 hk2 HD
      cases hr : rsL L ks f1 fs with
      | error ye =>
        rw [hr] at HN HFm
        clear hr
        go_wp2_with fail
        refine HN.out.mono ?_
        intro e w9 hq
        have HE := hid (HFm.out _ _ hq)
        obtain ⟨rfl, hk9⟩ := hq
        clear hk9
        exact ⟨rfl, HE.out⟩
      | ok z =>
        obtain ⟨f9, b9⟩ := z
        rw [hr] at HN HFm
        clear hr
        go_wp2_with fail
        refine HN.out.mono ?_
        intro e w9 hq
        have HE := hid (HFm.out _ _ hq)
        obtain ⟨rfl, hq2⟩ := hq
        clear hq2
        go_wp2_with fail
        go_end0
        exact HE.out
  · have k4b : (xk == 4) = false := by simpa using k4
    by_cases k10 : xk = 10
    · subst k10
      obtain ⟨t, rfl⟩ : ∃ t : Nat, xt = (t : Int) := ⟨xt.toNat, by have := (HWf.out.1 (.inr (.inl rfl))).1; omega⟩
      have htl : t < L.length := by have := (HWf.out.1 (.inr (.inl rfl))).2; omega
      have HRq : Hid (R = thenR (usR L t f fs) (fun f' => rsL L ks f' fs)) := by
        show _ = _
        have h0 := HRR.out
        rw [if_neg (by decide), if_pos rfl, Int.toNat_natCast] at h0
        exact h0.symm
      clear k4 k4b
      have HW := hid (And.intro H1.out.1 (And.intro H1.out.2 (And.intro HX1.out HS1.out)))
      have HKW := hid HK1.out
      have HWz := hid (show w.heap.size ≤ w1.heap.size from hw1z)
      have HD := hid (ruse_any hts t B mb _ f fs htl HW.out.1 HW.out.2.1 (by omega))
      cases hr1 : usR L t f fs with
      | error ye =>
        rw [hr1] at HD
        have HRe : Hid (R = .error ye) := by
          show _ = _
          have h0 := HRq.out
          rw [hr1] at h0
          exact h0
        clear hr1
        go_wp2_with fail
        refine HD.out.mono ?_
        intro e w2 hq
        have HE : Hid (RnPost base r la lc L bs (Value.slice ba bs.length bc).ownBlock mb R w e w2) := by
          show RnPost _ _ _ _ _ _ _ _ _ _ _ _
          rw [HRe.out]
          exact rn_from HKW.out hq
        obtain ⟨rfl, hk2⟩ := hq
        clear hk2
        exact ⟨rfl, HE.out⟩
      | ok z =>
        obtain ⟨f1, bs1⟩ := z
        rw [hr1] at HD
        have HRe : Hid (R = seqR bs1 (rsL L ks f1 fs)) := by
          show _ = _
          have h0 := HRq.out
          rw [hr1, thenR_seq] at h0
          exact h0
        have hlen : bs1.length ≤ 1 ∧ f1.length ≤ f.length + 1 := by
          have := lenOk_us L t f fs _ _ hr1
          exact this
        clear hr1
        go_wp2_with fail
        refine HD.out.mono ?_
        rintro e w2 ⟨rfl, hm2, ⟨ba2, bc2, hv2, hrow2⟩, hk2⟩
        have hz2 := hk2.size
        have hX2 := rx_cells HW.out.1 HW.out.2.1.map hk2 HW.out.2.2.1 (by decide) (by decide)
        have hS2 := rx_cells HW.out.1 HW.out.2.1.map hk2 HW.out.2.2.2 (by decide) (by decide)
        obtain ⟨⟨u0, u1, u2⟩, _⟩ := boxN_facts (x := ⟨10, t, xa, xn, xc⟩) hX2
        dsimp only at u0 u1 u2
        have v0 : w2.cell? ⟨w.heap.size + 1, 0, none⟩ = some (.map (some mb)) := by unfold World.cell?; rw [hS2]; rfl
        have v1 : w2.cell? ⟨w.heap.size + 1, 1, none⟩ = some (.func (.func 43) #[] #[.pointer (some ⟨m1, 0, none⟩), .pointer (some ⟨b1, 0, none⟩)]) := by unfold World.cell?; rw [hS2]; rfl
        have hlow := rx_low HW.out.1 hbm hk2
        have hKk : Kept (rX r mb (Value.slice ba bs.length bc).ownBlock) w w2 := kept_then HKW.out hk2 (fun b _ h => h)
        have hlb : (bs ++ bs1).length = bs.length + bs1.length := by simp
        have HN := hid (HL.out ks (.slice xa xn xc) w2 (bs ++ bs1) ba2 bc2 B mb _ f1 fs (by omega) HWf.out.2.2 ((NwAt.of HKs.out.1).same hKk.size (fun b hb hlt => hKk.block b hlt (fun hx => by
          rcases hx with h | h | h
          · omega
          · omega
          · have := (HR.out.1.row.lt b h).1; omega))) hv2 (HW.out.2.1.kept HW.out.1 hk2 hm2) hbm (by have := hKk.size; omega) (by omega) (by omega))
        have HFm : Hid (∀ (e : Ending) (w' : World), RnPost base r la lc L (bs ++ bs1) (Value.slice ba2 (bs ++ bs1).length bc2).ownBlock mb (rsL L ks f1 fs) w2 e w' → RnPost base r la lc L bs (Value.slice ba bs.length bc).ownBlock mb R w e w') := fun e w' h => by
          rw [HRe.out]
          exact rn_seq hKk (fun g hg => (hrow2 g hg).imp id (fun h => by have := HWz.out; omega)) h
        clear hX2 hS2 hlow hKk hv2 hrow2 hm2 hk2 HD
        cases hr : rsL L ks f1 fs with
        | error ye =>
          rw [hr] at HN HFm
          clear hr
          go_wp2_with fail
          refine HN.out.mono ?_
          intro e w9 hq
          have HE := hid (HFm.out _ _ hq)
          obtain ⟨rfl, hk9⟩ := hq
          clear hk9
          exact ⟨rfl, HE.out⟩
        | ok z =>
          obtain ⟨f9, b9⟩ := z
          rw [hr] at HN HFm
          clear hr
          go_wp2_with fail
          refine HN.out.mono ?_
          intro e w9 hq
          have HE := hid (HFm.out _ _ hq)
          obtain ⟨rfl, hq2⟩ := hq
          clear hq2
          go_wp2_with fail
          go_end0
          exact HE.out
    · have k10b : (xk == 10) = false := by simpa using k10
      by_cases k16 : xk = 16
      · subst k16
        obtain ⟨t, rfl⟩ : ∃ t : Nat, xt = (t : Int) := ⟨xt.toNat, by have := (HWf.out.1 (.inr (.inr rfl))).1; omega⟩
        have htl : t < L.length := by have := (HWf.out.1 (.inr (.inr rfl))).2; omega
        have HRq0 : Hid (R = if keyW (txtT L t) = true then rsL L ks f fs else thenR (usR L t f fs) (fun f' => rsL L ks f' fs)) := by
          show _ = _
          have h0 := HRR.out
          rw [if_neg (by decide), if_neg (by decide), if_pos rfl, Int.toNat_natCast] at h0
          exact h0.symm
        clear k4 k4b k10 k10b
        obtain ⟨⟨d0, d1⟩, _⟩ := H1.out.1.facts
        obtain ⟨tb, off, hla, htb, hc⟩ := H1.out.1.tok t htl
        have c1 := hc 1 _ rfl
        have htx : txtT L t = L[t].text.data.toList := by unfold txtT; rw [List.getElem?_eq_getElem htl]
        have HTx := hid htx
        subst hla
        generalize L[t].text = tx at c1 HTx
        have HY := hid (fun W => Key_any tx W)
        rw [HTx.out] at HRq0
        generalize hkb : keyW tx.data.toList = kb at HY HRq0
        have hi0 : (0 : Int) ≤ (t : Int) := by omega
        have hid1 : decide ((0 : Int) ≤ (t : Int)) = true := decide_eq_true hi0
        have hi2 : (t : Int) < (L.length : Int) := by omega
        have hid2 : decide ((t : Int) < (L.length : Int)) = true := decide_eq_true hi2
        have HBn := hid (fun nq => (show Below w1.heap.size w1 (w1.drewN nq) from dN_below (Below.refl _ _) nq))
        clear hc htx hkb d1
        go_wp2_with fail
        go_quiet ((go_at_call 40; exact Calls.quiet_of (HY.out _)))
        have HBq := hid (HBn.out nq)
        generalize World.drewN _ nq = wq at HBq ⊢
        have hRq := H1.out.1.below HBq.out
        have hSq := H1.out.2.turn (fun b _ hlt _ _ => HBq.out.block b hlt) (H1.out.2.map.same (HBq.out.block mb (by omega)))
        have HW := hid (And.intro hRq (And.intro hSq (And.intro ((HBq.out.block _ hXl).trans HX1.out) ((HBq.out.block _ hSl).trans HS1.out))))
        have HKW := hid (kept_then HK1.out (kept_of_below (X := fun _ => False) HBq.out) (fun b _ h => h.elim))
        have HWz := hid (show w.heap.size ≤ wq.heap.size from by have := HBq.out.size; omega)
        clear hRq hSq x0 x1 x2 y0 y1 d0 c1 HY HBn
        cases kb with
        | true =>
          have HRq : Hid (R = rsL L ks f fs) := HRq0.out
          obtain ⟨⟨u0, u1, u2⟩, _⟩ := boxN_facts (x := ⟨16, t, xa, xn, xc⟩) HW.out.2.2.1
          dsimp only at u0 u1 u2
          have v0 : wq.cell? ⟨w.heap.size + 1, 0, none⟩ = some (.map (some mb)) := by unfold World.cell?; rw [HW.out.2.2.2]; rfl
          have v1 : wq.cell? ⟨w.heap.size + 1, 1, none⟩ = some (.func (.func 43) #[] #[.pointer (some ⟨m1, 0, none⟩), .pointer (some ⟨b1, 0, none⟩)]) := by unfold World.cell?; rw [HW.out.2.2.2]; rfl
          have HN := hid (HL.out ks (.slice xa xn xc) wq bs ba bc B mb _ f fs (by omega) HWf.out.2.2 ((NwAt.of HKs.out.1).same HKW.out.size (fun b hb hlt => HKW.out.block b hlt (fun hx => by
            rcases hx with h | h | h
            · omega
            · omega
            · have := (HR.out.1.row.lt b h).1; omega))) HW.out.1 HW.out.2.1 hbm (by have := HKW.out.size; omega) (by omega) (by omega))
          have HFm : Hid (∀ (e : Ending) (w' : World), RnPost base r (some ⟨tb, off, none⟩) lc L bs (Value.slice ba bs.length bc).ownBlock mb (rsL L ks f fs) wq e w' → RnPost base r (some ⟨tb, off, none⟩) lc L bs (Value.slice ba bs.length bc).ownBlock mb R w e w') := fun e w' h => by
            rw [HRq.out]
            exact rn_from HKW.out h
          cases hr : rsL L ks f fs with
          | error ye =>
            rw [hr] at HN HFm
            clear hr
            go_wp2_with fail
            refine HN.out.mono ?_
            intro e w9 hq
            have HE := hid (HFm.out _ _ hq)
            obtain ⟨rfl, hk9⟩ := hq
            clear hk9
            exact ⟨rfl, HE.out⟩
          | ok z =>
            obtain ⟨f9, b9⟩ := z
            rw [hr] at HN HFm
            clear hr
            go_wp2_with fail
            refine HN.out.mono ?_
            intro e w9 hq
            have HE := hid (HFm.out _ _ hq)
            obtain ⟨rfl, hq2⟩ := hq
            clear hq2
            go_wp2_with fail
            go_end0
            exact HE.out
        | false =>
          have HRq : Hid (R = thenR (usR L t f fs) (fun f' => rsL L ks f' fs)) := HRq0.out
          obtain ⟨⟨u0, u1, u2⟩, _⟩ := boxN_facts (x := ⟨16, t, xa, xn, xc⟩) HW.out.2.2.1
          dsimp only at u0 u1 u2
          have v0 : wq.cell? ⟨w.heap.size + 1, 0, none⟩ = some (.map (some mb)) := by unfold World.cell?; rw [HW.out.2.2.2]; rfl
          have v1 : wq.cell? ⟨w.heap.size + 1, 1, none⟩ = some (.func (.func 43) #[] #[.pointer (some ⟨m1, 0, none⟩), .pointer (some ⟨b1, 0, none⟩)]) := by unfold World.cell?; rw [HW.out.2.2.2]; rfl
          have HD := hid (ruse_any hts t B mb _ f fs htl HW.out.1 HW.out.2.1 (by omega))
          cases hr1 : usR L t f fs with
          | error ye =>
            rw [hr1] at HD
            have HRe : Hid (R = .error ye) := by
              show _ = _
              have h0 := HRq.out
              rw [hr1] at h0
              exact h0
            clear hr1
            go_wp2_with fail
            refine HD.out.mono ?_
            intro e w2 hq
            have HE : Hid (RnPost base r (some ⟨tb, off, none⟩) lc L bs (Value.slice ba bs.length bc).ownBlock mb R w e w2) := by
              show RnPost _ _ _ _ _ _ _ _ _ _ _ _
              rw [HRe.out]
              exact rn_from HKW.out hq
            obtain ⟨rfl, hk2⟩ := hq
            clear hk2
            exact ⟨rfl, HE.out⟩
          | ok z =>
            obtain ⟨f1, bs1⟩ := z
            rw [hr1] at HD
            have HRe : Hid (R = seqR bs1 (rsL L ks f1 fs)) := by
              show _ = _
              have h0 := HRq.out
              rw [hr1, thenR_seq] at h0
              exact h0
            have hlen : bs1.length ≤ 1 ∧ f1.length ≤ f.length + 1 := by
              have := lenOk_us L t f fs _ _ hr1
              exact this
            clear hr1
            go_wp2_with fail
            refine HD.out.mono ?_
            rintro e w2 ⟨rfl, hm2, ⟨ba2, bc2, hv2, hrow2⟩, hk2⟩
            have hz2 := hk2.size
            have hX2 := rx_cells HW.out.1 HW.out.2.1.map hk2 HW.out.2.2.1 (by decide) (by decide)
            have hS2 := rx_cells HW.out.1 HW.out.2.1.map hk2 HW.out.2.2.2 (by decide) (by decide)
            obtain ⟨⟨u0, u1, u2⟩, _⟩ := boxN_facts (x := ⟨16, t, xa, xn, xc⟩) hX2
            dsimp only at u0 u1 u2
            have v0 : w2.cell? ⟨w.heap.size + 1, 0, none⟩ = some (.map (some mb)) := by unfold World.cell?; rw [hS2]; rfl
            have v1 : w2.cell? ⟨w.heap.size + 1, 1, none⟩ = some (.func (.func 43) #[] #[.pointer (some ⟨m1, 0, none⟩), .pointer (some ⟨b1, 0, none⟩)]) := by unfold World.cell?; rw [hS2]; rfl
            have hlow := rx_low HW.out.1 hbm hk2
            have hKk : Kept (rX r mb (Value.slice ba bs.length bc).ownBlock) w w2 := kept_then HKW.out hk2 (fun b _ h => h)
            have hlb : (bs ++ bs1).length = bs.length + bs1.length := by simp
            have HN := hid (HL.out ks (.slice xa xn xc) w2 (bs ++ bs1) ba2 bc2 B mb _ f1 fs (by omega) HWf.out.2.2 ((NwAt.of HKs.out.1).same hKk.size (fun b hb hlt => hKk.block b hlt (fun hx => by
              rcases hx with h | h | h
              · omega
              · omega
              · have := (HR.out.1.row.lt b h).1; omega))) hv2 (HW.out.2.1.kept HW.out.1 hk2 hm2) hbm (by have := hKk.size; omega) (by omega) (by omega))
            have HFm : Hid (∀ (e : Ending) (w' : World), RnPost base r (some ⟨tb, off, none⟩) lc L (bs ++ bs1) (Value.slice ba2 (bs ++ bs1).length bc2).ownBlock mb (rsL L ks f1 fs) w2 e w' → RnPost base r (some ⟨tb, off, none⟩) lc L bs (Value.slice ba bs.length bc).ownBlock mb R w e w') := fun e w' h => by
              rw [HRe.out]
              exact rn_seq hKk (fun g hg => (hrow2 g hg).imp id (fun h => by have := HWz.out; omega)) h
            clear hX2 hS2 hlow hKk hv2 hrow2 hm2 hk2 HD
            cases hr : rsL L ks f1 fs with
            | error ye =>
              rw [hr] at HN HFm
              clear hr
              go_wp2_with fail
              refine HN.out.mono ?_
              intro e w9 hq
              have HE := hid (HFm.out _ _ hq)
              obtain ⟨rfl, hk9⟩ := hq
              clear hk9
              exact ⟨rfl, HE.out⟩
            | ok z =>
              obtain ⟨f9, b9⟩ := z
              rw [hr] at HN HFm
              clear hr
              go_wp2_with fail
              refine HN.out.mono ?_
              intro e w9 hq
              have HE := hid (HFm.out _ _ hq)
              obtain ⟨rfl, hq2⟩ := hq
              clear hq2
              go_wp2_with fail
              go_end0
              exact HE.out
      · have k16b : (xk == 16) = false := by simpa using k16
        by_cases k3 : xk = 3
        · subst k3
          have HRq : Hid (R = rsF L ks f fs) := by
            show _ = _
            have h0 := HRR.out
            rw [if_neg (by decide), if_neg (by decide), if_neg (by decide), if_pos rfl] at h0
            exact h0.symm
          clear k4 k4b k10 k10b k16 k16b
          have HN := hid (HFn.out 3 xt ks ⟨3, xt, xa, xn, xc⟩ w1 bs ba bc B mb _ f fs (by omega) HWf.out.2.2 (HWf.out.2.1 rfl) (HKs.out.2.kept fun b hb hlt => HB1.out.block b hlt) H1.out.1 H1.out.2 hbm (by omega) (by omega) (by omega))
          unfold aggN at HN
          dsimp only at HN
          have HFm : Hid (∀ (e : Ending) (w' : World), RnPost base r la lc L bs (Value.slice ba bs.length bc).ownBlock mb (rsF L ks f fs) w1 e w' → RnPost base r la lc L bs (Value.slice ba bs.length bc).ownBlock mb R w e w') := fun e w' h => by
            rw [HRq.out]
            exact rn_from HK1.out h
          cases hr : rsF L ks f fs with
          | error ye =>
            rw [hr] at HN HFm
            clear hr
            go_wp2_with fail
            refine HN.out.mono ?_
            intro e w9 hq
            have HE := hid (HFm.out _ _ hq)
            obtain ⟨rfl, hk9⟩ := hq
            clear hk9
            exact ⟨rfl, HE.out⟩
          | ok z =>
            obtain ⟨f9, b9⟩ := z
            rw [hr] at HN HFm
            clear hr
            go_wp2_with fail
            refine HN.out.mono ?_
            intro e w9 hq
            have HE := hid (HFm.out _ _ hq)
            obtain ⟨rfl, hq2⟩ := hq
            clear hq2
            go_wp2_with fail
            go_end0
            exact HE.out
        · have k3b : (xk == 3) = false := by simpa using k3
          by_cases k5 : xk = 5
          · subst k5
            have HRq : Hid (R = keepF f (rsL L ks [] (f :: fs))) := by
              show _ = _
              have h0 := HRR.out
              rw [if_neg (by decide), if_neg (by decide), if_neg (by decide), if_neg (by decide), if_pos rfl] at h0
              exact h0.symm
            clear k4 k4b k10 k10b k16 k16b k3 k3b
            have HWi := hid (within_fix (w := w1) 43 #[.pointer (some ⟨m1, 0, none⟩), .pointer (some ⟨b1, 0, none⟩)])
            go_wp2_with fail
            refine HWi.out.mono ?_
            rintro e w2 ⟨mb2, m2, b2, rfl, q1, q2, q3, q4, q5, q6, q7, hb2⟩
            have hS2 := (hb2.block _ hSl).trans HS1.out
            have hX2 := (hb2.block _ hXl).trans HX1.out
            have hz2 := hb2.size
            have hRv2 := H1.out.1.below hb2
            have hSv2 := H1.out.2.turn (fun b _ hlt _ _ => hb2.block b hlt) (H1.out.2.map.same (hb2.block mb (by omega)))
            have v0 : w2.cell? ⟨w.heap.size + 1, 0, none⟩ = some (.map (some mb)) := by unfold World.cell?; rw [hS2]; rfl
            have v1 : w2.cell? ⟨w.heap.size + 1, 1, none⟩ = some (.func (.func 43) #[] #[.pointer (some ⟨m1, 0, none⟩), .pointer (some ⟨b1, 0, none⟩)]) := by unfold World.cell?; rw [hS2]; rfl
            have v2 : w2.frozen? ⟨w.heap.size + 1, 0, none⟩ = false := by simp [World.frozen?, hS2]
            have v3 : w2.frozen? ⟨w.heap.size + 1, 1, none⟩ = false := by simp [World.frozen?, hS2]
            have hSl2 := lt_of_block hS2
            have HA := hid (And.intro q1 (And.intro q2 (And.intro q3 (And.intro q4 (And.intro q5 (And.intro q6 (And.intro q7 hb2)))))))
            have H2 := hid (And.intro hRv2 (And.intro hSv2 (And.intro hX2 hS2)))
            clear q1 q2 q3 q4 q5 q6 q7 hb2 hS2 hX2 hRv2 hSv2 HWi x0 x1 x2 y0 y1
            go_upto_region 13 with fail
            change Code.wp _ _ _ _ ((w2.setCell ⟨w.heap.size + 1, 0, none⟩ (.map (some mb2))).setCell ⟨w.heap.size + 1, 1, none⟩ (.func (.func 43) #[] #[.pointer (some ⟨m2, 0, none⟩), .pointer (some ⟨b2, 0, none⟩)]))
            have hoth : ∀ b, b ≠ w.heap.size + 1 → ((w2.setCell ⟨w.heap.size + 1, 0, none⟩ (.map (some mb2))).setCell ⟨w.heap.size + 1, 1, none⟩ (.func (.func 43) #[] #[.pointer (some ⟨m2, 0, none⟩), .pointer (some ⟨b2, 0, none⟩)])).heap[b]? = w2.heap[b]? := fun b hb => (Below.heap_setCell _ _ _ _ hb).trans (Below.heap_setCell _ _ _ _ hb)
            have hS3 : ((w2.setCell ⟨w.heap.size + 1, 0, none⟩ (.map (some mb2))).setCell ⟨w.heap.size + 1, 1, none⟩ (.func (.func 43) #[] #[.pointer (some ⟨m2, 0, none⟩), .pointer (some ⟨b2, 0, none⟩)])).heap[w.heap.size + 1]? = some (.cells #[.map (some mb2), .func (.func 43) #[] #[.pointer (some ⟨m2, 0, none⟩), .pointer (some ⟨b2, 0, none⟩)]] 65) := by
              have j1 := Go.Joins.block_setCell (i := 0) H2.out.2.2.2 (.map (some mb2))
              have j2 := Go.Joins.block_setCell (i := 1) j1 (.func (.func 43) #[] #[.pointer (some ⟨m2, 0, none⟩), .pointer (some ⟨b2, 0, none⟩)])
              simpa using j2
            have hz3 : ((w2.setCell ⟨w.heap.size + 1, 0, none⟩ (.map (some mb2))).setCell ⟨w.heap.size + 1, 1, none⟩ (.func (.func 43) #[] #[.pointer (some ⟨m2, 0, none⟩), .pointer (some ⟨b2, 0, none⟩)])).heap.size = w2.heap.size := by simp
            have hkS : Kept (fun b => b = w.heap.size + 1) w2 ((w2.setCell ⟨w.heap.size + 1, 0, none⟩ (.map (some mb2))).setCell ⟨w.heap.size + 1, 1, none⟩ (.func (.func 43) #[] #[.pointer (some ⟨m2, 0, none⟩), .pointer (some ⟨b2, 0, none⟩)])) := ⟨rfl, rfl, rfl, by omega, fun b _ hn => hoth b hn⟩
            generalize (w2.setCell ⟨w.heap.size + 1, 0, none⟩ (.map (some mb2))).setCell ⟨w.heap.size + 1, 1, none⟩ (.func (.func 43) #[] #[.pointer (some ⟨m2, 0, none⟩), .pointer (some ⟨b2, 0, none⟩)]) = w3 at hoth hS3 hz3 hkS ⊢
            clear v0 v1 v2 v3
            have hX3 := (hoth _ (by omega)).trans H2.out.2.2.1
            obtain ⟨⟨u0, u1, u2⟩, _⟩ := boxN_facts (x := ⟨5, xt, xa, xn, xc⟩) hX3
            dsimp only at u0 u1 u2
            have v0 : w3.cell? ⟨w.heap.size + 1, 0, none⟩ = some (.map (some mb2)) := by unfold World.cell?; rw [hS3]; rfl
            have v1 : w3.cell? ⟨w.heap.size + 1, 1, none⟩ = some (.func (.func 43) #[] #[.pointer (some ⟨m2, 0, none⟩), .pointer (some ⟨b2, 0, none⟩)]) := by unfold World.cell?; rw [hS3]; rfl
            obtain ⟨q1, q2, q3, q4, q5, q6, q7, hb2⟩ := HA.out
            have hSO : CellO w2 (w.heap.size + 1) := ⟨_, _, _, H2.out.2.2.2, by decide, by decide⟩
            have hrowS : (Value.slice ba bs.length bc).ownBlock ≠ some (w.heap.size + 1) := fun h => by have := (HR.out.1.row.lt _ h).2; omega
            have hRv3 : RvAt w3 base r la lc L bs ba bc := H2.out.1.same (by omega) (hoth r (by omega)) (fun b hb => hoth b (fun e => hrowS (e ▸ hb))) (fun b hb => hoth b (by omega))
            have hSv3 : SvAt w3 B _ mb f fs := H2.out.2.1.turn (fun b hb _ _ hc => hoth b (by omega)) (H2.out.2.1.map.same (hoth mb (by omega)))
            have hInn : SvAt w3 w3.heap.size (.agg #[.map (some mb2), .func (.func 43) #[] #[.pointer (some ⟨m2, 0, none⟩), .pointer (some ⟨b2, 0, none⟩)]]) mb2 [] (f :: fs) := ⟨m2, b2, _, rfl, by omega, q2, q3, (hoth _ (by omega)).trans q5, (hoth _ (by omega)).trans q6, q7.same (hoth _ (by omega)), hSv3.fd.mono (by omega)⟩
            have hKw : Kept (rX r mb (Value.slice ba bs.length bc).ownBlock) w w3 := kept_then (kept_then HK1.out (kept_of_below (X := fun _ => False) hb2) (fun b _ h => h.elim)) hkS (fun b hb (h : b = w.heap.size + 1) => by omega)
            have hmbne : ¬ rX r mb2 (Value.slice ba bs.length bc).ownBlock mb := fun hx => by
              rcases hx with h | h | h
              · exact HR.out.2.map.noCell (h ▸ HR.out.1.selfO)
              · omega
              · exact HR.out.2.map.noCell (HR.out.1.rowO h)
            have HN := hid (HL.out ks (.slice xa xn xc) w3 bs ba bc w3.heap.size mb2 _ [] (f :: fs) (by omega) HWf.out.2.2 ((NwAt.of HKs.out.1).same hKw.size (fun b hb hlt => hKw.block b hlt (fun hx => by
              rcases hx with h | h | h
              · omega
              · omega
              · have := (HR.out.1.row.lt b h).1; omega))) hRv3 hInn (by omega) (Nat.le_refl _) (by omega) (by simp; omega))
            have HFm : Hid (∀ (e : Ending) (w' : World), RnPost base r la lc L bs (Value.slice ba bs.length bc).ownBlock mb2 (rsL L ks [] (f :: fs)) w3 e w' → RnPost base r la lc L bs (Value.slice ba bs.length bc).ownBlock mb R w e w') := fun e w' h => by
              rw [HRq.out]
              exact rn_keep hKw (by omega) hSv3.map hmbne h
            clear hoth hS3 hz3 hkS hX3 q1 q2 q3 q4 q5 q6 q7 hb2 hSO hRv3 hSv3 hInn hKw hmbne
            cases hr : rsL L ks [] (f :: fs) with
            | error ye =>
              rw [hr] at HN HFm
              clear hr
              go_wp2_with fail
              refine HN.out.mono ?_
              intro e w9 hq
              have HE := hid (HFm.out _ _ hq)
              obtain ⟨rfl, hk9⟩ := hq
              clear hk9
              exact ⟨rfl, HE.out⟩
            | ok z =>
              obtain ⟨f9, b9⟩ := z
              rw [hr] at HN HFm
              clear hr
              go_wp2_with fail
              refine HN.out.mono ?_
              intro e w9 hq
              have HE := hid (HFm.out _ _ hq)
              obtain ⟨rfl, hq2⟩ := hq
              clear hq2
              go_wp2_with fail
              go_end0
              exact HE.out
          · have k5b : (xk == 5) = false := by simpa using k5
            have HRq : Hid (R = rsL L ks f fs) := by
              show _ = _
              have h0 := HRR.out
              rw [if_neg k4, if_neg k10, if_neg k16, if_neg k3, if_neg k5] at h0
              exact h0.symm
            clear k4 k10 k16 k3 k5
            have HW := hid (And.intro H1.out.1 (And.intro H1.out.2 (And.intro HX1.out HS1.out)))
            have HKW := hid HK1.out
            clear x0 x1 x2 y0 y1
            obtain ⟨⟨u0, u1, u2⟩, _⟩ := boxN_facts (x := ⟨xk, xt, xa, xn, xc⟩) HW.out.2.2.1
            dsimp only at u0 u1 u2
            have v0 : w1.cell? ⟨w.heap.size + 1, 0, none⟩ = some (.map (some mb)) := by unfold World.cell?; rw [HW.out.2.2.2]; rfl
            have v1 : w1.cell? ⟨w.heap.size + 1, 1, none⟩ = some (.func (.func 43) #[] #[.pointer (some ⟨m1, 0, none⟩), .pointer (some ⟨b1, 0, none⟩)]) := by unfold World.cell?; rw [HW.out.2.2.2]; rfl
            have HN := hid (HL.out ks (.slice xa xn xc) w1 bs ba bc B mb _ f fs (by omega) HWf.out.2.2 ((NwAt.of HKs.out.1).same HKW.out.size (fun b hb hlt => HKW.out.block b hlt (fun hx => by
              rcases hx with h | h | h
              · omega
              · omega
              · have := (HR.out.1.row.lt b h).1; omega))) HW.out.1 HW.out.2.1 hbm (by have := HKW.out.size; omega) (by omega) (by omega))
            have HFm : Hid (∀ (e : Ending) (w' : World), RnPost base r la lc L bs (Value.slice ba bs.length bc).ownBlock mb (rsL L ks f fs) w1 e w' → RnPost base r la lc L bs (Value.slice ba bs.length bc).ownBlock mb R w e w') := fun e w' h => by
              rw [HRq.out]
              exact rn_from HKW.out h
            cases hr : rsL L ks f fs with
            | error ye =>
              rw [hr] at HN HFm
              clear hr
              go_wp2_with fail
              refine HN.out.mono ?_
              intro e w9 hq
              have HE := hid (HFm.out _ _ hq)
              obtain ⟨rfl, hk9⟩ := hq
              clear hk9
              exact ⟨rfl, HE.out⟩
            | ok z =>
              obtain ⟨f9, b9⟩ := z
              rw [hr] at HN HFm
              clear hr
              go_wp2_with fail
              refine HN.out.mono ?_
              intro e w9 hq
              have HE := hid (HFm.out _ _ hq)
              obtain ⟨rfl, hq2⟩ := hq
              clear hq2
              go_wp2_with fail
              go_end0
              exact HE.out
end
end
section
open Go.RowKit Go.Shelf
theorem nd_all (base r : Nat) (la : Option Addr) (lc : Nat) (L : List Tk) (hts : ∀ t ∈ L, t.text.size ≤ 3000) (hfew : L.length ≤ 6000) : ∀ N, NdC base r la lc L N ∧ NlC base r la lc L N
  | 0 => by
    have h0 : NdC base r la lc L 0 := fun n _ _ _ _ _ _ _ _ _ _ hz => by have := zN_pos n; omega
    exact ⟨h0, nodes_step 0 h0⟩
  | N + 1 => by
    obtain ⟨_, h2⟩ := nd_all base r la lc L hts hfew N
    have h3 := nd_step hts hfew N h2 (fn_step N h2)
    exact ⟨h3, nodes_step (N + 1) h3⟩
theorem assertS_none (T : TypeId) (w : World) : (Instr.typeAssert .nilIface T 56 true).run Try.prog w = .ok (.tuple #[.agg #[.int .i64 0, .int .i64 0, .int .i64 0], .bool false]) w := by kernel_rfl
theorem assertS_stop (T : TypeId) (v : Value) (w : World) : (Instr.typeAssert (.iface 56 v) T 56 true).run Try.prog w = .ok (.tuple #[v, .bool true]) w := by kernel_rfl
set_option maxRecDepth 100000 in
set_option maxHeartbeats 1000000 in
theorem catchS_idle (p q : Addr) (w : World) :
    CallsD Try.prog 18 #[.pointer (some p), .pointer (some q)] .returning w fun e u' w' => e = .returned (.tuple #[]) ∧ u' = .returning ∧ Below w.heap.size w w' := by
  refine callsD_of_wpS Try.func18 rfl fun c₀ cs hu => ?_
  apply wpS_seq
  apply wpS_region
  simp [wpOpsS, go_sem, recoverD, hu, Try.ntmps18, Exit.thenS, assertS_none, Array.replicate]
  refine wpS_of_wp ?_
  go_wp2_with fail
  have HB := hid (below_new w (.cells #[.int .i64 0, .int .i64 0, .int .i64 0] 56))
  generalize w.alloc (.cells #[.int .i64 0, .int .i64 0, .int .i64 0] 56) = w2 at HB ⊢
  cases c₀
  simp_all [bodyPostS, results, Try.results18]
  exact HB.out
set_option maxRecDepth 100000 in
set_option maxHeartbeats 2000000 in
theorem catchS_stop (B p q : Nat) (u y0 y1 y2 : Value) (e f a : Int) (older : List PanicEntry) (w : World) (hp : w.heap[p]? = some (.cells #[u] 32)) (hq : w.heap[q]? = some (.cells #[y0, y1, y2] 29)) (hpq : p ≠ q) (hBp : B ≤ p) (hBq : B ≤ q) :
    CallsD Try.prog 18 #[.pointer (some ⟨p, 0, none⟩), .pointer (some ⟨q, 0, none⟩)] (.panicking ({ v := .iface 56 (.agg #[.int .i64 e, .int .i64 f, .int .i64 a]), recovered := false } :: older)) w fun e' u' w' =>
      e' = .returned (.tuple #[]) ∧ u' = .panicking ({ v := .iface 56 (.agg #[.int .i64 e, .int .i64 f, .int .i64 a]), recovered := true } :: older) ∧ w'.heap[p]? = some (.cells #[.slice none 0 0] 32) ∧ w'.heap[q]? = some (.cells #[.int .i64 e, .int .i64 f, .int .i64 a] 29) ∧ Below B w w' := by
  refine callsD_of_wpS Try.func18 rfl fun c₀ cs hu => ?_
  apply wpS_seq
  apply wpS_region
  simp [wpOpsS, go_sem, recoverD, hu, Try.ntmps18, Exit.thenS, assertS_stop, Array.replicate]
  refine wpS_of_wp ?_
  have hpl := lt_of_block hp
  have hql := lt_of_block hq
  have n0 : (w.alloc (.cells #[.int .i64 e, .int .i64 f, .int .i64 a] 56)).heap[w.heap.size]? = some (.cells #[.int .i64 e, .int .i64 f, .int .i64 a] 56) := by first | exact heap_alloc_new w _ | exact Array.getElem?_push_size
  have p0 := ((below_new w (.cells #[.int .i64 e, .int .i64 f, .int .i64 a] 56)).block p hpl).trans hp
  have q0 := ((below_new w (.cells #[.int .i64 e, .int .i64 f, .int .i64 a] 56)).block q hql).trans hq
  have HB := hid ((below_new w (.cells #[.int .i64 e, .int .i64 f, .int .i64 a] 56)).mono (show B ≤ w.heap.size by omega))
  obtain ⟨N, hN⟩ : ∃ N, N = w.heap.size := ⟨_, rfl⟩
  rw [← hN] at n0 ⊢
  generalize w.alloc (.cells #[.int .i64 e, .int .i64 f, .int .i64 a] 56) = w2 at n0 p0 q0 HB ⊢
  have hpN : p ≠ N := by omega
  have hqN : q ≠ N := by omega
  have HP := hid p0
  have HQ := hid q0
  obtain ⟨⟨k0, k1, k2⟩, _⟩ : (w2.cell? ⟨N, 0, none⟩ = some (.int .i64 e) ∧ w2.cell? ⟨N, 1, none⟩ = some (.int .i64 f) ∧ w2.cell? ⟨N, 2, none⟩ = some (.int .i64 a)) ∧ True := by simp [World.cell?, n0]
  have m0 : w2.cell? ⟨p, 0, none⟩ = some u := by simp [World.cell?, p0]
  have g0 : w2.frozen? ⟨p, 0, none⟩ = false := by simp [World.frozen?, p0]
  obtain ⟨⟨q1, q2, q3⟩, r1, r2, r3⟩ := scFlt q0
  clear hN hp hq hpl hql p0 q0
  go_wp2_with fail
  have HNb := hid n0
  clear n0
  go_region
  all_goals (have HB5 := hid (scPutF_below (HB.out.setCell (p := ⟨p, 0, none⟩) hBp (.slice none 0 0)) hBq e f a))
  all_goals (have HP5 : Hid ((scPutF (w2.setCell ⟨p, 0, none⟩ (.slice none 0 0)) q e f a).heap[p]? = some (.cells #[.slice none 0 0] 32)) := (scPutF_other _ _ _ _ _ _ hpq).trans (by have := Go.Joins.block_setCell (i := 0) HP.out (.slice none 0 0); simpa using this))
  all_goals (have HQ5 : Hid ((scPutF (w2.setCell ⟨p, 0, none⟩ (.slice none 0 0)) q e f a).heap[q]? = some (.cells #[.int .i64 e, .int .i64 f, .int .i64 a] 29)) := scPutF_block e f a ((Below.heap_setCell _ _ _ _ (Ne.symm hpq)).trans HQ.out))
  all_goals unfold scPutF at HB5 HP5 HQ5
  all_goals generalize (((w2.setCell ⟨p, 0, none⟩ (.slice none 0 0)).setCell ⟨q, 0, none⟩ (.int .i64 e)).setCell ⟨q, 1, none⟩ (.int .i64 f)).setCell ⟨q, 2, none⟩ (.int .i64 a) = w5 at HB5 HP5 HQ5 ⊢
  all_goals go_wp2_with fail
  all_goals simp [bodyPostS, results, Try.results18]
  all_goals exact ⟨HP5.out, HQ5.out, HB5.out.drew⟩
end
section
open Go.RowKit Go.Shelf
/-- What Resolve answers. -/
def SPost (L : List Tk) (n : Nd) (w : World) (e : Ending) (w' : World) : Prop := Below w.heap.size w w' ∧ match resR L n with
  | .ok b => ∃ a c, e = .returned (.tuple #[.slice a b.length c, .agg #[.int .i64 0, .int .i64 (-1), .int .i64 0]]) ∧ w'.ownsRow w.heap.size 40 2 (.slice a b.length c) b.length (cellsBd b)
  | .error y => e = .returned (.tuple #[.slice none 0 0, .agg #[.int .i64 y.1, .int .i64 (placeT L y.2).1, .int .i64 (placeT L y.2).2]])
set_option maxRecDepth 100000 in
set_option maxHeartbeats 4000000 in
theorem Resolve_any {la : Option Addr} {lc : Nat} {L : List Tk} {n : Nd} {x : Nv} (hts : ∀ t ∈ L, t.text.size ≤ 3000) (w : World) (hT : TAt w la L) (hfew : L.length ≤ 6000) (hx : NdIs w (· < w.heap.size) x n) (hwf : wfN L.length n) (hz : zN n ≤ 90000) :
    Calls Try.prog 8 #[.slice la L.length lc, aggN x] w (SPost L n w) := by
  have hmf : ∀ (fn : Fn) (first cap : Array Value) (w : World), (Instr.makeFunc fn first cap).run Try.prog w = .ok (.func fn first cap) w := fun _ _ _ _ => rfl
  obtain ⟨xk, xt, xa, xn, xc⟩ := x
  have h1 := below_new w (boxN ⟨xk, xt, xa, xn, xc⟩)
  have k1 := heap_alloc_new w (boxN ⟨xk, xt, xa, xn, xc⟩)
  have s1 : (w.alloc (boxN ⟨xk, xt, xa, xn, xc⟩)).heap.size = w.heap.size + 1 := by simp
  have h2 := below_new (w.alloc (boxN ⟨xk, xt, xa, xn, xc⟩)) (.cells #[.slice none 0 0] 32)
  have k2 := heap_alloc_new (w.alloc (boxN ⟨xk, xt, xa, xn, xc⟩)) (.cells #[.slice none 0 0] 32)
  have s2 : ((w.alloc (boxN ⟨xk, xt, xa, xn, xc⟩)).alloc (.cells #[.slice none 0 0] 32)).heap.size = w.heap.size + 1 + 1 := by simp
  have h3 := below_new ((w.alloc (boxN ⟨xk, xt, xa, xn, xc⟩)).alloc (.cells #[.slice none 0 0] 32)) (.cells #[.int .i64 0, .int .i64 0, .int .i64 0] 29)
  have k3 := heap_alloc_new ((w.alloc (boxN ⟨xk, xt, xa, xn, xc⟩)).alloc (.cells #[.slice none 0 0] 32)) (.cells #[.int .i64 0, .int .i64 0, .int .i64 0] 29)
  have s3 : (((w.alloc (boxN ⟨xk, xt, xa, xn, xc⟩)).alloc (.cells #[.slice none 0 0] 32)).alloc (.cells #[.int .i64 0, .int .i64 0, .int .i64 0] 29)).heap.size = w.heap.size + 1 + 1 + 1 := by simp
  have h4 := below_new (((w.alloc (boxN ⟨xk, xt, xa, xn, xc⟩)).alloc (.cells #[.slice none 0 0] 32)).alloc (.cells #[.int .i64 0, .int .i64 0, .int .i64 0] 29)) (.cells #[.slice la L.length lc, .slice none 0 0] 59)
  have k4 := heap_alloc_new (((w.alloc (boxN ⟨xk, xt, xa, xn, xc⟩)).alloc (.cells #[.slice none 0 0] 32)).alloc (.cells #[.int .i64 0, .int .i64 0, .int .i64 0] 29)) (.cells #[.slice la L.length lc, .slice none 0 0] 59)
  rw [s1] at k2
  rw [s2] at k3
  rw [s3] at k4
  have hb := ((h1.trans (h2.mono (by omega))).trans (h3.mono (by omega))).trans (h4.mono (by omega))
  have HX := hid ((h4.block _ (by omega)).trans ((h3.block _ (by omega)).trans ((h2.block _ (by omega)).trans k1)))
  have HO := hid ((h4.block _ (by omega)).trans ((h3.block _ (by omega)).trans k2))
  have HQ := hid ((h4.block _ (by omega)).trans k3)
  have HRb := hid k4
  have HB := hid hb
  have HTx := hid (And.intro hT hx)
  generalize hRR : resR L n = RS
  have HRR := hid hRR
  clear h1 k1 s1 h2 k2 s2 h3 k3 s3 h4 k4 hb hT hx hRR
  dsimp only [boxN] at HX HO HQ HRb HB
  unfold aggN SPost
  rw [HRR.out]
  go_enter_defers Try.func8, Try.ntmps8
  go_wp2_with fail
  generalize (((w.alloc (.cells #[.int .i64 xk, .int .i64 xt, .slice xa xn xc] 26)).alloc (.cells #[.slice none 0 0] 32)).alloc (.cells #[.int .i64 0, .int .i64 0, .int .i64 0] 29)).alloc (.cells #[.slice la L.length lc, .slice none 0 0] 59) = w4 at HX HO HQ HRb HB ⊢
  have HCe := hid (fun W (hb : Below w4.heap.size w4 W) => (boxN_facts (x := ⟨xk, xt, xa, xn, xc⟩) ((hb.block _ (lt_of_block HX.out)).trans HX.out)).1)
  obtain ⟨⟨x0, x1, x2⟩, _⟩ := boxN_facts (x := ⟨xk, xt, xa, xn, xc⟩) HX.out
  dsimp only at x0 x1 x2 HCe
  refine wp_region_held_drew (S := (fun W => W.cell? ⟨w.heap.size, 0, none⟩ = some (.int .i64 xk) ∧ W.cell? ⟨w.heap.size, 1, none⟩ = some (.int .i64 xt) ∧ W.cell? ⟨w.heap.size, 2, none⟩ = some (.slice xa xn xc))) (by kernel_rfl) ⟨x0, x1, x2⟩ (fun hHeld => ?_)
  clear x0 x1 x2
  refine wpAnyH_ready (rs := [0, 1]) (by kernel_rfl) (by simp) (AllReadyH.cons rfl (fun K hK => ?_) (AllReadyH.cons rfl (fun K hK => ?_) AllReadyH.nil))
  · obtain ⟨x0, x1, x2⟩ := HCe.out w4.drew (Below.refl _ _).drew

    have HW0 := hid (show Below w4.heap.size w4 w4.drew from (Below.refl _ _).drew)
    go_simp
    refine hK.out _ _ (HCe.out _ HW0.out) (fun hHeld => ?_)
    clear hK K x0 x1 x2
    refine wpAnyH_ready (rs := [1]) (by kernel_rfl) (by simp) (AllReadyH.cons rfl (fun K hK => ?_) AllReadyH.nil)
    go_simp
    refine (within_fix 21 #[]).mono ?_
    rintro e w5 ⟨mb, m2, b2, rfl, q1, q2, q3, q4, q5, q6, q7, hb5⟩
    refine hK.out _ _ (HCe.out _ (HW0.out.trans (hb5.mono HW0.out.size))) (fun hHeld => ?_)
    clear hK K
    have HW5 := hid (HW0.out.trans (hb5.mono HW0.out.size))
    have HA := hid (And.intro q1 (And.intro q2 (And.intro q3 (And.intro q4 (And.intro q5 (And.intro q6 q7))))))
    clear q1 q2 q3 q4 q5 q6 q7 hb5 HW0
    have hB5 := HB.out.trans (HW5.out.mono HB.out.size)
    have hz5 := hB5.size
    have hz45 := HW5.out.size
    have hR5 : RvAt w5 w.heap.size (w.heap.size + 1 + 1 + 1) la lc L [] none 0 := ⟨(HW5.out.block _ (lt_of_block HRb.out)).trans HRb.out, World.ownsRow_nil _ _ _ _, HTx.out.1.below hB5, fun b off e hL => by
      rcases HTx.out.1 with h0 | ⟨b', off', e', hlt, _⟩
      · exact absurd h0 hL
      · rw [e] at e'; cases e'; exact hlt, by omega⟩
    have hrl := lt_of_block HRb.out
    have hS5 : SvAt w5 w5.heap.size (.agg #[.map (some mb), .func (.func 43) #[] #[.pointer (some ⟨m2, 0, none⟩), .pointer (some ⟨b2, 0, none⟩)]]) mb [] [] := ⟨m2, b2, _, rfl, HA.out.2.2.2.1, HA.out.2.1, HA.out.2.2.1, HA.out.2.2.2.2.1, HA.out.2.2.2.2.2.1, HA.out.2.2.2.2.2.2, rfl⟩
    have hN5 := (nd_all w.heap.size (w.heap.size + 1 + 1 + 1) la lc L hts hfew (zN n)).1 n ⟨xk, xt, xa, xn, xc⟩ w5 [] none 0 w5.heap.size mb _ [] [] (Nat.le_refl _) hwf (HTx.out.2.kept fun b hb _ => hB5.block b hb) hR5 hS5 (by have h1 : w4.heap.size ≤ b2 := HA.out.1; have := HA.out.2.1; have := HB.out.size; omega) (Nat.le_refl _) (by simp; omega) (by simp; omega)
    have HN5 := hid hN5
    have H5 := hid (And.intro hB5 (And.intro hR5 hS5.map))
    unfold aggN at HN5
    clear hB5 hR5 hS5 hN5
    refine wpAnyH_ready (rs := [2]) (by kernel_rfl) (by simp) (AllReadyH.cons rfl (fun K hK => ?_) AllReadyH.nil)
    go_simp
    have hO5 := (HW5.out.block _ (lt_of_block HO.out)).trans HO.out
    have hQ5 := (HW5.out.block _ (lt_of_block HQ.out)).trans HQ.out
    have hX5 := (HW5.out.block _ (lt_of_block HX.out)).trans HX.out
    have HC5 := hid (And.intro hO5 (And.intro hQ5 hX5))
    have hmbw : w.heap.size ≤ mb := by have h1 : w4.heap.size ≤ b2 := HA.out.1; have := HA.out.2.1; have := HB.out.size; omega
    have HBl : Hid (∀ w6, Kept (rX (w.heap.size + 1 + 1 + 1) mb (Value.slice none 0 0).ownBlock) w5 w6 → Below w.heap.size w w6) := fun w6 hk => ⟨hk.os.trans H5.out.1.os, hk.tape.trans H5.out.1.tape, hk.output.trans H5.out.1.output, Nat.le_trans H5.out.1.size hk.size, fun b hb => (hk.block b (by omega) (fun hx => by
      rcases hx with h | h | h
      · omega
      · omega
      · cases h)).trans (H5.out.1.block b hb)⟩
    clear hO5 hQ5 hX5
    cases hr : rsN L n [] [] with
    | error ye =>
      have hRe : RS = .error ye := by rw [← HRR.out]; unfold resR; rw [hr]
      rw [hr] at HN5
      unfold RnPost thrownS at HN5
      dsimp only at HN5
      clear hr
      subst hRe
      refine HN5.out.mono ?_
      rintro e w6 ⟨rfl, hk6⟩
      have hO6 := rx_cells H5.out.2.1 H5.out.2.2 hk6 HC5.out.1 (by decide) (by decide)
      have hQ6 := rx_cells H5.out.2.1 H5.out.2.2 hk6 HC5.out.2.1 (by decide) (by decide)
      have HB6 := hid (HBl.out w6 hk6)
      have HO6 := hid hO6
      have HQ6 := hid hQ6
      clear hO6 hQ6 hk6 hHeld
      go_wp2_with fail
      refine leaves_cons (f := 18) (args := #[.pointer (some ⟨w.heap.size + 1, 0, none⟩), .pointer (some ⟨w.heap.size + 1 + 1, 0, none⟩)]) (by simp) (by simp [go_sem]) ?_
      refine (catchS_stop w.heap.size (w.heap.size + 1) (w.heap.size + 1 + 1) _ _ _ _ _ _ _ [] w6 HO6.out HQ6.out (by omega) (by omega) (by omega)).mono ?_
      rintro e u' w7 ⟨rfl, rfl, g1, g2, hb7⟩
      have HB7 := hid (HB6.out.trans hb7)
      have c0 : w7.cell? ⟨w.heap.size + 1, 0, none⟩ = some (.slice none 0 0) := by simp [World.cell?, g1]
      obtain ⟨⟨d0, d1, d2⟩, _⟩ := scFlt g2
      simp [Leaves, settle, results, Try.results8, go_sem, c0, d0, d1, d2]
      exact HB7.out
    | ok z =>
      obtain ⟨f6, bs⟩ := z
      have hRe : RS = .ok bs := by rw [← HRR.out]; unfold resR; rw [hr]
      rw [hr] at HN5
      unfold RnPost at HN5
      dsimp only at HN5
      rw [List.nil_append] at HN5
      clear hr
      subst hRe
      refine HN5.out.mono ?_
      rintro e w6 ⟨rfl, hm6, ⟨ba, bc, hv6, hrow6⟩, hk6⟩
      have hO6 := rx_cells H5.out.2.1 H5.out.2.2 hk6 HC5.out.1 (by decide) (by decide)
      have hQ6 := rx_cells H5.out.2.1 H5.out.2.2 hk6 HC5.out.2.1 (by decide) (by decide)
      have hX6 := rx_cells H5.out.2.1 H5.out.2.2 hk6 HC5.out.2.2 (by decide) (by decide)
      have hB6 := HBl.out w6 hk6
      refine hK.out _ _ (boxN_facts (x := ⟨xk, xt, xa, xn, xc⟩) hX6).1 (fun hHeld => ?_)
      clear hK K
      refine wpAnyH_done (by kernel_rfl) ?_ _
      obtain ⟨⟨r0, r1⟩, _⟩ := hv6.facts
      have c0 : w6.cell? ⟨w.heap.size + 1, 0, none⟩ = some (.slice none 0 0) := by simp [World.cell?, hO6]
      have c1 : w6.frozen? ⟨w.heap.size + 1, 0, none⟩ = false := by simp [World.frozen?, hO6]
      obtain ⟨⟨d0, d1, d2⟩, d3, d4, d5⟩ := scFlt hQ6
      have hOl := lt_of_block hO6
      have hQl := lt_of_block hQ6
      have hrl6 := lt_of_block hv6.box
      have hE1 : Hid ((scPutF (w6.setCell ⟨w.heap.size + 1, 0, none⟩ (.slice ba bs.length bc)) (w.heap.size + 1 + 1) 0 (-1) 0).heap[w.heap.size + 1]? = some (.cells #[.slice ba bs.length bc] 32)) := (scPutF_other _ _ _ _ _ _ (by omega)).trans (by have := Go.Joins.block_setCell (i := 0) hO6 (.slice ba bs.length bc); simpa using this)
      have hE2 : Hid ((scPutF (w6.setCell ⟨w.heap.size + 1, 0, none⟩ (.slice ba bs.length bc)) (w.heap.size + 1 + 1) 0 (-1) 0).heap[w.heap.size + 1 + 1]? = some (.cells #[.int .i64 0, .int .i64 (-1), .int .i64 0] 29)) := scPutF_block 0 (-1) 0 ((Below.heap_setCell _ _ _ _ (by simp)).trans hQ6)
      have hE3 : Hid (Below w.heap.size w (scPutF (w6.setCell ⟨w.heap.size + 1, 0, none⟩ (.slice ba bs.length bc)) (w.heap.size + 1 + 1) 0 (-1) 0)) := scPutF_below (hB6.setCell (p := ⟨w.heap.size + 1, 0, none⟩) (by simp) _) (by omega) _ _ _
      have hE4 : Hid ((scPutF (w6.setCell ⟨w.heap.size + 1, 0, none⟩ (.slice ba bs.length bc)) (w.heap.size + 1 + 1) 0 (-1) 0).ownsRow w.heap.size 40 2 (.slice ba bs.length bc) bs.length (cellsBd bs)) := row_same hv6.row fun b hb _ => by
        rcases hv6.row.2 with ⟨e2, _⟩ | ⟨g, cap, cur, e2, _, hh, _⟩
        · rw [e2] at hb; cases hb
        · rw [e2] at hb
          have hgb : g = b := by simpa [Value.ownBlock] using hb
          subst hgb
          refine (scPutF_other _ _ _ _ _ _ (fun e => ?_)).trans (Below.heap_setCell _ _ _ _ (fun e => ?_))
          · rw [e, hQ6] at hh; cases hh
          · have e : g = w.heap.size + 1 := e
            rw [e, hO6] at hh; cases hh
      unfold scPutF at hE1 hE2 hE3 hE4
      clear hO6 hQ6 hX6 hB6 hv6 hrow6 hk6 hm6
      go_wp2_with fail
      generalize (((w6.setCell ⟨w.heap.size + 1, 0, none⟩ (.slice ba bs.length bc)).setCell ⟨w.heap.size + 1 + 1, 0, none⟩ (.int .i64 0)).setCell ⟨w.heap.size + 1 + 1, 1, none⟩ (.int .i64 (-1))).setCell ⟨w.heap.size + 1 + 1, 2, none⟩ (.int .i64 0) = w8 at hE1 hE2 hE3 hE4 ⊢
      refine leaves_cons (f := 18) (args := #[.pointer (some ⟨w.heap.size + 1, 0, none⟩), .pointer (some ⟨w.heap.size + 1 + 1, 0, none⟩)]) (by simp) (by simp [go_sem]) ?_
      refine (catchS_idle ⟨w.heap.size + 1, 0, none⟩ ⟨w.heap.size + 1 + 1, 0, none⟩ w8).mono ?_
      rintro e u' w9 ⟨rfl, rfl, hb9⟩
      have g1 := (hb9.block _ (lt_of_block hE1.out)).trans hE1.out
      have g2 := (hb9.block _ (lt_of_block hE2.out)).trans hE2.out
      have HRw := hid (row_same hE4.out fun b _ hlt => hb9.block b hlt)
      have HB9 := hid (hE3.out.trans (hb9.mono hE3.out.size))
      clear c0 d0 d1 d2 hb9
      have c0 : w9.cell? ⟨w.heap.size + 1, 0, none⟩ = some (.slice ba bs.length bc) := by simp [World.cell?, g1]
      obtain ⟨⟨d0, d1, d2⟩, _⟩ := scFlt g2
      simp [Leaves, settle, results, Try.results8, go_sem, c0, d0, d1, d2]
      exact ⟨HB9.out, ba, bc, ⟨rfl, rfl⟩, HRw.out⟩
  · have HW0 := hid (show Below w4.heap.size w4 w4.drew from (Below.refl _ _).drew)
    go_simp
    refine (within_fix 21 #[]).mono ?_
    rintro e w5 ⟨mb, m2, b2, rfl, q1, q2, q3, q4, q5, q6, q7, hb5⟩
    refine hK.out _ _ (HCe.out _ (HW0.out.trans (hb5.mono HW0.out.size))) (fun hHeld => ?_)
    clear hK K
    have HW5 := hid (HW0.out.trans (hb5.mono HW0.out.size))
    have HA := hid (And.intro q1 (And.intro q2 (And.intro q3 (And.intro q4 (And.intro q5 (And.intro q6 q7))))))
    clear q1 q2 q3 q4 q5 q6 q7 hb5 HW0
    refine wpAnyH_ready (rs := [0]) (by kernel_rfl) (by simp) (AllReadyH.cons rfl (fun K hK => ?_) AllReadyH.nil)
    obtain ⟨x0, x1, x2⟩ := HCe.out w5 HW5.out

    go_simp
    refine hK.out _ _ (HCe.out _ HW5.out) (fun hHeld => ?_)
    clear hK K
    clear x0 x1 x2
    have hB5 := HB.out.trans (HW5.out.mono HB.out.size)
    have hz5 := hB5.size
    have hz45 := HW5.out.size
    have hR5 : RvAt w5 w.heap.size (w.heap.size + 1 + 1 + 1) la lc L [] none 0 := ⟨(HW5.out.block _ (lt_of_block HRb.out)).trans HRb.out, World.ownsRow_nil _ _ _ _, HTx.out.1.below hB5, fun b off e hL => by
      rcases HTx.out.1 with h0 | ⟨b', off', e', hlt, _⟩
      · exact absurd h0 hL
      · rw [e] at e'; cases e'; exact hlt, by omega⟩
    have hrl := lt_of_block HRb.out
    have hS5 : SvAt w5 w5.heap.size (.agg #[.map (some mb), .func (.func 43) #[] #[.pointer (some ⟨m2, 0, none⟩), .pointer (some ⟨b2, 0, none⟩)]]) mb [] [] := ⟨m2, b2, _, rfl, HA.out.2.2.2.1, HA.out.2.1, HA.out.2.2.1, HA.out.2.2.2.2.1, HA.out.2.2.2.2.2.1, HA.out.2.2.2.2.2.2, rfl⟩
    have hN5 := (nd_all w.heap.size (w.heap.size + 1 + 1 + 1) la lc L hts hfew (zN n)).1 n ⟨xk, xt, xa, xn, xc⟩ w5 [] none 0 w5.heap.size mb _ [] [] (Nat.le_refl _) hwf (HTx.out.2.kept fun b hb _ => hB5.block b hb) hR5 hS5 (by have h1 : w4.heap.size ≤ b2 := HA.out.1; have := HA.out.2.1; have := HB.out.size; omega) (Nat.le_refl _) (by simp; omega) (by simp; omega)
    have HN5 := hid hN5
    have H5 := hid (And.intro hB5 (And.intro hR5 hS5.map))
    unfold aggN at HN5
    clear hB5 hR5 hS5 hN5
    refine wpAnyH_ready (rs := [2]) (by kernel_rfl) (by simp) (AllReadyH.cons rfl (fun K hK => ?_) AllReadyH.nil)
    go_simp
    have hO5 := (HW5.out.block _ (lt_of_block HO.out)).trans HO.out
    have hQ5 := (HW5.out.block _ (lt_of_block HQ.out)).trans HQ.out
    have hX5 := (HW5.out.block _ (lt_of_block HX.out)).trans HX.out
    have HC5 := hid (And.intro hO5 (And.intro hQ5 hX5))
    have hmbw : w.heap.size ≤ mb := by have h1 : w4.heap.size ≤ b2 := HA.out.1; have := HA.out.2.1; have := HB.out.size; omega
    have HBl : Hid (∀ w6, Kept (rX (w.heap.size + 1 + 1 + 1) mb (Value.slice none 0 0).ownBlock) w5 w6 → Below w.heap.size w w6) := fun w6 hk => ⟨hk.os.trans H5.out.1.os, hk.tape.trans H5.out.1.tape, hk.output.trans H5.out.1.output, Nat.le_trans H5.out.1.size hk.size, fun b hb => (hk.block b (by omega) (fun hx => by
      rcases hx with h | h | h
      · omega
      · omega
      · cases h)).trans (H5.out.1.block b hb)⟩
    clear hO5 hQ5 hX5
    cases hr : rsN L n [] [] with
    | error ye =>
      have hRe : RS = .error ye := by rw [← HRR.out]; unfold resR; rw [hr]
      rw [hr] at HN5
      unfold RnPost thrownS at HN5
      dsimp only at HN5
      clear hr
      subst hRe
      refine HN5.out.mono ?_
      rintro e w6 ⟨rfl, hk6⟩
      have hO6 := rx_cells H5.out.2.1 H5.out.2.2 hk6 HC5.out.1 (by decide) (by decide)
      have hQ6 := rx_cells H5.out.2.1 H5.out.2.2 hk6 HC5.out.2.1 (by decide) (by decide)
      have HB6 := hid (HBl.out w6 hk6)
      have HO6 := hid hO6
      have HQ6 := hid hQ6
      clear hO6 hQ6 hk6 hHeld
      go_wp2_with fail
      refine leaves_cons (f := 18) (args := #[.pointer (some ⟨w.heap.size + 1, 0, none⟩), .pointer (some ⟨w.heap.size + 1 + 1, 0, none⟩)]) (by simp) (by simp [go_sem]) ?_
      refine (catchS_stop w.heap.size (w.heap.size + 1) (w.heap.size + 1 + 1) _ _ _ _ _ _ _ [] w6 HO6.out HQ6.out (by omega) (by omega) (by omega)).mono ?_
      rintro e u' w7 ⟨rfl, rfl, g1, g2, hb7⟩
      have HB7 := hid (HB6.out.trans hb7)
      have c0 : w7.cell? ⟨w.heap.size + 1, 0, none⟩ = some (.slice none 0 0) := by simp [World.cell?, g1]
      obtain ⟨⟨d0, d1, d2⟩, _⟩ := scFlt g2
      simp [Leaves, settle, results, Try.results8, go_sem, c0, d0, d1, d2]
      exact HB7.out
    | ok z =>
      obtain ⟨f6, bs⟩ := z
      have hRe : RS = .ok bs := by rw [← HRR.out]; unfold resR; rw [hr]
      rw [hr] at HN5
      unfold RnPost at HN5
      dsimp only at HN5
      rw [List.nil_append] at HN5
      clear hr
      subst hRe
      refine HN5.out.mono ?_
      rintro e w6 ⟨rfl, hm6, ⟨ba, bc, hv6, hrow6⟩, hk6⟩
      have hO6 := rx_cells H5.out.2.1 H5.out.2.2 hk6 HC5.out.1 (by decide) (by decide)
      have hQ6 := rx_cells H5.out.2.1 H5.out.2.2 hk6 HC5.out.2.1 (by decide) (by decide)
      have hX6 := rx_cells H5.out.2.1 H5.out.2.2 hk6 HC5.out.2.2 (by decide) (by decide)
      have hB6 := HBl.out w6 hk6
      refine hK.out _ _ (boxN_facts (x := ⟨xk, xt, xa, xn, xc⟩) hX6).1 (fun hHeld => ?_)
      clear hK K
      refine wpAnyH_done (by kernel_rfl) ?_ _
      obtain ⟨⟨r0, r1⟩, _⟩ := hv6.facts
      have c0 : w6.cell? ⟨w.heap.size + 1, 0, none⟩ = some (.slice none 0 0) := by simp [World.cell?, hO6]
      have c1 : w6.frozen? ⟨w.heap.size + 1, 0, none⟩ = false := by simp [World.frozen?, hO6]
      obtain ⟨⟨d0, d1, d2⟩, d3, d4, d5⟩ := scFlt hQ6
      have hOl := lt_of_block hO6
      have hQl := lt_of_block hQ6
      have hrl6 := lt_of_block hv6.box
      have hE1 : Hid ((scPutF (w6.setCell ⟨w.heap.size + 1, 0, none⟩ (.slice ba bs.length bc)) (w.heap.size + 1 + 1) 0 (-1) 0).heap[w.heap.size + 1]? = some (.cells #[.slice ba bs.length bc] 32)) := (scPutF_other _ _ _ _ _ _ (by omega)).trans (by have := Go.Joins.block_setCell (i := 0) hO6 (.slice ba bs.length bc); simpa using this)
      have hE2 : Hid ((scPutF (w6.setCell ⟨w.heap.size + 1, 0, none⟩ (.slice ba bs.length bc)) (w.heap.size + 1 + 1) 0 (-1) 0).heap[w.heap.size + 1 + 1]? = some (.cells #[.int .i64 0, .int .i64 (-1), .int .i64 0] 29)) := scPutF_block 0 (-1) 0 ((Below.heap_setCell _ _ _ _ (by simp)).trans hQ6)
      have hE3 : Hid (Below w.heap.size w (scPutF (w6.setCell ⟨w.heap.size + 1, 0, none⟩ (.slice ba bs.length bc)) (w.heap.size + 1 + 1) 0 (-1) 0)) := scPutF_below (hB6.setCell (p := ⟨w.heap.size + 1, 0, none⟩) (by simp) _) (by omega) _ _ _
      have hE4 : Hid ((scPutF (w6.setCell ⟨w.heap.size + 1, 0, none⟩ (.slice ba bs.length bc)) (w.heap.size + 1 + 1) 0 (-1) 0).ownsRow w.heap.size 40 2 (.slice ba bs.length bc) bs.length (cellsBd bs)) := row_same hv6.row fun b hb _ => by
        rcases hv6.row.2 with ⟨e2, _⟩ | ⟨g, cap, cur, e2, _, hh, _⟩
        · rw [e2] at hb; cases hb
        · rw [e2] at hb
          have hgb : g = b := by simpa [Value.ownBlock] using hb
          subst hgb
          refine (scPutF_other _ _ _ _ _ _ (fun e => ?_)).trans (Below.heap_setCell _ _ _ _ (fun e => ?_))
          · rw [e, hQ6] at hh; cases hh
          · have e : g = w.heap.size + 1 := e
            rw [e, hO6] at hh; cases hh
      unfold scPutF at hE1 hE2 hE3 hE4
      clear hO6 hQ6 hX6 hB6 hv6 hrow6 hk6 hm6
      go_wp2_with fail
      generalize (((w6.setCell ⟨w.heap.size + 1, 0, none⟩ (.slice ba bs.length bc)).setCell ⟨w.heap.size + 1 + 1, 0, none⟩ (.int .i64 0)).setCell ⟨w.heap.size + 1 + 1, 1, none⟩ (.int .i64 (-1))).setCell ⟨w.heap.size + 1 + 1, 2, none⟩ (.int .i64 0) = w8 at hE1 hE2 hE3 hE4 ⊢
      refine leaves_cons (f := 18) (args := #[.pointer (some ⟨w.heap.size + 1, 0, none⟩), .pointer (some ⟨w.heap.size + 1 + 1, 0, none⟩)]) (by simp) (by simp [go_sem]) ?_
      refine (catchS_idle ⟨w.heap.size + 1, 0, none⟩ ⟨w.heap.size + 1 + 1, 0, none⟩ w8).mono ?_
      rintro e u' w9 ⟨rfl, rfl, hb9⟩
      have g1 := (hb9.block _ (lt_of_block hE1.out)).trans hE1.out
      have g2 := (hb9.block _ (lt_of_block hE2.out)).trans hE2.out
      have HRw := hid (row_same hE4.out fun b _ hlt => hb9.block b hlt)
      have HB9 := hid (hE3.out.trans (hb9.mono hE3.out.size))
      clear c0 d0 d1 d2 hb9
      have c0 : w9.cell? ⟨w.heap.size + 1, 0, none⟩ = some (.slice ba bs.length bc) := by simp [World.cell?, g1]
      obtain ⟨⟨d0, d1, d2⟩, _⟩ := scFlt g2
      simp [Leaves, settle, results, Try.results8, go_sem, c0, d0, d1, d2]
      exact ⟨HB9.out, ba, bc, ⟨rfl, rfl⟩, HRw.out⟩
end
section
open Go.RowKit Go.Shelf
/-- Binds lie there. -/
def BdAt (w : World) (a : Option Addr) (bs : List (Nat × Nat)) : Prop := bs = [] ∨ ∃ g, a = some ⟨g, 0, none⟩ ∧ g < w.heap.size ∧ ∀ (k : Nat) p, bs[k]? = some p → w.cell? ⟨g, k * 2, none⟩ = some (.int .i64 (p.1 : Int)) ∧ w.cell? ⟨g, k * 2 + 1, none⟩ = some (.int .i64 (p.2 : Int))
theorem BdAt.below {w w' : World} {a : Option Addr} {bs : List (Nat × Nat)} (h : BdAt w a bs) (hb : Below w.heap.size w w') : BdAt w' a bs := by
  rcases h with h | ⟨g, h1, h2, h3⟩
  · exact .inl h
  · refine .inr ⟨g, h1, by have := hb.size; omega, fun k p hk => ?_⟩
    obtain ⟨k1, k2⟩ := h3 k p hk
    exact ⟨(hb.cell (p := ⟨g, k * 2, none⟩) h2).trans k1, (hb.cell (p := ⟨g, k * 2 + 1, none⟩) h2).trans k2⟩
theorem cellsBd_get : ∀ (bs : List (Nat × Nat)) (k : Nat) (p : Nat × Nat), bs[k]? = some p → (cellsBd bs)[k * 2]? = some (.int .i64 (p.1 : Int)) ∧ (cellsBd bs)[k * 2 + 1]? = some (.int .i64 (p.2 : Int))
  | [], k, p, h => by simp at h
  | x :: r, 0, p, h => by
    simp at h
    subst h
    exact ⟨rfl, rfl⟩
  | x :: r, k + 1, p, h => by
    have := cellsBd_get r k p (by simpa using h)
    rw [show (k + 1) * 2 = k * 2 + 2 by omega]
    exact this
theorem BdAt.of {w : World} {base n c : Nat} {a : Option Addr} {bs : List (Nat × Nat)} (h : w.ownsRow base 40 2 (.slice a n c) bs.length (cellsBd bs)) : BdAt w a bs := by
  rcases h.2 with ⟨e, h0⟩ | ⟨g, cap, cur, e, _, hh, _, _, _, ht⟩
  · exact .inl (List.eq_nil_of_length_eq_zero h0)
  · cases e
    refine .inr ⟨g, rfl, lt_of_block hh, fun k p hk => ?_⟩
    have hkl := (List.getElem?_eq_some_iff.1 hk).1
    obtain ⟨k1, k2⟩ := cellsBd_get bs k p hk
    rw [← ht] at k1 k2
    rw [List.getElem?_take_of_lt (by omega), Array.getElem?_toList] at k1 k2
    exact ⟨by rw [Go.Joins.cell_of_block hh]; exact k1, by rw [Go.Joins.cell_of_block hh]; exact k2⟩
/-- What comparing tells. -/
def cmpZ (x y : Int) : Int := if x < y then -1 else if y < x then 1 else 0
set_option maxRecDepth 100000 in
set_option maxHeartbeats 1000000 in
theorem isnan_any (x : Int) (w : World) : Calls Try.prog 48 #[.int .i64 x] w fun e w' => e = .returned (.bool false) ∧ w' = w := by
  have hx : (x != x) = false := by simp
  go_enter Try.func48, Try.ntmps48
  go_wp2_with fail
  go_ret
  exact ⟨by first | rfl | simp, rfl⟩
set_option maxRecDepth 100000 in
set_option maxHeartbeats 1000000 in
theorem compare_any (x y : Int) (w : World) : Calls Try.prog 25 #[.int .i64 x, .int .i64 y] w fun e w' => e = .returned (.int .i64 (cmpZ x y)) ∧ w' = w := by
  have H1 := hid (isnan_any x w)
  have H2 := hid (isnan_any y w)
  unfold cmpZ
  by_cases h : x < y
  · rw [if_pos h]
    have hd : decide (x < y) = true := decide_eq_true h
    go_enter Try.func25, Try.ntmps25
    go_wp2_with fail
    refine H1.out.mono ?_
    rintro e w1 ⟨rfl, rfl⟩
    go_wp2_with fail
    refine H2.out.mono ?_
    rintro e w2 ⟨rfl, rfl⟩
    go_wp2_with fail
    go_ret
    exact ⟨rfl, rfl⟩
  · rw [if_neg h]
    have hd : decide (x < y) = false := decide_eq_false h
    by_cases h2 : y < x
    · rw [if_pos h2]
      have hd2 : decide (y < x) = true := decide_eq_true h2
      go_enter Try.func25, Try.ntmps25
      go_wp2_with fail
      refine H1.out.mono ?_
      rintro e w1 ⟨rfl, rfl⟩
      go_wp2_with fail
      refine H2.out.mono ?_
      rintro e w2 ⟨rfl, rfl⟩
      go_wp2_with fail
      go_ret
      exact ⟨rfl, rfl⟩
    · rw [if_neg h2]
      have hd2 : decide (y < x) = false := decide_eq_false h2
      go_enter Try.func25, Try.ntmps25
      go_wp2_with fail
      refine H1.out.mono ?_
      rintro e w1 ⟨rfl, rfl⟩
      go_wp2_with fail
      refine H2.out.mono ?_
      rintro e w2 ⟨rfl, rfl⟩
      go_wp2_with fail
      go_ret
      exact ⟨rfl, rfl⟩
set_option maxRecDepth 100000 in
set_option maxHeartbeats 1000000 in
theorem ofc_any (x d y : Int) (w : World) : Calls Try.prog 24 #[.agg #[.int .i64 x, .int .i64 d], .int .i64 y] w fun e w' => e = .returned (.int .i64 (cmpZ x y)) ∧ Below w.heap.size w w' := by
  have H1 := hid (compare_any x y (w.alloc (.cells #[.int .i64 x, .int .i64 d] 40)))
  have HB := hid (below_new w (.cells #[.int .i64 x, .int .i64 d] 40))
  go_enter Try.func24, Try.ntmps24
  go_wp2_with fail
  refine H1.out.mono ?_
  rintro e w1 ⟨rfl, rfl⟩
  go_wp2_with fail
  go_ret
  exact ⟨rfl, HB.out⟩
/-- Where it is: so many binds are of tokens ahead. -/
def BsIs (bs : List (Nat × Nat)) (y : Int) (i : Nat) : Prop := i ≤ bs.length ∧ (∀ (k : Nat) p, k < i → bs[k]? = some p → (p.1 : Int) < y) ∧ ∀ (k : Nat) p, i ≤ k → bs[k]? = some p → y ≤ (p.1 : Int)
/-- Whether it is the token's. -/
def hitB (bs : List (Nat × Nat)) (y : Int) (i : Nat) : Bool := match bs[i]? with
  | some p => (p.1 : Int) == y
  | none => false
theorem hitB_some {bs : List (Nat × Nat)} {y : Int} {i : Nat} {p : Nat × Nat} (h : bs[i]? = some p) : hitB bs y i = ((p.1 : Int) == y) := by unfold hitB; rw [h]
theorem hitB_none {bs : List (Nat × Nat)} {y : Int} {i : Nat} (h : bs[i]? = none) : hitB bs y i = false := by unfold hitB; rw [h]
/-- Tokens rise. -/
def Rise (bs : List (Nat × Nat)) : Prop := ∀ (j k : Nat) (p q : Nat × Nat), j < k → bs[j]? = some p → bs[k]? = some q → p.1 < q.1
set_option maxRecDepth 100000 in
set_option maxHeartbeats 4000000 in
theorem search_any (a : Option Addr) (c : Nat) (bs : List (Nat × Nat)) (y : Int) (w : World) (hB : BdAt w a bs) (hr : Rise bs) (hl : bs.length ≤ 1000000) :
    Calls Try.prog 23 #[.slice a bs.length c, .int .i64 y, .func (.func 24) #[] #[]] w fun e w' => ∃ i, BsIs bs y i ∧ e = .returned (.tuple #[.int .i64 (i : Int), .bool (hitB bs y i)]) ∧ Below w.heap.size w w' := by
  have eg := enters_of Try.func24 (by kernel_rfl) rfl
  have HB := hid hB
  have HR := hid hr
  clear hB hr
  go_enter Try.func23, Try.ntmps23
  go_wp2_with fail
  go_loopg [9, 10] bs.length (fun g u v wr => ∃ lo hi : Nat, u = .int .i64 (lo : Int) ∧ v = .int .i64 (hi : Int) ∧ lo ≤ hi ∧ hi ≤ bs.length ∧ hi - lo ≤ g ∧ Hid (Below w.heap.size w wr) ∧ Hid ((∀ (k : Nat) p, k < lo → bs[k]? = some p → (p.1 : Int) < y) ∧ ∀ (k : Nat) p, hi ≤ k → bs[k]? = some p → y ≤ (p.1 : Int)))
  case atStart => exact ⟨0, bs.length, rfl, rfl, Nat.zero_le _, Nat.le_refl _, by omega, Below.refl _ _, fun k p h => by omega, fun k p h hp => by have := (List.getElem?_eq_some_iff.1 hp).1; omega⟩
  case round =>
    obtain ⟨lo, hi, rfl, rfl, hlh, hin, hg, hb, hI⟩ := hrel
    by_cases hlt : lo < hi
    · obtain ⟨p, hp⟩ : ∃ p, bs[(lo + hi) / 2]? = some p := ⟨_, List.getElem?_eq_getElem (by omega)⟩
      rcases HB.out.below hb.out with h0 | ⟨g, hae, hgl, hc⟩
      · rw [h0] at hp; simp at hp
      obtain ⟨c0, c1⟩ := hc _ p hp
      subst hae
      have hmi : ((lo : Int) + (hi : Int)) / 2 = (((lo + hi) / 2 : Nat) : Int) := by omega
      have hlti : (lo : Int) < (hi : Int) := by omega
      have hmb : (lo + hi) / 2 < bs.length := by omega
      have hml : lo ≤ (lo + hi) / 2 := by omega
      have hmh : (lo + hi) / 2 < hi := by omega
      have HC := hid (ofc_any (p.1 : Int) (p.2 : Int) y wr)
      have HP := hid hp
      clear hc hp
      generalize (lo + hi) / 2 = mi at hmi hmb hml hmh c0 c1 HP
      have hmb2 : (mi : Int) < (bs.length : Int) := by omega
      have hm0 : (0 : Int) ≤ (mi : Int) := by omega
      by_cases hpy : (p.1 : Int) < y
      · have hz : cmpZ (p.1 : Int) y = -1 := by unfold cmpZ; rw [if_pos hpy]
        rw [hz] at HC
        have HPy := hid hpy
        clear hz hpy
        go_wp2_with (refine HC.out.mono ?_; rintro e w2 ⟨rfl, hb2⟩)
        have hbw := hid (hb.out.trans (hb2.mono hb.out.size))
        have HI2 : Hid ((∀ (k : Nat) q, k < mi + 1 → bs[k]? = some q → (q.1 : Int) < y) ∧ ∀ (k : Nat) q, hi ≤ k → bs[k]? = some q → y ≤ (q.1 : Int)) := by
          refine ⟨fun k q hk hq => ?_, hI.out.2⟩
          by_cases hkm : k = mi
          · subst hkm
            have := HP.out
            rw [hq] at this
            cases this
            exact HPy.out
          · have := HR.out k mi q p (by omega) hq HP.out
            have := HPy.out
            omega
        clear hb2
        go_wp2_with fail
        go_roundg (hi - (mi + 1))
        case measure => omega
        case rel => exact ⟨mi + 1, hi, by go_num, rfl, by omega, hin, Nat.le_refl _, hbw, HI2⟩
      · have hz : ¬ cmpZ (p.1 : Int) y < 0 := by unfold cmpZ; rw [if_neg hpy]; split <;> omega
        have hzd : decide (cmpZ (p.1 : Int) y < 0) = false := decide_eq_false hz
        have HPy := hid hpy
        generalize cmpZ (p.1 : Int) y = z at HC hz hzd
        clear hpy
        go_wp2_with (refine HC.out.mono ?_; rintro e w2 ⟨rfl, hb2⟩)
        have hbw := hid (hb.out.trans (hb2.mono hb.out.size))
        have HI2 : Hid ((∀ (k : Nat) q, k < lo → bs[k]? = some q → (q.1 : Int) < y) ∧ ∀ (k : Nat) q, mi ≤ k → bs[k]? = some q → y ≤ (q.1 : Int)) := by
          refine ⟨hI.out.1, fun k q hk hq => ?_⟩
          have h0 := HPy.out
          by_cases hkm : k = mi
          · subst hkm
            have := HP.out
            rw [hq] at this
            cases this
            omega
          · have := HR.out mi k p q (by omega) HP.out hq
            omega
        clear hb2
        go_wp2_with fail
        go_roundg (mi - lo)
        case measure => omega
        case rel => exact ⟨lo, mi, rfl, rfl, hml, by omega, Nat.le_refl _, hbw, HI2⟩
    · obtain rfl : hi = lo := by omega
      have hBs : BsIs bs y hi := ⟨hin, hI.out.1, hI.out.2⟩
      have HBs := hid hBs
      clear hBs
      by_cases hn : hi < bs.length
      · obtain ⟨p, hp⟩ : ∃ p, bs[hi]? = some p := ⟨_, List.getElem?_eq_getElem hn⟩
        rcases HB.out.below hb.out with h0 | ⟨g, hae, hgl, hc⟩
        · rw [h0] at hp; simp at hp
        obtain ⟨c0, c1⟩ := hc _ p hp
        subst hae
        have hni : (hi : Int) < (bs.length : Int) := by omega
        have hnd : decide ((hi : Int) < (bs.length : Int)) = true := decide_eq_true hni
        have hm0 : (0 : Int) ≤ (hi : Int) := by omega
        have HC := hid (ofc_any (p.1 : Int) (p.2 : Int) y wr)
        have hge : y ≤ (p.1 : Int) := hI.out.2 hi p (Nat.le_refl _) hp
        have hv : Hid (hitB bs y hi = (cmpZ (p.1 : Int) y == 0)) := by
          show _ = _
          rw [hitB_some hp]
          unfold cmpZ
          rw [if_neg (by omega)]
          by_cases h : y < (p.1 : Int)
          · rw [if_pos h]
            have : ((p.1 : Int) == y) = false := by simp; omega
            rw [this]; rfl
          · rw [if_neg h]
            have : ((p.1 : Int) == y) = true := by simp; omega
            rw [this]; rfl
        generalize cmpZ (p.1 : Int) y = z at HC hv
        clear hc hp hge
        go_wp2_with (refine HC.out.mono ?_; rintro e w2 ⟨rfl, hb2⟩)
        have hbw := hid (hb.out.trans (hb2.mono hb.out.size))
        clear hb2
        go_wp2_with fail
        go_ret2
        exact ⟨hi, HBs.out, by rw [hv.out]; rfl, hbw.out⟩
      · have hni : ¬ (hi : Int) < (bs.length : Int) := by omega
        have hnd : decide ((hi : Int) < (bs.length : Int)) = false := decide_eq_false hni
        have hv : Hid (hitB bs y hi = false) := hitB_none (List.getElem?_eq_none (by omega))
        go_wp2_with fail
        go_ret2
        exact ⟨hi, HBs.out, by rw [hv.out]; rfl, hb.out⟩
/-- What a token means; -1. -/
def ofR (bs : List (Nat × Nat)) (y : Int) : Int := match bs.find? (fun p => (p.1 : Int) == y) with
  | some p => (p.2 : Int)
  | none => -1
theorem of_some {bs : List (Nat × Nat)} {y : Int} {i : Nat} {p : Nat × Nat} (hB : BsIs bs y i) (hp : bs[i]? = some p) (h : ((p.1 : Int) == y) = true) : ofR bs y = (p.2 : Int) := by
  unfold ofR
  have hi := (List.getElem?_eq_some_iff.1 hp)
  obtain ⟨hil, hie⟩ := hi
  have hf : bs.find? (fun p => (p.1 : Int) == y) = some p := by
    rw [List.find?_eq_some_iff_getElem]
    refine ⟨h, i, hil, hie, fun j hj => ?_⟩
    have := hB.2.1 j (bs[j]'(by omega)) hj (List.getElem?_eq_getElem (by omega))
    simp
    omega
  rw [hf]
theorem of_none {bs : List (Nat × Nat)} {y : Int} {i : Nat} (hr : Rise bs) (hB : BsIs bs y i) (h : hitB bs y i = false) : ofR bs y = -1 := by
  unfold ofR
  have hf : bs.find? (fun p => (p.1 : Int) == y) = none := by
    rw [List.find?_eq_none]
    intro p hp
    obtain ⟨k, hk, rfl⟩ := List.getElem_of_mem hp
    have hkk := List.getElem?_eq_getElem hk
    by_cases hki : k < i
    · have := hB.2.1 k _ hki hkk
      simp
      omega
    · by_cases he : k = i
      · subst he
        rw [hitB_some hkk] at h
        simpa using h
      · have hi2 : i < bs.length := by omega
        have h1 := hr i k _ _ (by omega) (List.getElem?_eq_getElem hi2) hkk
        have h2 := hB.2.2 i _ (Nat.le_refl _) (List.getElem?_eq_getElem hi2)
        simp
        omega
  rw [hf]
set_option maxRecDepth 100000 in
set_option maxHeartbeats 4000000 in
theorem Of_any (a : Option Addr) (c : Nat) (bs : List (Nat × Nat)) (y : Int) (w : World) (hB : BdAt w a bs) (hr : Rise bs) (hl : bs.length ≤ 1000000) :
    Calls Try.prog 11 #[.slice a bs.length c, .int .i64 y] w fun e w' => e = .returned (.int .i64 (ofR bs y)) ∧ Below w.heap.size w w' := by
  have HS := hid (search_any a c bs y w hB hr hl)
  have HB := hid hB
  have HR := hid hr
  clear hB hr
  go_enter Try.func11, Try.ntmps11
  go_wp2_with fail
  refine HS.out.mono ?_
  rintro e w1 ⟨i, hBs, rfl, hb1⟩
  have HBs := hid hBs
  have HB1 := hid hb1
  clear hBs hb1
  cases hv : hitB bs y i with
  | false =>
    have hR := hid (of_none HR.out HBs.out hv)
    clear hv
    go_wp2_with fail
    go_ret
    exact ⟨by rw [hR.out]; rfl, HB1.out⟩
  | true =>
    obtain ⟨p, hp⟩ : ∃ p, bs[i]? = some p := by
      cases h : bs[i]? with
      | none => rw [hitB_none h] at hv; cases hv
      | some p => exact ⟨p, rfl⟩
    rw [hitB_some hp] at hv
    have hR := hid (of_some HBs.out hp hv)
    have hil := (List.getElem?_eq_some_iff.1 hp).1
    rcases HB.out.below HB1.out with h0 | ⟨g, hae, hgl, hc⟩
    · rw [h0] at hil; simp at hil
    obtain ⟨c0, c1⟩ := hc _ p hp
    subst hae
    have hni : (i : Int) < (bs.length : Int) := by omega
    have hm0 : (0 : Int) ≤ (i : Int) := by omega
    clear hv hp hc
    go_wp2_with fail
    go_ret
    exact ⟨by rw [hR.out]; rfl, HB1.out⟩
end
end Go.Proofs.Ytkfbhknhjpmomaa
