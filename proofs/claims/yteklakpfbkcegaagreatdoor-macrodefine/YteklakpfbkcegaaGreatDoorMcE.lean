/- Walks of the document's own SameMacro, Equal and EqualMacros. · Walks of the document's own Equal and EqualMacros, of what is the same. -/
import Derived.Test.YteklakpfbkcegaaGreatDoorMcA
import Derived.Test.YteklakpfbkcegaaGreatDoorRxJoin
import Derived.Deep.RegionHeld3
namespace Go.Proofs.YteklakpfbkcegaaGreatDoor
section
open Go.RowKit Go.Shelf

theorem sameTs_all : ∀ (a b : List Tk), sameTs a b = true ↔ a.length = b.length ∧ ∀ (k : Nat) x y, a[k]? = some x → b[k]? = some y → sameT x y = true
  | [], [] => by simp [sameTs]
  | [], _ :: _ => by simp [sameTs]
  | _ :: _, [] => by simp [sameTs]
  | x :: r, y :: s => by
    have ih := sameTs_all r s
    simp only [sameTs, Bool.and_eq_true, ih, List.length_cons]
    constructor
    · rintro ⟨h0, hl, ha⟩
      refine ⟨by omega, fun k u v hu hv => ?_⟩
      cases k with
      | zero => simp at hu hv; subst hu hv; exact h0
      | succ k => exact ha k u v (by simpa using hu) (by simpa using hv)
    · rintro ⟨hl, ha⟩
      exact ⟨ha 0 x y rfl rfl, by omega, fun k u v hu hv => ha (k + 1) u v (by simpa using hu) (by simpa using hv)⟩
/-- What must be the same ahead of parameters and bodies. -/
def HeadSame (mx my : Mc) : Prop := mx.name.toList = my.name.toList ∧ mx.call = my.call ∧ mx.more = my.more ∧ mx.params.length = my.params.length ∧ mx.body.length = my.body.length
theorem sameM_head {mx my : Mc} (h : ¬ HeadSame mx my) : sameM mx my = false := by
  rcases hs : sameM mx my with _ | _
  · rfl
  · exfalso
    apply h
    have hk := (sameM_eq mx my).1 hs
    unfold keyM at hk
    simp only [Prod.mk.injEq] at hk
    have h5 := congrArg List.length hk.2.2.2.2
    simp only [List.length_map] at h5
    exact ⟨hk.1, hk.2.1, hk.2.2.1, by rw [hk.2.2.2.1], h5⟩
theorem sameM_par {mx my : Mc} {k : Nat} {p q : ByteArray} (hp : mx.params[k]? = some p) (hq : my.params[k]? = some q) (h : (p.toList == q.toList) = false) : sameM mx my = false := by
  rcases hs : sameM mx my with _ | _
  · rfl
  · exfalso
    have hk := (sameM_eq mx my).1 hs
    unfold keyM at hk
    simp only [Prod.mk.injEq] at hk
    rw [hk.2.2.2.1, hq] at hp
    cases hp
    simp at h
theorem sameM_tok {mx my : Mc} {k : Nat} {x y : Tk} (hp : mx.body[k]? = some x) (hq : my.body[k]? = some y) (h : sameT x y = false) : sameM mx my = false := by
  rcases hs : sameM mx my with _ | _
  · rfl
  · exfalso
    unfold sameM at hs
    simp only [Bool.and_eq_true] at hs
    rw [((sameTs_all _ _).1 hs.2).2 k x y hp hq] at h
    cases h
theorem sameM_all {mx my : Mc} (h : HeadSame mx my) (hp : mx.params = my.params) (hb : ∀ (k : Nat) x y, mx.body[k]? = some x → my.body[k]? = some y → sameT x y = true) : sameM mx my = true := by
  obtain ⟨h1, h2, h3, _, h5⟩ := h
  unfold sameM
  simp only [Bool.and_eq_true, beq_iff_eq, decide_eq_true_eq]
  exact ⟨⟨⟨⟨h1, h2⟩, h3⟩, hp⟩, (sameTs_all _ _).2 ⟨h5, hb⟩⟩
theorem bytes_same {a b : ByteArray} (h : a.toList = b.toList) : a = b := by
  rw [toList_data, toList_data] at h
  cases a; cases b
  congr 1
  exact Array.ext' h
set_option maxRecDepth 100000 in
set_option maxHeartbeats 1000000 in
theorem RSame_any (x y : Mv) (mx my : Mc) (w : World) (hx : MIs w x mx) (hy : MIs w y my) (hfx : Few mx) :
    Calls Tryz.prog 12 #[aggM x, aggM y] w fun e w' => e = .returned (.bool (sameM mx my)) ∧ Below w.heap.size w w' := by
  unfold aggM
  obtain ⟨xn, xc, xpa, xpn, xpc, xm, xba, xbn, xbc⟩ := x
  obtain ⟨yn, yc, ypa, ypn, ypc, ym, yba, ybn, ybc⟩ := y
  obtain ⟨h1, h2, h3, hxp, h5, h6, hxb⟩ := hx
  obtain ⟨k1, k2, k3, hyp, k5, k6, hyb⟩ := hy
  dsimp only at h1 h2 h3 hxp h5 h6 hxb k1 k2 k3 hyp k5 k6 hyb ⊢
  subst h1 h2 h3 h5 h6 k1 k2 k3 k5 k6
  have hbb : Below w.heap.size w ((w.alloc (.cells #[.string mx.name, .bool mx.call, .slice xpa mx.params.length xpc, .bool mx.more, .slice xba mx.body.length xbc] 26)).alloc (.cells #[.string my.name, .bool my.call, .slice ypa my.params.length ypc, .bool my.more, .slice yba my.body.length ybc] 26)) := ((Below.refl _ w).alloc (Nat.le_refl _) _).alloc (by simp) _
  have HBB := hid hbb
  clear hbb
  by_cases hh : HeadSame mx my
  · obtain ⟨e1, e2, e3, e4, e5⟩ := hh
    have HH : Hid (HeadSame mx my) := ⟨e1, e2, e3, e4, e5⟩
    have e1' := bytes_same e1
    have HBk := hid (two_blocks w (.cells #[.string mx.name, .bool mx.call, .slice xpa mx.params.length xpc, .bool mx.more, .slice xba mx.body.length xbc] 26) (.cells #[.string my.name, .bool my.call, .slice ypa my.params.length ypc, .bool my.more, .slice yba my.body.length ybc] 26))
    have HX := hid (And.intro (hxp.below HBB.out) (hyp.below HBB.out))
    have HY := hid (And.intro (hxb.below HBB.out) (hyb.below HBB.out))
    rw [← e1', ← e2, ← e3, ← e4, ← e5] at HBk HBB HX HY ⊢
    clear e1 e2 e3 e1' hxp hyp hxb hyb
    have HE := hid (And.intro e4 e5)
    clear e4 e5
    obtain ⟨N, hN⟩ : ∃ N, mx.params.length = N := ⟨_, rfl⟩
    obtain ⟨M, hM⟩ : ∃ M, mx.body.length = M := ⟨_, rfl⟩
    rw [hN, hM] at HBk HBB HX HY HE ⊢
    have HNM := hid (And.intro hN hM)
    clear hN hM
    go_enter Tryz.func12, Tryz.ntmps12
    go_wp2_with fail
    generalize ((w.alloc (.cells #[.string mx.name, .bool mx.call, .slice xpa N xpc, .bool mx.more, .slice xba M xbc] 26)).alloc (.cells #[.string mx.name, .bool mx.call, .slice ypa N ypc, .bool mx.more, .slice yba M ybc] 26)) = w0 at HBk HBB HX HY ⊢
    obtain ⟨Ba, hBa⟩ : ∃ Ba, w.heap.size = Ba := ⟨_, rfl⟩
    obtain ⟨Bb, hBb⟩ : ∃ Bb, w.heap.size + 1 = Bb := ⟨_, rfl⟩
    have HBa := hid hBa
    rw [hBb, hBa] at HBk
    rw [hBb]
    have hBl : w.heap.size ≤ w0.heap.size := HBB.out.size
    rw [hBa]
    clear hBa hBb
    go_loopw [49] (fun i wr => ∃ k : Nat, k ≤ N ∧ i = .int .i64 k ∧ Hid (Below w0.heap.size w0 wr ∧ mx.params.take k = my.params.take k)) (fun i _ => N - (intOf i).toNat)
    case atStart => exact ⟨0, Nat.zero_le _, rfl, Below.refl _ _, by simp⟩
    case round =>
      obtain ⟨k, hk, rfl, HC⟩ := hrel
      obtain ⟨a0, a1, a2, a3, a4⟩ := mac_facts ((HC.out.1.block _ (lt_of_block HBk.out.1)).trans HBk.out.1)
      obtain ⟨b0, b1, b2, b3, b4⟩ := mac_facts ((HC.out.1.block _ (lt_of_block HBk.out.2)).trans HBk.out.2)
      have hnn : Nonempty (Later wr) := ⟨⟨_, Below.refl _ _⟩⟩
      by_cases hlt : k < N
      · have hp : mx.params[k]? = some (mx.params[k]'(by rw [HNM.out.1]; exact hlt)) := List.getElem?_eq_getElem _
        have hq : my.params[k]? = some (my.params[k]'(by rw [← HE.out.1]; exact hlt)) := List.getElem?_eq_getElem _
        generalize mx.params[k]'(by rw [HNM.out.1]; exact hlt) = p at hp
        generalize my.params[k]'(by rw [← HE.out.1]; exact hlt) = q at hq
        rcases HX.out.1 with h0 | ⟨bx, ox, rfl, hbx, hcx⟩
        · rw [h0] at hp; cases hp
        rcases HX.out.2 with h0 | ⟨bY, oy, rfl, hby, hcy⟩
        · rw [h0] at hq; cases hq
        have hki : (k : Int) < (N : Int) := Int.ofNat_lt.2 hlt
        have hk0 : (0 : Int) ≤ (k : Int) := Int.natCast_nonneg _
        have hkb : k ≤ 1048577 := by have := hfx.1; have := HNM.out.1; omega
        have hkp := nxt_k hkb
        have hkw := nxt_w hkb
        have P1 := Later.cell ((HC.out.1.cell (p := ⟨bx, ox + k, none⟩) hbx).trans (hcx k p hp))
        have P2 := Later.cell ((HC.out.1.cell (p := ⟨bY, oy + k, none⟩) hby).trans (hcy k q hq))
        have A2 := Later.cell a2
        have B2 := Later.cell b2
        have HPQ := hid (And.intro hp hq)
        clear hcx hcy a0 a1 a2 a3 a4 b0 b1 b2 b3 b4 hp hq hkb hfx
        go_wp2_with fail
        refine region_later (by kernel_rfl) (by kernel_rfl) ?_
        repeat (first | go_big_quiet_step (fail) | quiet_step (fail))
        refine wpQuiet_nil ?_
        rintro _ ⟨r, rfl⟩
        have HC2 := hid (HC.out.1.trans (r.hb.mono HC.out.1.size))
        clear P1 P2 A2 B2 hnn
        generalize r.W = w2 at HC2 ⊢
        rcases hpq : (p.toList == q.toList) with _ | _
        · have HF := hid (sameM_par HPQ.out.1 HPQ.out.2 hpq)
          go_wp2_with fail
          go_ret
          exact ⟨ret_bool HF.out.symm, HBB.out.trans (HC2.out.mono HBB.out.size)⟩
        · obtain rfl := bytes_same (by simpa using hpq : p.toList = q.toList)
          go_wp2_with fail
          exact ⟨⟨k + 1, hlt, by go_num, HC2.out, by rw [List.take_add_one, List.take_add_one, HPQ.out.1, HPQ.out.2, HC.out.2]⟩, less_j hlt rfl⟩
      · obtain rfl : k = N := by omega
        have HPE : Hid (mx.params = my.params) := by
          have h := HC.out.2
          rw [List.take_of_length_le (Nat.le_of_eq HNM.out.1), List.take_of_length_le (Nat.le_of_eq HE.out.1.symm)] at h
          exact h
        have HBk1 := hid (And.intro ((HC.out.1.block _ (lt_of_block HBk.out.1)).trans HBk.out.1) ((HC.out.1.block _ (lt_of_block HBk.out.2)).trans HBk.out.2))
        have HY1 := hid (And.intro (HY.out.1.below HC.out.1) (HY.out.2.below HC.out.1))
        have HBB1 := hid (HBB.out.trans (HC.out.1.mono HBB.out.size))
        clear HX HC HBk HY HBB hnn a0 a1 a2 a3 b0 b1 b2 b3 b4
        clear hlt hk
        rename World => wq
        go_wp2_with fail
        clear a4
        go_loopw [67] (fun i wr => ∃ k : Nat, k ≤ M ∧ i = .int .i64 k ∧ Hid (Below wq.heap.size wq wr ∧ ∀ (j : Nat) x y, j < k → mx.body[j]? = some x → my.body[j]? = some y → sameT x y = true)) (fun i _ => M - (intOf i).toNat)
        case atStart => exact ⟨0, Nat.zero_le _, rfl, Below.refl _ _, fun j x y hj => absurd hj (Nat.not_lt_zero _)⟩
        case round =>
          obtain ⟨k, hk, rfl, HC⟩ := hrel
          have HBB2 := hid (HBB1.out.trans (HC.out.1.mono HBB1.out.size))
          by_cases hlt : k < M
          · have hp : mx.body[k]? = some (mx.body[k]'(by rw [HNM.out.2]; exact hlt)) := List.getElem?_eq_getElem _
            have hq : my.body[k]? = some (my.body[k]'(by rw [← HE.out.2]; exact hlt)) := List.getElem?_eq_getElem _
            generalize mx.body[k]'(by rw [HNM.out.2]; exact hlt) = x at hp
            generalize my.body[k]'(by rw [← HE.out.2]; exact hlt) = y at hq
            rcases HY1.out.1 with h0 | ⟨bx, ox, rfl, hbx, hcx⟩
            · rw [h0] at hp; cases hp
            rcases HY1.out.2 with h0 | ⟨bY, oy, rfl, hby, hcy⟩
            · rw [h0] at hq; cases hq
            have hki : (k : Int) < (M : Int) := Int.ofNat_lt.2 hlt
            have hk0 : (0 : Int) ≤ (k : Int) := Int.natCast_nonneg _
            have hkb : k ≤ 1048577 := by have := hfx.2; have := HNM.out.2; omega
            have hkp := nxt_k hkb
            have hkw := nxt_w hkb
            have HPQ := hid (And.intro hp hq)
            obtain ⟨xk, xt, xs, xf, xi, xl, xh, xn⟩ := x
            obtain ⟨yk, yt, ys, yf, yi, yl, yh, yn⟩ := y
            have HK : Hid (∀ W, Below wr.heap.size wr W → W.cell? ⟨Ba, 4, none⟩ = some (.slice (some ⟨bx, ox, none⟩) M xbc) ∧ W.cell? ⟨Bb, 4, none⟩ = some (.slice (some ⟨bY, oy, none⟩) M ybc) ∧ W.cell? ⟨bx, ox + k * 11, none⟩ = some (.int .i64 xk) ∧ W.cell? ⟨bx, ox + k * 11 + 1, none⟩ = some (.string xt) ∧ W.cell? ⟨bx, ox + k * 11 + 2, none⟩ = some (.bool xs) ∧ W.cell? ⟨bx, ox + k * 11 + 3, none⟩ = some (.bool xf) ∧ W.cell? ⟨bx, ox + k * 11 + 4, none⟩ = some (.int .i64 xi) ∧ W.cell? ⟨bx, ox + k * 11 + 5, none⟩ = some (.int .i64 xl) ∧ W.cell? ⟨bx, ox + k * 11 + 6, none⟩ = some (.int .i64 xh) ∧ W.cell? ⟨bx, ox + k * 11 + 7, none⟩ = some (.int .i64 xn) ∧ W.cell? ⟨bx, ox + k * 11 + 8, none⟩ = some (.slice none 0 0) ∧ W.cell? ⟨bx, ox + k * 11 + 9, none⟩ = some (.slice none 0 0) ∧ W.cell? ⟨bx, ox + k * 11 + 10, none⟩ = some (.int .i64 0) ∧ W.cell? ⟨bY, oy + k * 11, none⟩ = some (.int .i64 yk) ∧ W.cell? ⟨bY, oy + k * 11 + 1, none⟩ = some (.string yt) ∧ W.cell? ⟨bY, oy + k * 11 + 2, none⟩ = some (.bool ys) ∧ W.cell? ⟨bY, oy + k * 11 + 3, none⟩ = some (.bool yf) ∧ W.cell? ⟨bY, oy + k * 11 + 4, none⟩ = some (.int .i64 yi) ∧ W.cell? ⟨bY, oy + k * 11 + 5, none⟩ = some (.int .i64 yl) ∧ W.cell? ⟨bY, oy + k * 11 + 6, none⟩ = some (.int .i64 yh) ∧ W.cell? ⟨bY, oy + k * 11 + 7, none⟩ = some (.int .i64 yn) ∧ W.cell? ⟨bY, oy + k * 11 + 8, none⟩ = some (.slice none 0 0) ∧ W.cell? ⟨bY, oy + k * 11 + 9, none⟩ = some (.slice none 0 0) ∧ W.cell? ⟨bY, oy + k * 11 + 10, none⟩ = some (.int .i64 0)) := fun W hW => by
              have hb := HC.out.1.trans (hW.mono HC.out.1.size)
              obtain ⟨_, _, _, _, a4⟩ := mac_facts ((hb.block _ (lt_of_block HBk1.out.1)).trans HBk1.out.1)
              obtain ⟨_, _, _, _, b4⟩ := mac_facts ((hb.block _ (lt_of_block HBk1.out.2)).trans HBk1.out.2)
              obtain ⟨p0, p1, p2, p3, p4, p5, p6, p7, p8, p9, p10⟩ := tk_cells (w := W) (fun i v hv => (hb.cell (p := ⟨bx, ox + k * 11 + i, none⟩) hbx).trans (hcx k _ hp i v hv))
              obtain ⟨q0, q1, q2, q3, q4, q5, q6, q7, q8, q9, q10⟩ := tk_cells (w := W) (fun i v hv => (hb.cell (p := ⟨bY, oy + k * 11 + i, none⟩) hby).trans (hcy k _ hq i v hv))
              exact ⟨a4, b4, p0, p1, p2, p3, p4, p5, p6, p7, p8, p9, p10, q0, q1, q2, q3, q4, q5, q6, q7, q8, q9, q10⟩
            have HLT : Hid (bx < wr.heap.size ∧ bY < wr.heap.size ∧ Ba < wr.heap.size ∧ Bb < wr.heap.size) := ⟨Nat.lt_of_lt_of_le hbx HC.out.1.size, Nat.lt_of_lt_of_le hby HC.out.1.size, Nat.lt_of_lt_of_le (lt_of_block HBk1.out.1) HC.out.1.size, Nat.lt_of_lt_of_le (lt_of_block HBk1.out.2) HC.out.1.size⟩
            have HBN : Hid (∀ X Y : Obj, Below w.heap.size w ((wr.alloc X).alloc Y).drew) := fun X Y => ((HBB2.out.alloc HBB2.out.size X).alloc (by have := HBB2.out.size; simp; omega) Y).drew
            have HBQ : Hid (∀ X Y : Obj, Below wq.heap.size wq ((wr.alloc X).alloc Y).drew) := fun X Y => ((HC.out.1.alloc HC.out.1.size X).alloc (by have := HC.out.1.size; simp; omega) Y).drew
            clear hcx hcy hp hq hkb hfx hbx hby
            rcases hs : sameT ⟨xk, xt, xs, xf, xi, xl, xh, xn⟩ ⟨yk, yt, ys, yf, yi, yl, yh, yn⟩ with _ | _
            · have HF := hid (sameM_tok HPQ.out.1 HPQ.out.2 hs)
              have HS := hid hs
              clear hs HPQ
              go_wp2_with fail
              go_region_held3 (fun W => W.cell? ⟨Ba, 4, none⟩ = some (.slice (some ⟨bx, ox, none⟩) M xbc) ∧ W.cell? ⟨Bb, 4, none⟩ = some (.slice (some ⟨bY, oy, none⟩) M ybc) ∧ W.cell? ⟨bx, ox + k * 11, none⟩ = some (.int .i64 xk) ∧ W.cell? ⟨bx, ox + k * 11 + 1, none⟩ = some (.string xt) ∧ W.cell? ⟨bx, ox + k * 11 + 2, none⟩ = some (.bool xs) ∧ W.cell? ⟨bx, ox + k * 11 + 3, none⟩ = some (.bool xf) ∧ W.cell? ⟨bx, ox + k * 11 + 4, none⟩ = some (.int .i64 xi) ∧ W.cell? ⟨bx, ox + k * 11 + 5, none⟩ = some (.int .i64 xl) ∧ W.cell? ⟨bx, ox + k * 11 + 6, none⟩ = some (.int .i64 xh) ∧ W.cell? ⟨bx, ox + k * 11 + 7, none⟩ = some (.int .i64 xn) ∧ W.cell? ⟨bx, ox + k * 11 + 8, none⟩ = some (.slice none 0 0) ∧ W.cell? ⟨bx, ox + k * 11 + 9, none⟩ = some (.slice none 0 0) ∧ W.cell? ⟨bx, ox + k * 11 + 10, none⟩ = some (.int .i64 0) ∧ W.cell? ⟨bY, oy + k * 11, none⟩ = some (.int .i64 yk) ∧ W.cell? ⟨bY, oy + k * 11 + 1, none⟩ = some (.string yt) ∧ W.cell? ⟨bY, oy + k * 11 + 2, none⟩ = some (.bool ys) ∧ W.cell? ⟨bY, oy + k * 11 + 3, none⟩ = some (.bool yf) ∧ W.cell? ⟨bY, oy + k * 11 + 4, none⟩ = some (.int .i64 yi) ∧ W.cell? ⟨bY, oy + k * 11 + 5, none⟩ = some (.int .i64 yl) ∧ W.cell? ⟨bY, oy + k * 11 + 6, none⟩ = some (.int .i64 yh) ∧ W.cell? ⟨bY, oy + k * 11 + 7, none⟩ = some (.int .i64 yn) ∧ W.cell? ⟨bY, oy + k * 11 + 8, none⟩ = some (.slice none 0 0) ∧ W.cell? ⟨bY, oy + k * 11 + 9, none⟩ = some (.slice none 0 0) ∧ W.cell? ⟨bY, oy + k * 11 + 10, none⟩ = some (.int .i64 0))
                (exact HK.out _ (by repeat' (first | exact Below.refl _ _ | apply Below.drew | apply Below.setCell | apply Below.alloc | (simp; done))))
                (fail)
              all_goals go_wp2_with fail
              all_goals first | (go_ret; exact ⟨ret_bool HF.out.symm, HBN.out _ _⟩) | (exfalso; have hz := HS.out; simp [sameT] at hz; simp_all; done)
            · unfold sameT at hs
              simp only [Bool.and_eq_true, beq_iff_eq] at hs
              obtain ⟨⟨e1, e2⟩, e3⟩ := hs
              obtain rfl := bytes_same e2
              subst e1 e3
              clear e2
              go_wp2_with fail
              go_region_held3 (fun W => W.cell? ⟨Ba, 4, none⟩ = some (.slice (some ⟨bx, ox, none⟩) M xbc) ∧ W.cell? ⟨Bb, 4, none⟩ = some (.slice (some ⟨bY, oy, none⟩) M ybc) ∧ W.cell? ⟨bx, ox + k * 11, none⟩ = some (.int .i64 xk) ∧ W.cell? ⟨bx, ox + k * 11 + 1, none⟩ = some (.string xt) ∧ W.cell? ⟨bx, ox + k * 11 + 2, none⟩ = some (.bool xs) ∧ W.cell? ⟨bx, ox + k * 11 + 3, none⟩ = some (.bool xf) ∧ W.cell? ⟨bx, ox + k * 11 + 4, none⟩ = some (.int .i64 xi) ∧ W.cell? ⟨bx, ox + k * 11 + 5, none⟩ = some (.int .i64 xl) ∧ W.cell? ⟨bx, ox + k * 11 + 6, none⟩ = some (.int .i64 xh) ∧ W.cell? ⟨bx, ox + k * 11 + 7, none⟩ = some (.int .i64 xn) ∧ W.cell? ⟨bx, ox + k * 11 + 8, none⟩ = some (.slice none 0 0) ∧ W.cell? ⟨bx, ox + k * 11 + 9, none⟩ = some (.slice none 0 0) ∧ W.cell? ⟨bx, ox + k * 11 + 10, none⟩ = some (.int .i64 0) ∧ W.cell? ⟨bY, oy + k * 11, none⟩ = some (.int .i64 xk) ∧ W.cell? ⟨bY, oy + k * 11 + 1, none⟩ = some (.string xt) ∧ W.cell? ⟨bY, oy + k * 11 + 2, none⟩ = some (.bool xs) ∧ W.cell? ⟨bY, oy + k * 11 + 3, none⟩ = some (.bool yf) ∧ W.cell? ⟨bY, oy + k * 11 + 4, none⟩ = some (.int .i64 yi) ∧ W.cell? ⟨bY, oy + k * 11 + 5, none⟩ = some (.int .i64 yl) ∧ W.cell? ⟨bY, oy + k * 11 + 6, none⟩ = some (.int .i64 yh) ∧ W.cell? ⟨bY, oy + k * 11 + 7, none⟩ = some (.int .i64 yn) ∧ W.cell? ⟨bY, oy + k * 11 + 8, none⟩ = some (.slice none 0 0) ∧ W.cell? ⟨bY, oy + k * 11 + 9, none⟩ = some (.slice none 0 0) ∧ W.cell? ⟨bY, oy + k * 11 + 10, none⟩ = some (.int .i64 0))
                (exact HK.out _ (by repeat' (first | exact Below.refl _ _ | apply Below.drew | apply Below.setCell | apply Below.alloc | (simp; done))))
                (fail)
              all_goals go_wp2_with fail
              all_goals refine ⟨⟨k + 1, hlt, by go_num, hid ⟨HBQ.out _ _, fun j x y hj hx hy => ?_⟩⟩, less_j hlt rfl⟩
              all_goals by_cases hjk : j < k
              all_goals first | exact HC.out.2 j x y hjk hx hy | skip
              all_goals obtain rfl : j = k := by omega
              all_goals rw [HPQ.out.1] at hx
              all_goals rw [HPQ.out.2] at hy
              all_goals cases hx
              all_goals cases hy
              all_goals simp [sameT]
          · obtain rfl : k = M := by omega
            have HT := hid (sameM_all HH.out HPE.out (fun j x y hx hy => HC.out.2 j x y (by rw [← HNM.out.2]; exact (List.getElem?_eq_some_iff.1 hx).1) hx hy))
            go_wp2_with fail
            go_ret
            exact ⟨ret_bool HT.out.symm, HBB2.out⟩
  · have HF := hid (sameM_head hh)
    unfold HeadSame at hh
    have HBN : Hid (∀ X Y : Obj, Below w.heap.size w ((w.alloc X).alloc Y)) := fun X Y => ((Below.refl _ w).alloc (Nat.le_refl _) X).alloc (by simp) Y
    clear hxp hyp hxb hyb hfx HBB
    go_enter Tryz.func12, Tryz.ntmps12
    go_wp2_with fail
    all_goals first | (go_ret; exact ⟨ret_bool HF.out.symm, HBN.out _ _⟩) | (exfalso; apply hh; refine ⟨?_, ?_, ?_, ?_, ?_⟩ <;> first | assumption | omega | (have hz := ‹(_ != _) = false›; simp only [bne_eq_false_iff_eq] at hz; omega))
end
section
open Go.RowKit Go.Shelf

set_option maxRecDepth 100000 in
set_option maxHeartbeats 1000000 in
theorem REqual_same (x y : Mv) (m : Mc) (w : World) (hx : MIs w x m) (hy : MIs w y m) (hf : Few m) :
    Calls Tryz.prog 10 #[aggM x, aggM y] w fun e w' => e = .returned (.bool true) ∧ Below w.heap.size w w' := by
  have HS := hid (fun W (h : Below w.heap.size w W) => RSame_any x y m m W (hx.below h) (hy.below h) hf)
  rw [sameM_self] at HS
  unfold aggM at HS ⊢
  have HST := hid (fun W (h : Below w.heap.size w W) => SameTokens_any x.ba y.ba x.bc y.bc m.body W (hx.body.below h) (hy.body.below h) hf.2)
  rw [← hx.bn] at HST
  have hbn := hx.bn.trans hy.bn.symm
  have HBk := hid (two_blocks w (.cells #[.string x.name, .bool x.call, .slice x.pa x.pn x.pc, .bool x.more, .slice x.ba x.bn x.bc] 26) (.cells #[.string y.name, .bool y.call, .slice y.pa y.pn y.pc, .bool y.more, .slice y.ba y.bn y.bc] 26))
  have HB0 : Hid (Below w.heap.size w ((w.alloc (.cells #[.string x.name, .bool x.call, .slice x.pa x.pn x.pc, .bool x.more, .slice x.ba x.bn x.bc] 26)).alloc (.cells #[.string y.name, .bool y.call, .slice y.pa y.pn y.pc, .bool y.more, .slice y.ba y.bn y.bc] 26))) := ((Below.refl _ w).alloc (Nat.le_refl _) _).alloc (by simp) _
  rw [← hbn] at HBk HB0 HS ⊢
  clear hx hy hf hbn
  go_enter Tryz.func10, Tryz.ntmps10
  go_wp2_with fail
  generalize ((w.alloc (.cells #[.string x.name, .bool x.call, .slice x.pa x.pn x.pc, .bool x.more, .slice x.ba x.bn x.bc] 26)).alloc (.cells #[.string y.name, .bool y.call, .slice y.pa y.pn y.pc, .bool y.more, .slice y.ba x.bn y.bc] 26)) = w0 at HBk HB0 ⊢
  refine (HS.out _ HB0.out).mono ?_
  rintro e w1 ⟨rfl, hb1⟩
  have HB1 := hid (HB0.out.trans (hb1.mono HB0.out.size))
  have g1 := (hb1.block _ (lt_of_block HBk.out.1)).trans HBk.out.1
  have g2 := (hb1.block _ (lt_of_block HBk.out.2)).trans HBk.out.2
  obtain ⟨a0, a1, a2, a3, a4⟩ := mac_facts g1
  obtain ⟨b0, b1, b2, b3, b4⟩ := mac_facts g2
  clear hb1 HB0 HS HBk g1 g2
  go_wp2_with fail
  refine (HST.out _ HB1.out).mono ?_
  rintro e w2 ⟨rfl, hb2⟩
  have HB2 := hid (HB1.out.trans (hb2.mono HB1.out.size))
  clear hb2 a0 a1 a2 a3 a4 b0 b1 b2 b3 b4
  go_wp2_with fail
  go_ret
  exact ⟨rfl, HB2.out⟩

set_option maxRecDepth 100000 in
set_option maxHeartbeats 1000000 in
theorem REqualM_same (a b : Option Addr) (ca cb : Nat) (vs us : List Mv) (ms : List Mc) (w : World) (hA : MsAt w a vs) (hB : MsAt w b us) (hI : MsIs w vs ms) (hJ : MsIs w us ms) (hl : ms.length ≤ 1048576) (hf : ∀ m ∈ ms, Few m) :
    Calls Tryz.prog 15 #[.slice a vs.length ca, .slice b us.length cb] w fun e w' => e = .returned (.bool true) ∧ Below w.heap.size w w' := by
  have HI := hid (And.intro hI hJ)
  rw [hI.1, hJ.1]
  have HE := hid (fun x y m W h1 h2 h3 => REqual_same x y m W h1 h2 h3)
  unfold aggM at HE
  have HF := hid hf
  clear hI hJ hf
  obtain ⟨N, hN⟩ : ∃ N, ms.length = N := ⟨_, rfl⟩
  have HN := hid hN
  rw [hN] at hl ⊢
  clear hN
  go_enter Tryz.func15, Tryz.ntmps15
  go_wp2_with fail
  go_loopw [13] (fun x wr => ∃ k : Nat, k ≤ N ∧ x = .int .i64 k ∧ Hid (Below w.heap.size w wr)) (fun x _ => N - (intOf x).toNat)
  case atStart => exact ⟨0, Nat.zero_le _, rfl, Below.refl _ _⟩
  case round =>
    obtain ⟨k, hk, rfl, HB'⟩ := hrel
    by_cases hlt : k < N
    · have hvl : k < vs.length := by rw [HI.out.1.1, HN.out]; exact hlt
      have hul : k < us.length := by rw [HI.out.2.1, HN.out]; exact hlt
      have hml : k < ms.length := by rw [HN.out]; exact hlt
      have hxv : vs[k]? = some vs[k] := List.getElem?_eq_getElem hvl
      have hxu : us[k]? = some us[k] := List.getElem?_eq_getElem hul
      have hxm : ms[k]? = some ms[k] := List.getElem?_eq_getElem hml
      have HS2 := hid (fun p : Later wr => HE.out vs[k] us[k] ms[k] p.W ((HI.out.1.2 k _ _ hxv hxm).below (HB'.out.trans (p.hb.mono HB'.out.size))) ((HI.out.2.2 k _ _ hxu hxm).below (HB'.out.trans (p.hb.mono HB'.out.size))) (HF.out _ (List.getElem_mem hml)))
      rcases hA with ⟨h, _⟩ | ⟨ba, oa, rfl, hba, hca⟩
      · rw [h] at hvl; exact absurd hvl (Nat.not_lt_zero _)
      rcases hB with ⟨h, _⟩ | ⟨bb, ob, rfl, hbb, hcb⟩
      · rw [h] at hul; exact absurd hul (Nat.not_lt_zero _)
      have hcx : ∀ (i : Nat) v, (encM vs[k])[i]? = some v → wr.cell? ⟨ba, oa + k * 5 + i, none⟩ = some v := fun i v hv => (HB'.out.cell (p := ⟨ba, _, none⟩) hba).trans (hca k _ hxv i v hv)
      have hcy : ∀ (i : Nat) v, (encM us[k])[i]? = some v → wr.cell? ⟨bb, ob + k * 5 + i, none⟩ = some v := fun i v hv => (HB'.out.cell (p := ⟨bb, _, none⟩) hbb).trans (hcb k _ hxu i v hv)
      generalize vs[k] = x at hcx HS2
      generalize us[k] = y at hcy HS2
      have z0 := Later.cell (hcx 0 _ rfl)
      have z1 := Later.cell (hcx 1 _ rfl)
      have z2 := Later.cell (hcx 2 _ rfl)
      have z3 := Later.cell (hcx 3 _ rfl)
      have z4 := Later.cell (hcx 4 _ rfl)
      have y0 := Later.cell (hcy 0 _ rfl)
      have y1 := Later.cell (hcy 1 _ rfl)
      have y2 := Later.cell (hcy 2 _ rfl)
      have y3 := Later.cell (hcy 3 _ rfl)
      have y4 := Later.cell (hcy 4 _ rfl)
      simp only [Nat.add_zero] at z0 y0
      have hnn : Nonempty (Later wr) := ⟨⟨_, Below.refl _ _⟩⟩
      have hki : (k : Int) < (N : Int) := Int.ofNat_lt.2 hlt
      have hk0 : (0 : Int) ≤ (k : Int) := Int.natCast_nonneg _
      have hkp := nxt_k (Nat.le_trans hk (Nat.le_trans hl (by decide)))
      have hkw := nxt_w (Nat.le_trans hk (Nat.le_trans hl (by decide)))
      clear hcx hcy hxv hxu hxm hca hcb hvl hul hml hba hbb
      go_wp2_with fail
      refine region_later (by kernel_rfl) (by kernel_rfl) ?_
      repeat (first | go_big_quiet_step ((go_at_call 10; exact Calls.later (HS2.out _))) | quiet_step ((go_at_call 10; exact Calls.later (HS2.out _))))
      refine wpQuiet_nil ?_
      rintro _ ⟨p, rfl⟩
      have HBp := hid (HB'.out.trans (p.hb.mono HB'.out.size))
      clear z0 y0 z1 y1 z2 y2 z3 y3 z4 y4 hnn HS2
      generalize p.W = w2 at HBp ⊢
      go_wp2_with fail
      exact ⟨⟨k + 1, hlt, by go_num, HBp.out⟩, less_j hlt (by go_num)⟩
    · obtain rfl : k = N := by omega
      go_wp2_with fail
      go_ret
      exact ⟨rfl, HB'.out⟩
end
end Go.Proofs.YteklakpfbkcegaaGreatDoor
