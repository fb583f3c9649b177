/- Walks of the document's own SameMacro, Equal and EqualMacros. · Walks of the document's own Equal and EqualMacros, of what is the same. · Walks of the document's own Has, Find, Define and Undef. · Walk of the document's own At. -/
import Derived.Test.YtedmcefckcmheaaGreatDoorMcA
import Derived.Test.YtedmcefckcmheaaGreatDoorRxJoin
import Derived.Deep.RegionHeld3
import Derived.Test.YtedmcefckcmheaaGreatDoorAppLit
import Derived.Test.YtedmcefckcmheaaGreatDoorMcB
namespace Go.Proofs.YtedmcefckcmheaaGreatDoor
section
section
open Go.RowKit Go.Shelf

theorem sameTs_all : ∀ (a b : List Tk), sameTs a b = true ↔ a.length = b.length ∧ ∀ (k : Nat) x y, a[k]? = some x → b[k]? = some y → sameT x y = true
  | [], [] => by simp [sameTs]
  | [], _ :: _ => by simp [sameTs]
  | _ :: _, [] => by simp [sameTs]
  | x :: r, y :: s => by
    have ih := sameTs_all r s
    simp only [sameTs, Bool.and_eq_true, ih, List.length_cons]
    constructor
    · rintro ⟨h0, hl, ha⟩
      refine ⟨by omega, fun k u v hu hv => ?_⟩
      cases k with
      | zero => simp at hu hv; subst hu hv; exact h0
      | succ k => exact ha k u v (by simpa using hu) (by simpa using hv)
    · rintro ⟨hl, ha⟩
      exact ⟨ha 0 x y rfl rfl, by omega, fun k u v hu hv => ha (k + 1) u v (by simpa using hu) (by simpa using hv)⟩
/-- What must be the same ahead of parameters and bodies. -/
def HeadSame (mx my : Mc) : Prop := mx.name.toList = my.name.toList ∧ mx.call = my.call ∧ mx.more = my.more ∧ mx.params.length = my.params.length ∧ mx.body.length = my.body.length
theorem sameM_head {mx my : Mc} (h : ¬ HeadSame mx my) : sameM mx my = false := by
  rcases hs : sameM mx my with _ | _
  · rfl
  · exfalso
    apply h
    have hk := (sameM_eq mx my).1 hs
    unfold keyM at hk
    simp only [Prod.mk.injEq] at hk
    have h5 := congrArg List.length hk.2.2.2.2
    simp only [List.length_map] at h5
    exact ⟨hk.1, hk.2.1, hk.2.2.1, by rw [hk.2.2.2.1], h5⟩
theorem sameM_par {mx my : Mc} {k : Nat} {p q : ByteArray} (hp : mx.params[k]? = some p) (hq : my.params[k]? = some q) (h : (p.toList == q.toList) = false) : sameM mx my = false := by
  rcases hs : sameM mx my with _ | _
  · rfl
  · exfalso
    have hk := (sameM_eq mx my).1 hs
    unfold keyM at hk
    simp only [Prod.mk.injEq] at hk
    rw [hk.2.2.2.1, hq] at hp
    cases hp
    simp at h
theorem sameM_tok {mx my : Mc} {k : Nat} {x y : Tk} (hp : mx.body[k]? = some x) (hq : my.body[k]? = some y) (h : sameT x y = false) : sameM mx my = false := by
  rcases hs : sameM mx my with _ | _
  · rfl
  · exfalso
    unfold sameM at hs
    simp only [Bool.and_eq_true] at hs
    rw [((sameTs_all _ _).1 hs.2).2 k x y hp hq] at h
    cases h
theorem sameM_all {mx my : Mc} (h : HeadSame mx my) (hp : mx.params = my.params) (hb : ∀ (k : Nat) x y, mx.body[k]? = some x → my.body[k]? = some y → sameT x y = true) : sameM mx my = true := by
  obtain ⟨h1, h2, h3, _, h5⟩ := h
  unfold sameM
  simp only [Bool.and_eq_true, beq_iff_eq, decide_eq_true_eq]
  exact ⟨⟨⟨⟨h1, h2⟩, h3⟩, hp⟩, (sameTs_all _ _).2 ⟨h5, hb⟩⟩
theorem bytes_same {a b : ByteArray} (h : a.toList = b.toList) : a = b := by
  rw [toList_data, toList_data] at h
  cases a; cases b
  congr 1
  exact Array.ext' h
set_option maxRecDepth 100000 in
set_option maxHeartbeats 1000000 in
theorem RSame_any (x y : Mv) (mx my : Mc) (w : World) (hx : MIs w x mx) (hy : MIs w y my) (hfx : Few mx) :
    Calls Tryz.prog 12 #[aggM x, aggM y] w fun e w' => e = .returned (.bool (sameM mx my)) ∧ Below w.heap.size w w' := by
  unfold aggM
  obtain ⟨xn, xc, xpa, xpn, xpc, xm, xba, xbn, xbc⟩ := x
  obtain ⟨yn, yc, ypa, ypn, ypc, ym, yba, ybn, ybc⟩ := y
  obtain ⟨h1, h2, h3, hxp, h5, h6, hxb⟩ := hx
  obtain ⟨k1, k2, k3, hyp, k5, k6, hyb⟩ := hy
  dsimp only at h1 h2 h3 hxp h5 h6 hxb k1 k2 k3 hyp k5 k6 hyb ⊢
  subst h1 h2 h3 h5 h6 k1 k2 k3 k5 k6
  have hbb : Below w.heap.size w ((w.alloc (.cells #[.string mx.name, .bool mx.call, .slice xpa mx.params.length xpc, .bool mx.more, .slice xba mx.body.length xbc] 26)).alloc (.cells #[.string my.name, .bool my.call, .slice ypa my.params.length ypc, .bool my.more, .slice yba my.body.length ybc] 26)) := ((Below.refl _ w).alloc (Nat.le_refl _) _).alloc (by simp) _
  have HBB := hid hbb
  clear hbb
  by_cases hh : HeadSame mx my
  · obtain ⟨e1, e2, e3, e4, e5⟩ := hh
    have HH : Hid (HeadSame mx my) := ⟨e1, e2, e3, e4, e5⟩
    have e1' := bytes_same e1
    have HBk := hid (two_blocks w (.cells #[.string mx.name, .bool mx.call, .slice xpa mx.params.length xpc, .bool mx.more, .slice xba mx.body.length xbc] 26) (.cells #[.string my.name, .bool my.call, .slice ypa my.params.length ypc, .bool my.more, .slice yba my.body.length ybc] 26))
    have HX := hid (And.intro (hxp.below HBB.out) (hyp.below HBB.out))
    have HY := hid (And.intro (hxb.below HBB.out) (hyb.below HBB.out))
    rw [← e1', ← e2, ← e3, ← e4, ← e5] at HBk HBB HX HY ⊢
    clear e1 e2 e3 e1' hxp hyp hxb hyb
    have HE := hid (And.intro e4 e5)
    clear e4 e5
    obtain ⟨N, hN⟩ : ∃ N, mx.params.length = N := ⟨_, rfl⟩
    obtain ⟨M, hM⟩ : ∃ M, mx.body.length = M := ⟨_, rfl⟩
    rw [hN, hM] at HBk HBB HX HY HE ⊢
    have HNM := hid (And.intro hN hM)
    clear hN hM
    go_enter Tryz.func12, Tryz.ntmps12
    go_wp2_with fail
    generalize ((w.alloc (.cells #[.string mx.name, .bool mx.call, .slice xpa N xpc, .bool mx.more, .slice xba M xbc] 26)).alloc (.cells #[.string mx.name, .bool mx.call, .slice ypa N ypc, .bool mx.more, .slice yba M ybc] 26)) = w0 at HBk HBB HX HY ⊢
    obtain ⟨Ba, hBa⟩ : ∃ Ba, w.heap.size = Ba := ⟨_, rfl⟩
    obtain ⟨Bb, hBb⟩ : ∃ Bb, w.heap.size + 1 = Bb := ⟨_, rfl⟩
    have HBa := hid hBa
    rw [hBb, hBa] at HBk
    rw [hBb]
    have hBl : w.heap.size ≤ w0.heap.size := HBB.out.size
    rw [hBa]
    clear hBa hBb
    go_loopw [49] (fun i wr => ∃ k : Nat, k ≤ N ∧ i = .int .i64 k ∧ Hid (Below w0.heap.size w0 wr ∧ mx.params.take k = my.params.take k)) (fun i _ => N - (intOf i).toNat)
    case atStart => exact ⟨0, Nat.zero_le _, rfl, Below.refl _ _, by simp⟩
    case round =>
      obtain ⟨k, hk, rfl, HC⟩ := hrel
      obtain ⟨a0, a1, a2, a3, a4⟩ := mac_facts ((HC.out.1.block _ (lt_of_block HBk.out.1)).trans HBk.out.1)
      obtain ⟨b0, b1, b2, b3, b4⟩ := mac_facts ((HC.out.1.block _ (lt_of_block HBk.out.2)).trans HBk.out.2)
      have hnn : Nonempty (Later wr) := ⟨⟨_, Below.refl _ _⟩⟩
      by_cases hlt : k < N
      · have hp : mx.params[k]? = some (mx.params[k]'(by rw [HNM.out.1]; exact hlt)) := List.getElem?_eq_getElem _
        have hq : my.params[k]? = some (my.params[k]'(by rw [← HE.out.1]; exact hlt)) := List.getElem?_eq_getElem _
        generalize mx.params[k]'(by rw [HNM.out.1]; exact hlt) = p at hp
        generalize my.params[k]'(by rw [← HE.out.1]; exact hlt) = q at hq
        rcases HX.out.1 with h0 | ⟨bx, ox, rfl, hbx, hcx⟩
        · rw [h0] at hp; cases hp
        rcases HX.out.2 with h0 | ⟨bY, oy, rfl, hby, hcy⟩
        · rw [h0] at hq; cases hq
        have hki : (k : Int) < (N : Int) := Int.ofNat_lt.2 hlt
        have hk0 : (0 : Int) ≤ (k : Int) := Int.natCast_nonneg _
        have hkb : k ≤ 1048577 := by have := hfx.1; have := HNM.out.1; omega
        have hkp := nxt_k hkb
        have hkw := nxt_w hkb
        have P1 := Later.cell ((HC.out.1.cell (p := ⟨bx, ox + k, none⟩) hbx).trans (hcx k p hp))
        have P2 := Later.cell ((HC.out.1.cell (p := ⟨bY, oy + k, none⟩) hby).trans (hcy k q hq))
        have A2 := Later.cell a2
        have B2 := Later.cell b2
        have HPQ := hid (And.intro hp hq)
        clear hcx hcy a0 a1 a2 a3 a4 b0 b1 b2 b3 b4 hp hq hkb hfx
        go_wp2_with fail
        refine region_later (by kernel_rfl) (by kernel_rfl) ?_
        repeat (first | go_big_quiet_step (fail) | quiet_step (fail))
        refine wpQuiet_nil ?_
        rintro _ ⟨r, rfl⟩
        have HC2 := hid (HC.out.1.trans (r.hb.mono HC.out.1.size))
        clear P1 P2 A2 B2 hnn
        generalize r.W = w2 at HC2 ⊢
        rcases hpq : (p.toList == q.toList) with _ | _
        · have HF := hid (sameM_par HPQ.out.1 HPQ.out.2 hpq)
          go_wp2_with fail
          go_ret
          exact ⟨ret_bool HF.out.symm, HBB.out.trans (HC2.out.mono HBB.out.size)⟩
        · obtain rfl := bytes_same (by simpa using hpq : p.toList = q.toList)
          go_wp2_with fail
          exact ⟨⟨k + 1, hlt, by go_num, HC2.out, by rw [List.take_add_one, List.take_add_one, HPQ.out.1, HPQ.out.2, HC.out.2]⟩, less_j hlt rfl⟩
      · obtain rfl : k = N := by omega
        have HPE : Hid (mx.params = my.params) := by
          have h := HC.out.2
          rw [List.take_of_length_le (Nat.le_of_eq HNM.out.1), List.take_of_length_le (Nat.le_of_eq HE.out.1.symm)] at h
          exact h
        have HBk1 := hid (And.intro ((HC.out.1.block _ (lt_of_block HBk.out.1)).trans HBk.out.1) ((HC.out.1.block _ (lt_of_block HBk.out.2)).trans HBk.out.2))
        have HY1 := hid (And.intro (HY.out.1.below HC.out.1) (HY.out.2.below HC.out.1))
        have HBB1 := hid (HBB.out.trans (HC.out.1.mono HBB.out.size))
        clear HX HC HBk HY HBB hnn a0 a1 a2 a3 b0 b1 b2 b3 b4
        clear hlt hk
        rename World => wq
        go_wp2_with fail
        clear a4
        go_loopw [67] (fun i wr => ∃ k : Nat, k ≤ M ∧ i = .int .i64 k ∧ Hid (Below wq.heap.size wq wr ∧ ∀ (j : Nat) x y, j < k → mx.body[j]? = some x → my.body[j]? = some y → sameT x y = true)) (fun i _ => M - (intOf i).toNat)
        case atStart => exact ⟨0, Nat.zero_le _, rfl, Below.refl _ _, fun j x y hj => absurd hj (Nat.not_lt_zero _)⟩
        case round =>
          obtain ⟨k, hk, rfl, HC⟩ := hrel
          have HBB2 := hid (HBB1.out.trans (HC.out.1.mono HBB1.out.size))
          by_cases hlt : k < M
          · have hp : mx.body[k]? = some (mx.body[k]'(by rw [HNM.out.2]; exact hlt)) := List.getElem?_eq_getElem _
            have hq : my.body[k]? = some (my.body[k]'(by rw [← HE.out.2]; exact hlt)) := List.getElem?_eq_getElem _
            generalize mx.body[k]'(by rw [HNM.out.2]; exact hlt) = x at hp
            generalize my.body[k]'(by rw [← HE.out.2]; exact hlt) = y at hq
            rcases HY1.out.1 with h0 | ⟨bx, ox, rfl, hbx, hcx⟩
            · rw [h0] at hp; cases hp
            rcases HY1.out.2 with h0 | ⟨bY, oy, rfl, hby, hcy⟩
            · rw [h0] at hq; cases hq
            have hki : (k : Int) < (M : Int) := Int.ofNat_lt.2 hlt
            have hk0 : (0 : Int) ≤ (k : Int) := Int.natCast_nonneg _
            have hkb : k ≤ 1048577 := by have := hfx.2; have := HNM.out.2; omega
            have hkp := nxt_k hkb
            have hkw := nxt_w hkb
            have HPQ := hid (And.intro hp hq)
            obtain ⟨xk, xt, xs, xf, xi, xl, xh, xn⟩ := x
            obtain ⟨yk, yt, ys, yf, yi, yl, yh, yn⟩ := y
            have HK : Hid (∀ W, Below wr.heap.size wr W → W.cell? ⟨Ba, 4, none⟩ = some (.slice (some ⟨bx, ox, none⟩) M xbc) ∧ W.cell? ⟨Bb, 4, none⟩ = some (.slice (some ⟨bY, oy, none⟩) M ybc) ∧ W.cell? ⟨bx, ox + k * 11, none⟩ = some (.int .i64 xk) ∧ W.cell? ⟨bx, ox + k * 11 + 1, none⟩ = some (.string xt) ∧ W.cell? ⟨bx, ox + k * 11 + 2, none⟩ = some (.bool xs) ∧ W.cell? ⟨bx, ox + k * 11 + 3, none⟩ = some (.bool xf) ∧ W.cell? ⟨bx, ox + k * 11 + 4, none⟩ = some (.int .i64 xi) ∧ W.cell? ⟨bx, ox + k * 11 + 5, none⟩ = some (.int .i64 xl) ∧ W.cell? ⟨bx, ox + k * 11 + 6, none⟩ = some (.int .i64 xh) ∧ W.cell? ⟨bx, ox + k * 11 + 7, none⟩ = some (.int .i64 xn) ∧ W.cell? ⟨bx, ox + k * 11 + 8, none⟩ = some (.slice none 0 0) ∧ W.cell? ⟨bx, ox + k * 11 + 9, none⟩ = some (.slice none 0 0) ∧ W.cell? ⟨bx, ox + k * 11 + 10, none⟩ = some (.int .i64 0) ∧ W.cell? ⟨bY, oy + k * 11, none⟩ = some (.int .i64 yk) ∧ W.cell? ⟨bY, oy + k * 11 + 1, none⟩ = some (.string yt) ∧ W.cell? ⟨bY, oy + k * 11 + 2, none⟩ = some (.bool ys) ∧ W.cell? ⟨bY, oy + k * 11 + 3, none⟩ = some (.bool yf) ∧ W.cell? ⟨bY, oy + k * 11 + 4, none⟩ = some (.int .i64 yi) ∧ W.cell? ⟨bY, oy + k * 11 + 5, none⟩ = some (.int .i64 yl) ∧ W.cell? ⟨bY, oy + k * 11 + 6, none⟩ = some (.int .i64 yh) ∧ W.cell? ⟨bY, oy + k * 11 + 7, none⟩ = some (.int .i64 yn) ∧ W.cell? ⟨bY, oy + k * 11 + 8, none⟩ = some (.slice none 0 0) ∧ W.cell? ⟨bY, oy + k * 11 + 9, none⟩ = some (.slice none 0 0) ∧ W.cell? ⟨bY, oy + k * 11 + 10, none⟩ = some (.int .i64 0)) := fun W hW => by
              have hb := HC.out.1.trans (hW.mono HC.out.1.size)
              obtain ⟨_, _, _, _, a4⟩ := mac_facts ((hb.block _ (lt_of_block HBk1.out.1)).trans HBk1.out.1)
              obtain ⟨_, _, _, _, b4⟩ := mac_facts ((hb.block _ (lt_of_block HBk1.out.2)).trans HBk1.out.2)
              obtain ⟨p0, p1, p2, p3, p4, p5, p6, p7, p8, p9, p10⟩ := tk_cells (w := W) (fun i v hv => (hb.cell (p := ⟨bx, ox + k * 11 + i, none⟩) hbx).trans (hcx k _ hp i v hv))
              obtain ⟨q0, q1, q2, q3, q4, q5, q6, q7, q8, q9, q10⟩ := tk_cells (w := W) (fun i v hv => (hb.cell (p := ⟨bY, oy + k * 11 + i, none⟩) hby).trans (hcy k _ hq i v hv))
              exact ⟨a4, b4, p0, p1, p2, p3, p4, p5, p6, p7, p8, p9, p10, q0, q1, q2, q3, q4, q5, q6, q7, q8, q9, q10⟩
            have HLT : Hid (bx < wr.heap.size ∧ bY < wr.heap.size ∧ Ba < wr.heap.size ∧ Bb < wr.heap.size) := ⟨Nat.lt_of_lt_of_le hbx HC.out.1.size, Nat.lt_of_lt_of_le hby HC.out.1.size, Nat.lt_of_lt_of_le (lt_of_block HBk1.out.1) HC.out.1.size, Nat.lt_of_lt_of_le (lt_of_block HBk1.out.2) HC.out.1.size⟩
            have HBN : Hid (∀ X Y : Obj, Below w.heap.size w ((wr.alloc X).alloc Y).drew) := fun X Y => ((HBB2.out.alloc HBB2.out.size X).alloc (by have := HBB2.out.size; simp; omega) Y).drew
            have HBQ : Hid (∀ X Y : Obj, Below wq.heap.size wq ((wr.alloc X).alloc Y).drew) := fun X Y => ((HC.out.1.alloc HC.out.1.size X).alloc (by have := HC.out.1.size; simp; omega) Y).drew
            clear hcx hcy hp hq hkb hfx hbx hby
            rcases hs : sameT ⟨xk, xt, xs, xf, xi, xl, xh, xn⟩ ⟨yk, yt, ys, yf, yi, yl, yh, yn⟩ with _ | _
            · have HF := hid (sameM_tok HPQ.out.1 HPQ.out.2 hs)
              have HS := hid hs
              clear hs HPQ
              go_wp2_with fail
              go_region_held3 (fun W => W.cell? ⟨Ba, 4, none⟩ = some (.slice (some ⟨bx, ox, none⟩) M xbc) ∧ W.cell? ⟨Bb, 4, none⟩ = some (.slice (some ⟨bY, oy, none⟩) M ybc) ∧ W.cell? ⟨bx, ox + k * 11, none⟩ = some (.int .i64 xk) ∧ W.cell? ⟨bx, ox + k * 11 + 1, none⟩ = some (.string xt) ∧ W.cell? ⟨bx, ox + k * 11 + 2, none⟩ = some (.bool xs) ∧ W.cell? ⟨bx, ox + k * 11 + 3, none⟩ = some (.bool xf) ∧ W.cell? ⟨bx, ox + k * 11 + 4, none⟩ = some (.int .i64 xi) ∧ W.cell? ⟨bx, ox + k * 11 + 5, none⟩ = some (.int .i64 xl) ∧ W.cell? ⟨bx, ox + k * 11 + 6, none⟩ = some (.int .i64 xh) ∧ W.cell? ⟨bx, ox + k * 11 + 7, none⟩ = some (.int .i64 xn) ∧ W.cell? ⟨bx, ox + k * 11 + 8, none⟩ = some (.slice none 0 0) ∧ W.cell? ⟨bx, ox + k * 11 + 9, none⟩ = some (.slice none 0 0) ∧ W.cell? ⟨bx, ox + k * 11 + 10, none⟩ = some (.int .i64 0) ∧ W.cell? ⟨bY, oy + k * 11, none⟩ = some (.int .i64 yk) ∧ W.cell? ⟨bY, oy + k * 11 + 1, none⟩ = some (.string yt) ∧ W.cell? ⟨bY, oy + k * 11 + 2, none⟩ = some (.bool ys) ∧ W.cell? ⟨bY, oy + k * 11 + 3, none⟩ = some (.bool yf) ∧ W.cell? ⟨bY, oy + k * 11 + 4, none⟩ = some (.int .i64 yi) ∧ W.cell? ⟨bY, oy + k * 11 + 5, none⟩ = some (.int .i64 yl) ∧ W.cell? ⟨bY, oy + k * 11 + 6, none⟩ = some (.int .i64 yh) ∧ W.cell? ⟨bY, oy + k * 11 + 7, none⟩ = some (.int .i64 yn) ∧ W.cell? ⟨bY, oy + k * 11 + 8, none⟩ = some (.slice none 0 0) ∧ W.cell? ⟨bY, oy + k * 11 + 9, none⟩ = some (.slice none 0 0) ∧ W.cell? ⟨bY, oy + k * 11 + 10, none⟩ = some (.int .i64 0))
                (exact HK.out _ (by repeat' (first | exact Below.refl _ _ | apply Below.drew | apply Below.setCell | apply Below.alloc | (simp; done))))
                (fail)
              all_goals go_wp2_with fail
              all_goals first | (go_ret; exact ⟨ret_bool HF.out.symm, HBN.out _ _⟩) | (exfalso; have hz := HS.out; simp [sameT] at hz; simp_all; done)
            · unfold sameT at hs
              simp only [Bool.and_eq_true, beq_iff_eq] at hs
              obtain ⟨⟨e1, e2⟩, e3⟩ := hs
              obtain rfl := bytes_same e2
              subst e1 e3
              clear e2
              go_wp2_with fail
              go_region_held3 (fun W => W.cell? ⟨Ba, 4, none⟩ = some (.slice (some ⟨bx, ox, none⟩) M xbc) ∧ W.cell? ⟨Bb, 4, none⟩ = some (.slice (some ⟨bY, oy, none⟩) M ybc) ∧ W.cell? ⟨bx, ox + k * 11, none⟩ = some (.int .i64 xk) ∧ W.cell? ⟨bx, ox + k * 11 + 1, none⟩ = some (.string xt) ∧ W.cell? ⟨bx, ox + k * 11 + 2, none⟩ = some (.bool xs) ∧ W.cell? ⟨bx, ox + k * 11 + 3, none⟩ = some (.bool xf) ∧ W.cell? ⟨bx, ox + k * 11 + 4, none⟩ = some (.int .i64 xi) ∧ W.cell? ⟨bx, ox + k * 11 + 5, none⟩ = some (.int .i64 xl) ∧ W.cell? ⟨bx, ox + k * 11 + 6, none⟩ = some (.int .i64 xh) ∧ W.cell? ⟨bx, ox + k * 11 + 7, none⟩ = some (.int .i64 xn) ∧ W.cell? ⟨bx, ox + k * 11 + 8, none⟩ = some (.slice none 0 0) ∧ W.cell? ⟨bx, ox + k * 11 + 9, none⟩ = some (.slice none 0 0) ∧ W.cell? ⟨bx, ox + k * 11 + 10, none⟩ = some (.int .i64 0) ∧ W.cell? ⟨bY, oy + k * 11, none⟩ = some (.int .i64 xk) ∧ W.cell? ⟨bY, oy + k * 11 + 1, none⟩ = some (.string xt) ∧ W.cell? ⟨bY, oy + k * 11 + 2, none⟩ = some (.bool xs) ∧ W.cell? ⟨bY, oy + k * 11 + 3, none⟩ = some (.bool yf) ∧ W.cell? ⟨bY, oy + k * 11 + 4, none⟩ = some (.int .i64 yi) ∧ W.cell? ⟨bY, oy + k * 11 + 5, none⟩ = some (.int .i64 yl) ∧ W.cell? ⟨bY, oy + k * 11 + 6, none⟩ = some (.int .i64 yh) ∧ W.cell? ⟨bY, oy + k * 11 + 7, none⟩ = some (.int .i64 yn) ∧ W.cell? ⟨bY, oy + k * 11 + 8, none⟩ = some (.slice none 0 0) ∧ W.cell? ⟨bY, oy + k * 11 + 9, none⟩ = some (.slice none 0 0) ∧ W.cell? ⟨bY, oy + k * 11 + 10, none⟩ = some (.int .i64 0))
                (exact HK.out _ (by repeat' (first | exact Below.refl _ _ | apply Below.drew | apply Below.setCell | apply Below.alloc | (simp; done))))
                (fail)
              all_goals go_wp2_with fail
              all_goals refine ⟨⟨k + 1, hlt, by go_num, hid ⟨HBQ.out _ _, fun j x y hj hx hy => ?_⟩⟩, less_j hlt rfl⟩
              all_goals by_cases hjk : j < k
              all_goals first | exact HC.out.2 j x y hjk hx hy | skip
              all_goals obtain rfl : j = k := by omega
              all_goals rw [HPQ.out.1] at hx
              all_goals rw [HPQ.out.2] at hy
              all_goals cases hx
              all_goals cases hy
              all_goals simp [sameT]
          · obtain rfl : k = M := by omega
            have HT := hid (sameM_all HH.out HPE.out (fun j x y hx hy => HC.out.2 j x y (by rw [← HNM.out.2]; exact (List.getElem?_eq_some_iff.1 hx).1) hx hy))
            go_wp2_with fail
            go_ret
            exact ⟨ret_bool HT.out.symm, HBB2.out⟩
  · have HF := hid (sameM_head hh)
    unfold HeadSame at hh
    have HBN : Hid (∀ X Y : Obj, Below w.heap.size w ((w.alloc X).alloc Y)) := fun X Y => ((Below.refl _ w).alloc (Nat.le_refl _) X).alloc (by simp) Y
    clear hxp hyp hxb hyb hfx HBB
    go_enter Tryz.func12, Tryz.ntmps12
    go_wp2_with fail
    all_goals first | (go_ret; exact ⟨ret_bool HF.out.symm, HBN.out _ _⟩) | (exfalso; apply hh; refine ⟨?_, ?_, ?_, ?_, ?_⟩ <;> first | assumption | omega | (have hz := ‹(_ != _) = false›; simp only [bne_eq_false_iff_eq] at hz; omega))
end
section
open Go.RowKit Go.Shelf

set_option maxRecDepth 100000 in
set_option maxHeartbeats 1000000 in
theorem REqual_same (x y : Mv) (m : Mc) (w : World) (hx : MIs w x m) (hy : MIs w y m) (hf : Few m) :
    Calls Tryz.prog 10 #[aggM x, aggM y] w fun e w' => e = .returned (.bool true) ∧ Below w.heap.size w w' := by
  have HS := hid (fun W (h : Below w.heap.size w W) => RSame_any x y m m W (hx.below h) (hy.below h) hf)
  rw [sameM_self] at HS
  unfold aggM at HS ⊢
  have HST := hid (fun W (h : Below w.heap.size w W) => SameTokens_any x.ba y.ba x.bc y.bc m.body W (hx.body.below h) (hy.body.below h) hf.2)
  rw [← hx.bn] at HST
  have hbn := hx.bn.trans hy.bn.symm
  have HBk := hid (two_blocks w (.cells #[.string x.name, .bool x.call, .slice x.pa x.pn x.pc, .bool x.more, .slice x.ba x.bn x.bc] 26) (.cells #[.string y.name, .bool y.call, .slice y.pa y.pn y.pc, .bool y.more, .slice y.ba y.bn y.bc] 26))
  have HB0 : Hid (Below w.heap.size w ((w.alloc (.cells #[.string x.name, .bool x.call, .slice x.pa x.pn x.pc, .bool x.more, .slice x.ba x.bn x.bc] 26)).alloc (.cells #[.string y.name, .bool y.call, .slice y.pa y.pn y.pc, .bool y.more, .slice y.ba y.bn y.bc] 26))) := ((Below.refl _ w).alloc (Nat.le_refl _) _).alloc (by simp) _
  rw [← hbn] at HBk HB0 HS ⊢
  clear hx hy hf hbn
  go_enter Tryz.func10, Tryz.ntmps10
  go_wp2_with fail
  generalize ((w.alloc (.cells #[.string x.name, .bool x.call, .slice x.pa x.pn x.pc, .bool x.more, .slice x.ba x.bn x.bc] 26)).alloc (.cells #[.string y.name, .bool y.call, .slice y.pa y.pn y.pc, .bool y.more, .slice y.ba x.bn y.bc] 26)) = w0 at HBk HB0 ⊢
  refine (HS.out _ HB0.out).mono ?_
  rintro e w1 ⟨rfl, hb1⟩
  have HB1 := hid (HB0.out.trans (hb1.mono HB0.out.size))
  have g1 := (hb1.block _ (lt_of_block HBk.out.1)).trans HBk.out.1
  have g2 := (hb1.block _ (lt_of_block HBk.out.2)).trans HBk.out.2
  obtain ⟨a0, a1, a2, a3, a4⟩ := mac_facts g1
  obtain ⟨b0, b1, b2, b3, b4⟩ := mac_facts g2
  clear hb1 HB0 HS HBk g1 g2
  go_wp2_with fail
  refine (HST.out _ HB1.out).mono ?_
  rintro e w2 ⟨rfl, hb2⟩
  have HB2 := hid (HB1.out.trans (hb2.mono HB1.out.size))
  clear hb2 a0 a1 a2 a3 a4 b0 b1 b2 b3 b4
  go_wp2_with fail
  go_ret
  exact ⟨rfl, HB2.out⟩

set_option maxRecDepth 100000 in
set_option maxHeartbeats 1000000 in
theorem REqualM_same (a b : Option Addr) (ca cb : Nat) (vs us : List Mv) (ms : List Mc) (w : World) (hA : MsAt w a vs) (hB : MsAt w b us) (hI : MsIs w vs ms) (hJ : MsIs w us ms) (hl : ms.length ≤ 1048576) (hf : ∀ m ∈ ms, Few m) :
    Calls Tryz.prog 15 #[.slice a vs.length ca, .slice b us.length cb] w fun e w' => e = .returned (.bool true) ∧ Below w.heap.size w w' := by
  have HI := hid (And.intro hI hJ)
  rw [hI.1, hJ.1]
  have HE := hid (fun x y m W h1 h2 h3 => REqual_same x y m W h1 h2 h3)
  unfold aggM at HE
  have HF := hid hf
  clear hI hJ hf
  obtain ⟨N, hN⟩ : ∃ N, ms.length = N := ⟨_, rfl⟩
  have HN := hid hN
  rw [hN] at hl ⊢
  clear hN
  go_enter Tryz.func15, Tryz.ntmps15
  go_wp2_with fail
  go_loopw [13] (fun x wr => ∃ k : Nat, k ≤ N ∧ x = .int .i64 k ∧ Hid (Below w.heap.size w wr)) (fun x _ => N - (intOf x).toNat)
  case atStart => exact ⟨0, Nat.zero_le _, rfl, Below.refl _ _⟩
  case round =>
    obtain ⟨k, hk, rfl, HB'⟩ := hrel
    by_cases hlt : k < N
    · have hvl : k < vs.length := by rw [HI.out.1.1, HN.out]; exact hlt
      have hul : k < us.length := by rw [HI.out.2.1, HN.out]; exact hlt
      have hml : k < ms.length := by rw [HN.out]; exact hlt
      have hxv : vs[k]? = some vs[k] := List.getElem?_eq_getElem hvl
      have hxu : us[k]? = some us[k] := List.getElem?_eq_getElem hul
      have hxm : ms[k]? = some ms[k] := List.getElem?_eq_getElem hml
      have HS2 := hid (fun p : Later wr => HE.out vs[k] us[k] ms[k] p.W ((HI.out.1.2 k _ _ hxv hxm).below (HB'.out.trans (p.hb.mono HB'.out.size))) ((HI.out.2.2 k _ _ hxu hxm).below (HB'.out.trans (p.hb.mono HB'.out.size))) (HF.out _ (List.getElem_mem hml)))
      rcases hA with ⟨h, _⟩ | ⟨ba, oa, rfl, hba, hca⟩
      · rw [h] at hvl; exact absurd hvl (Nat.not_lt_zero _)
      rcases hB with ⟨h, _⟩ | ⟨bb, ob, rfl, hbb, hcb⟩
      · rw [h] at hul; exact absurd hul (Nat.not_lt_zero _)
      have hcx : ∀ (i : Nat) v, (encM vs[k])[i]? = some v → wr.cell? ⟨ba, oa + k * 5 + i, none⟩ = some v := fun i v hv => (HB'.out.cell (p := ⟨ba, _, none⟩) hba).trans (hca k _ hxv i v hv)
      have hcy : ∀ (i : Nat) v, (encM us[k])[i]? = some v → wr.cell? ⟨bb, ob + k * 5 + i, none⟩ = some v := fun i v hv => (HB'.out.cell (p := ⟨bb, _, none⟩) hbb).trans (hcb k _ hxu i v hv)
      generalize vs[k] = x at hcx HS2
      generalize us[k] = y at hcy HS2
      have z0 := Later.cell (hcx 0 _ rfl)
      have z1 := Later.cell (hcx 1 _ rfl)
      have z2 := Later.cell (hcx 2 _ rfl)
      have z3 := Later.cell (hcx 3 _ rfl)
      have z4 := Later.cell (hcx 4 _ rfl)
      have y0 := Later.cell (hcy 0 _ rfl)
      have y1 := Later.cell (hcy 1 _ rfl)
      have y2 := Later.cell (hcy 2 _ rfl)
      have y3 := Later.cell (hcy 3 _ rfl)
      have y4 := Later.cell (hcy 4 _ rfl)
      simp only [Nat.add_zero] at z0 y0
      have hnn : Nonempty (Later wr) := ⟨⟨_, Below.refl _ _⟩⟩
      have hki : (k : Int) < (N : Int) := Int.ofNat_lt.2 hlt
      have hk0 : (0 : Int) ≤ (k : Int) := Int.natCast_nonneg _
      have hkp := nxt_k (Nat.le_trans hk (Nat.le_trans hl (by decide)))
      have hkw := nxt_w (Nat.le_trans hk (Nat.le_trans hl (by decide)))
      clear hcx hcy hxv hxu hxm hca hcb hvl hul hml hba hbb
      go_wp2_with fail
      refine region_later (by kernel_rfl) (by kernel_rfl) ?_
      repeat (first | go_big_quiet_step ((go_at_call 10; exact Calls.later (HS2.out _))) | quiet_step ((go_at_call 10; exact Calls.later (HS2.out _))))
      refine wpQuiet_nil ?_
      rintro _ ⟨p, rfl⟩
      have HBp := hid (HB'.out.trans (p.hb.mono HB'.out.size))
      clear z0 y0 z1 y1 z2 y2 z3 y3 z4 y4 hnn HS2
      generalize p.W = w2 at HBp ⊢
      go_wp2_with fail
      exact ⟨⟨k + 1, hlt, by go_num, HBp.out⟩, less_j hlt (by go_num)⟩
    · obtain rfl : k = N := by omega
      go_wp2_with fail
      go_ret
      exact ⟨rfl, HB'.out⟩
end
end
section
open Go.RowKit Go.Shelf

theorem contains_at {ss : List ByteArray} {k : Nat} {x s : ByteArray} (hx : ss[k]? = some x) (h : (x.toList == s.toList) = true) : Lib.containsS ss s = true := by
  rw [Lib.containsS_iff]
  obtain rfl := bytes_same (by simpa using h : x.toList = s.toList)
  exact List.mem_of_getElem? hx
theorem contains_no {ss : List ByteArray} {s : ByteArray} (h : ∀ (j : Nat) x, ss[j]? = some x → (x.toList == s.toList) = false) : Lib.containsS ss s = false := by
  rcases hc : Lib.containsS ss s with _ | _
  · rfl
  · rw [Lib.containsS_iff] at hc
    obtain ⟨j, hj, e⟩ := List.getElem_of_mem hc
    have := h j s (by rw [List.getElem?_eq_getElem hj, e])
    simp at this
set_option maxRecDepth 100000 in
set_option maxHeartbeats 1000000 in
theorem RHas_any (a : Option Addr) (c : Nat) (ss : List ByteArray) (s : ByteArray) (w : World) (hS : StAt w a ss) (hl : ss.length ≤ 1048576) :
    Calls Tryz.prog 21 #[.slice a ss.length c, .string s] w fun e w' => e = .returned (.bool (Lib.containsS ss s)) ∧ Below w.heap.size w w' := by
  have HS := hid hS
  clear hS
  obtain ⟨N, hN⟩ : ∃ N, ss.length = N := ⟨_, rfl⟩
  have HN := hid hN
  rw [hN] at hl ⊢
  clear hN
  go_enter Tryz.func21, Tryz.ntmps21
  go_wp2_with fail
  go_loop [9] (fun x => ∃ k : Nat, k ≤ N ∧ x = .int .i64 k ∧ Hid (∀ (j : Nat) x, j < k → ss[j]? = some x → (x.toList == s.toList) = false)) (fun x => N - (intOf x).toNat)
  case atStart => exact ⟨0, Nat.zero_le _, rfl, fun j x hj => absurd hj (Nat.not_lt_zero _)⟩
  case round =>
    obtain ⟨k, hk, rfl, HC⟩ := hrel
    by_cases hlt : k < N
    · obtain ⟨x, hx⟩ : ∃ x, ss[k]? = some x := ⟨_, List.getElem?_eq_getElem (by rw [HN.out]; exact hlt)⟩
      rcases HS.out with h0 | ⟨b, off, rfl, hb, hc⟩
      · rw [h0] at hx; cases hx
      have hcell := hc k x hx
      have HX := hid hx
      have hki : (k : Int) < (N : Int) := Int.ofNat_lt.2 hlt
      have hk0 : (0 : Int) ≤ (k : Int) := Int.natCast_nonneg _
      have hkp := nxt_k (Nat.le_trans hk (Nat.le_trans hl (by decide)))
      have hkw := nxt_w (Nat.le_trans hk (Nat.le_trans hl (by decide)))
      clear hc hx
      rcases hs : (x.toList == s.toList) with _ | _
      · go_wp2_with fail
        refine ⟨⟨k + 1, hlt, by go_num, fun j y hj hy => ?_⟩, less_j hlt (by go_num)⟩
        by_cases hjk : j < k
        · exact HC.out j y hjk hy
        · obtain rfl : j = k := by omega
          rw [HX.out] at hy
          cases hy
          exact hs
      · have HT := hid (contains_at HX.out hs)
        go_wp2_with fail
        go_ret
        exact ⟨ret_bool HT.out.symm, Below.refl _ _⟩
    · obtain rfl : k = N := by omega
      have HT := hid (contains_no (s := s) (fun j x hx => HC.out j x (by rw [← HN.out]; exact (List.getElem?_eq_some_iff.1 hx).1) hx))
      go_wp2_with fail
      go_ret
      exact ⟨ret_bool HT.out.symm, Below.refl _ _⟩
set_option maxRecDepth 100000 in
set_option maxHeartbeats 1000000 in
theorem RFind_any' (a : Option Addr) (c : Nat) (vs : List Mv) (n : ByteArray) (w : World) (hM : MsAt w a vs) (hl : vs.length ≤ 1048576) :
    Calls Tryz.prog 17 #[.slice a vs.length c, .string n] w fun e w' => e = .returned (.int .i64 (findV vs n.toList)) ∧ Below w.heap.size w w' := by
  have HM := hid hM
  clear hM
  obtain ⟨N, hN⟩ : ∃ N, vs.length = N := ⟨_, rfl⟩
  have HN := hid hN
  rw [hN] at hl ⊢
  clear hN
  go_enter Tryz.func17, Tryz.ntmps17
  go_wp2_with fail
  go_loopw [9] (fun x wr => ∃ k : Nat, k ≤ N ∧ x = .int .i64 k ∧ Hid (Below w.heap.size w wr ∧ ∀ (j : Nat) u, j < k → vs[j]? = some u → (u.name.toList == n.toList) = false)) (fun x _ => N - (intOf x).toNat)
  case atStart => exact ⟨0, Nat.zero_le _, rfl, Below.refl _ _, fun j x hj => absurd hj (Nat.not_lt_zero _)⟩
  case round =>
    obtain ⟨k, hk, rfl, HC⟩ := hrel
    by_cases hlt : k < N
    · obtain ⟨x, hx⟩ : ∃ x, vs[k]? = some x := ⟨_, List.getElem?_eq_getElem (by rw [HN.out]; exact hlt)⟩
      rcases HM.out with ⟨h0, _⟩ | ⟨b, off, rfl, hb, hc⟩
      · rw [h0] at hx; cases hx
      have hcx : ∀ (i : Nat) v, (encM x)[i]? = some v → wr.cell? ⟨b, off + k * 5 + i, none⟩ = some v := fun i v hv => (HC.out.1.cell (p := ⟨b, _, none⟩) hb).trans (hc k x hx i v hv)
      have c0 := hcx 0 _ rfl
      have c1 := hcx 1 _ rfl
      have c2 := hcx 2 _ rfl
      have c3 := hcx 3 _ rfl
      have c4 := hcx 4 _ rfl
      simp only [Nat.add_zero] at c0
      have HX := hid hx
      have HB2 := hid (HC.out.1.alloc HC.out.1.size (.cells #[.string x.name, .bool x.call, .slice x.pa x.pn x.pc, .bool x.more, .slice x.ba x.bn x.bc] 26))
      have hki : (k : Int) < (N : Int) := Int.ofNat_lt.2 hlt
      have hk0 : (0 : Int) ≤ (k : Int) := Int.natCast_nonneg _
      have hkp := nxt_k (Nat.le_trans hk (Nat.le_trans hl (by decide)))
      have hkw := nxt_w (Nat.le_trans hk (Nat.le_trans hl (by decide)))
      clear hc hx hcx hb
      rcases hs : (x.name.toList == n.toList) with _ | _
      · go_wp2_with fail
        refine ⟨⟨k + 1, hlt, by go_num, HB2.out, fun j y hj hy => ?_⟩, less_j hlt (by go_num)⟩
        by_cases hjk : j < k
        · exact HC.out.2 j y hjk hy
        · obtain rfl : j = k := by omega
          rw [HX.out] at hy
          cases hy
          exact hs
      · have HT : Hid (findV vs n.toList = (k : Int)) := by
          rcases find_spec vs n.toList with ⟨_, ha⟩ | ⟨k', v, h1, h2, h3, h4⟩
          · have := ha x (List.mem_of_getElem? HX.out)
            rw [hs] at this
            cases this
          · have : k' = k := by
              by_cases h : k' < k
              · have := HC.out.2 k' v h h1
                rw [h3] at this
                cases this
              · by_cases h' : k < k'
                · have := h4 k x h' HX.out
                  rw [hs] at this
                  cases this
                · omega
            subst this
            exact h2
        go_wp2_with fail
        go_ret
        exact ⟨ret_int HT.out.symm, HB2.out⟩
    · obtain rfl : k = N := by omega
      have HT : Hid (findV vs n.toList = -1) := by
        rcases find_spec vs n.toList with ⟨h, _⟩ | ⟨k', v, h1, h2, h3, h4⟩
        · exact h
        · have := HC.out.2 k' v (by rw [← HN.out]; exact (List.getElem?_eq_some_iff.1 h1).1) h1
          rw [h3] at this
          cases this
      go_wp2_with fail
      go_ret
      exact ⟨ret_int HT.out.symm, HC.out.1⟩
theorem blk_grown {B : Nat} {a w w2 : World} {g : Nat} (hg : w.grownBy w2 (some g)) (h : Below B a w) (hB : B ≤ w.heap.size) (hr : B ≤ g) : Below B a w2 :=
  h.grown hg hB (fun k e => by cases e; exact hr)
theorem row_grown {B : Nat} {a w w2 : World} {e : TypeId} {size n : Nat} {v : Value} {xs : List Value} (hown : w.ownsRow B e size v n xs) (hg : w.grownBy w2 v.ownBlock) (h : Below B a w) (hB : B ≤ w.heap.size) : Below B a w2 :=
  h.grown hg hB (fun k e => (hown.lt k e).1)
theorem cells_grown {w w2 : World} {b : Nat} {l : List Value} {o : Option Nat} (hg : w.grownBy w2 o) (hlt : b < w.heap.size) (hne : some b ≠ o) (h : ∀ j x, l[j]? = some x → w.cell? ((⟨b, 0, none⟩ : Addr).add j) = some x) :
    ∀ j x, l[j]? = some x → w2.cell? ((⟨b, 0, none⟩ : Addr).add j) = some x := fun j x hx => by
  rw [Addr.add_lit]
  have := h j x hx
  rw [Addr.add_lit] at this
  exact (World.cell?_of_block (a := ⟨b, 0 + j, none⟩) (hg.block b hlt hne)).trans this
theorem cells_alloc {w : World} {a : Addr} {l : List Value} {X : Obj} (h : ∀ j x, l[j]? = some x → w.cell? (a.add j) = some x) : ∀ j x, l[j]? = some x → (w.alloc X).cell? (a.add j) = some x :=
  fun j x hx => Lib.cell?_alloc_some _ (h j x hx)
theorem five_new (w : World) (x : Mv) (T : TypeId) : ∀ j u, (encM x)[j]? = some u → (w.alloc (.cells #[.string x.name, .bool x.call, .slice x.pa x.pn x.pc, .bool x.more, .slice x.ba x.bn x.bc] T)).cell? ((⟨w.heap.size, 0, none⟩ : Addr).add j) = some u := by
  intro j u hu
  rw [Addr.add_lit, Nat.zero_add, Go.Joins.cell_of_block (heap_alloc_new w _), ← Array.getElem?_toList]
  exact hu
theorem row_as {w : World} {base : Nat} {e : TypeId} {size : Nat} {v : Value} {n n' : Nat} {xs xs' : List Value} (h : w.ownsRow base e size v n xs) (hn : n = n') (hx : xs = xs') : w.ownsRow base e size v n' xs' := by subst hn hx; exact h
theorem third_blk (w : World) (X Y Z : Obj) : (((w.alloc X).alloc Y).alloc Z).drew.drew.heap[w.heap.size + 1 + 1]? = some Z := by
  show (((w.alloc X).alloc Y).alloc Z).heap[w.heap.size + 1 + 1]? = some Z
  have := heap_alloc_new ((w.alloc X).alloc Y) Z
  simpa using this
theorem fresh_row {W : World} {B : Nat} {x : Mv} {cs : Array Value} {T : TypeId} (h : W.heap[B]? = some (.cells (#[.string x.name, .bool x.call, .slice x.pa x.pn x.pc, .bool x.more, .slice x.ba x.bn x.bc] ++ cs) T)) : MsAt W (some ⟨B, 0, none⟩) [x] := by
  refine .inr ⟨B, 0, rfl, lt_of_block h, fun j y hy i v hv => ?_⟩
  have hi : i < 5 := by have := (List.getElem?_eq_some_iff.1 hv).1; rwa [encM_length] at this
  cases j with
  | zero =>
    simp at hy
    subst hy
    rw [Go.Joins.cell_of_block h, Nat.zero_mul, Nat.zero_add, Array.getElem?_append_left (by simpa using hi), ← Array.getElem?_toList]
    exact hv
  | succ j => simp at hy
set_option maxRecDepth 100000 in
set_option maxHeartbeats 1000000 in
theorem RDefine_any (a : Option Addr) (c : Nat) (vs : List Mv) (ms : List Mc) (x : Mv) (m : Mc) (w : World) (hM : MsAt w a vs) (hI : MsIs w vs ms) (hx : MIs w x m) (hl : vs.length ≤ 1048575) (hf : ∀ o ∈ ms, Few o) :
    Calls Tryz.prog 14 #[.slice a vs.length c, aggM x] w (DefPost w (defV vs ms x m)) := by
  have hb0 : Below w.heap.size w (w.alloc (.cells #[.string x.name, .bool x.call, .slice x.pa x.pn x.pc, .bool x.more, .slice x.ba x.bn x.bc] 26)) := (Below.refl _ w).alloc (Nat.le_refl _) _
  have HB0 := hid hb0
  have HFi := hid (RFind_any' a c vs x.name _ (hM.below hb0) (by omega))
  have HK0 := hid (heap_alloc_new w (.cells #[.string x.name, .bool x.call, .slice x.pa x.pn x.pc, .bool x.more, .slice x.ba x.bn x.bc] 26))
  have HM := hid hM
  unfold aggM
  rcases find_spec vs x.name.toList with ⟨hfd, _⟩ | ⟨k, v, hk, hfd, _, _⟩
  · rw [defV_new vs ms x m hfd]
    rw [hfd] at HFi
    clear hI hx hf hM hfd hb0
    by_cases h30 : 30 ≤ vs.length
    · rw [if_pos h30]
      have hi30 : (30 : Int) ≤ (vs.length : Int) := by omega
      go_enter Tryz.func14, Tryz.ntmps14
      go_wp2_with fail
      refine HFi.out.mono ?_
      rintro e w1 ⟨rfl, hb1⟩
      have HB1 := hid (HB0.out.trans (hb1.mono HB0.out.size))
      have HK1 := hid ((hb1.block _ (lt_of_block HK0.out)).trans HK0.out)
      clear hb1 HFi HK0 HB0
      go_wp2_with fail
      have hnn : Nonempty (Later w1) := ⟨⟨_, Below.refl _ _⟩⟩
      refine region_later (by kernel_rfl) (by kernel_rfl) ?_
      repeat (first | go_big_quiet_step (fail) | quiet_step (fail))
      refine wpQuiet_nil ?_
      rintro _ ⟨p, rfl⟩
      have HB2 := hid (HB1.out.trans (p.hb.mono HB1.out.size))
      have HK2 := hid ((p.hb.block _ (lt_of_block HK1.out)).trans HK1.out)
      clear hnn
      generalize p.W = w2 at HB2 HK2 ⊢
      go_wp2_with fail
      go_ret2
      exact ⟨none, 0, rfl, .inl ⟨rfl, rfl⟩, HB2.out⟩
    · rw [if_neg h30]
      have hi30 : ¬ (30 : Int) ≤ (vs.length : Int) := by omega
      go_enter Tryz.func14, Tryz.ntmps14
      go_wp2_with fail
      refine HFi.out.mono ?_
      rintro e w1 ⟨rfl, hb1⟩
      have HB1 := hid (HB0.out.trans (hb1.mono HB0.out.size))
      have HK1 := hid ((hb1.block _ (lt_of_block HK0.out)).trans HK0.out)
      clear hb1 HFi HK0 HB0
      go_wp2_with fail
      have hnn : Nonempty (Later w1) := ⟨⟨_, Below.refl _ _⟩⟩
      refine region_later (by kernel_rfl) (by kernel_rfl) ?_
      repeat (first | go_big_quiet_step (fail) | quiet_step (fail))
      refine wpQuiet_nil ?_
      rintro _ ⟨p, rfl⟩
      have HB2 := hid (HB1.out.trans (p.hb.mono HB1.out.size))
      have HK2 := hid ((p.hb.block _ (lt_of_block HK1.out)).trans HK1.out)
      clear hnn
      generalize p.W = w2 at HB2 HK2 ⊢
      obtain ⟨q0, q1, q2, q3, q4⟩ := mac_facts HK2.out
      have HK5 : Hid (∀ W, Below w2.heap.size w2 W → W.cell? ⟨w.heap.size, 0, none⟩ = some (.string x.name) ∧ W.cell? ⟨w.heap.size, 1, none⟩ = some (.bool x.call) ∧ W.cell? ⟨w.heap.size, 2, none⟩ = some (.slice x.pa x.pn x.pc) ∧ W.cell? ⟨w.heap.size, 3, none⟩ = some (.bool x.more) ∧ W.cell? ⟨w.heap.size, 4, none⟩ = some (.slice x.ba x.bn x.bc)) := fun W hW => mac_facts ((hW.block _ (lt_of_block HK2.out)).trans HK2.out)
      obtain ⟨i0, hi, hz0, hz1, hz2⟩ := info_parts info_mac
      rcases HM.out with ⟨hv0, ha0⟩ | ⟨b, off, rfl, hb, hc⟩
      · subst hv0
        subst ha0
        dsimp only [List.length_nil]
        go_wp2_with fail
        go_region_held3 (fun W => W.cell? ⟨w.heap.size, 0, none⟩ = some (.string x.name) ∧ W.cell? ⟨w.heap.size, 1, none⟩ = some (.bool x.call) ∧ W.cell? ⟨w.heap.size, 2, none⟩ = some (.slice x.pa x.pn x.pc) ∧ W.cell? ⟨w.heap.size, 3, none⟩ = some (.bool x.more) ∧ W.cell? ⟨w.heap.size, 4, none⟩ = some (.slice x.ba x.bn x.bc))
          ((refine HK5.out _ ?_; repeat' (first | assumption | exact Below.refl _ _ | apply Below.drew | apply Below.alloc | (simp; done) | (simp; omega))))
          ((first | (refine step_append_none (by rfl) _ _ 23 (by rfl) 26 i0 Tryz.underlying23 hi _ 0 0 c (by rfl) (by rfl) (Nat.le_refl _) ?_) | (refine step_append_any (by rfl) _ _ 23 (by rfl) w2.heap.size 26 i0 _ 5 80 Tryz.underlying23 hi hz0 hz1 hz2 (by rfl) (by decide) _ 0 [] (by rfl) (by first | exact (World.ownsRow_made w2 #[] 0 (Nat.le_refl _) (by decide) rfl).alloc _ | exact World.ownsRow_made w2 #[] 0 (Nat.le_refl _) (by decide) rfl | (have := World.ownsRow_made (base := w2.heap.size) (e := 26) (size := 5) (w2.alloc (.cells #[.string x.name, .bool x.call, .slice x.pa x.pn x.pc, .bool x.more, .slice x.ba x.bn x.bc] 26)) #[] 0 (by simp) (by decide) rfl; rw [World.size_alloc] at this; exact this)) _ _ _ (encM x) (by rfl) (by rfl) (by first | (have := five_new (w2.alloc (.cells #[] 26)) x 26; rw [World.size_alloc] at this; exact this) | exact cells_alloc (five_new w2 x 26)) (encM_one x) (by unfold maxLen; omega) (by omega) (by first | (simp; done) | (simp; omega)) ?_; intro v4 w4 hown4 hg4 _; have hb4 : Below w2.heap.size w2 w4 := row_grown (by first | exact (World.ownsRow_made w2 #[] 0 (Nat.le_refl _) (by decide) rfl).alloc _ | exact World.ownsRow_made w2 #[] 0 (Nat.le_refl _) (by decide) rfl | (have := World.ownsRow_made (base := w2.heap.size) (e := 26) (size := 5) (w2.alloc (.cells #[.string x.name, .bool x.call, .slice x.pa x.pn x.pc, .bool x.more, .slice x.ba x.bn x.bc] 26)) #[] 0 (by simp) (by decide) rfl; rw [World.size_alloc] at this; exact this)) hg4 (by repeat' (first | assumption | exact Below.refl _ _ | apply Below.drew | apply Below.alloc | (simp; done) | (simp; omega))) (by first | (simp; done) | (simp; omega)))))
        all_goals go_wp2_with fail
        all_goals first
          | (obtain ⟨a', c', hv4, hMA⟩ := MsAt.of_row (vs := [x]) (row_as hown4 (by simp) (by simp [cellsM])); subst hv4; go_ret2; exact ⟨a', c', rfl, hMA, HB2.out.trans (hb4.mono HB2.out.size)⟩)
          | (go_ret2; exact ⟨_, _, rfl, fresh_row (third_blk w2 _ _ _), ((((HB2.out.alloc HB2.out.size _).alloc (by have := HB2.out.size; simp; omega) _).alloc (by have := HB2.out.size; simp; omega) _).drew).drew⟩)
      · have HPt : Hid (∀ W, Below w2.heap.size w2 W → ∀ (j : Nat) u, (cellsM vs)[j]? = some u → W.cell? ((⟨b, off, none⟩ : Addr).add j) = some u) := fun W hW j u hu => by
          rw [Addr.add_lit]
          exact ((HB2.out.trans (hW.mono HB2.out.size)).cell (p := ⟨b, off + j, none⟩) hb).trans (MsAt.news hc j u hu)
        clear hc
        go_wp2_with fail
        go_region_held3 (fun W => W.cell? ⟨w.heap.size, 0, none⟩ = some (.string x.name) ∧ W.cell? ⟨w.heap.size, 1, none⟩ = some (.bool x.call) ∧ W.cell? ⟨w.heap.size, 2, none⟩ = some (.slice x.pa x.pn x.pc) ∧ W.cell? ⟨w.heap.size, 3, none⟩ = some (.bool x.more) ∧ W.cell? ⟨w.heap.size, 4, none⟩ = some (.slice x.ba x.bn x.bc))
          ((refine HK5.out _ ?_; repeat' (first | assumption | exact Below.refl _ _ | exact hb3.size | exact hb4.size | apply Below.drew | apply Below.alloc | (simp; done) | (simp; omega))))
          ((first | (refine step_append_lit (by rfl) _ _ 23 (by rfl) w2.heap.size 26 i0 _ 5 80 Tryz.underlying23 hi hz0 hz1 hz2 (by rfl) (by decide) _ (by rfl) (by first | exact (World.ownsRow_made w2 #[] 0 (Nat.le_refl _) (by decide) rfl).alloc _ | exact World.ownsRow_made w2 #[] 0 (Nat.le_refl _) (by decide) rfl | (have := World.ownsRow_made (base := w2.heap.size) (e := 26) (size := 5) (w2.alloc (.cells #[.string x.name, .bool x.call, .slice x.pa x.pn x.pc, .bool x.more, .slice x.ba x.bn x.bc] 26)) #[] 0 (by simp) (by decide) rfl; rw [World.size_alloc] at this; exact this)) _ _ _ (cellsM vs) (by rfl) (by rw [cellsM_length]) (HPt.out _ (by repeat' (first | assumption | exact Below.refl _ _ | exact hb3.size | exact hb4.size | apply Below.drew | apply Below.alloc | (simp; done) | (simp; omega)))) (cellsM_cell _) (by unfold maxLen; omega) (by omega) (by first | (simp; done) | (simp; omega) | exact hb3.size | exact hb4.size | (have := hb3.size; simp; omega)) ?_; intro g3 c3 w3 hown3 hg3; have hb3 : Below w2.heap.size w2 w3 := blk_grown hg3 (by repeat' (first | assumption | exact Below.refl _ _ | exact hb3.size | exact hb4.size | apply Below.drew | apply Below.alloc | (simp; done) | (simp; omega))) (by first | (simp; done) | (simp; omega) | exact hb3.size | exact hb4.size | (have := hb3.size; simp; omega)) (by first | (simp; done) | (simp; omega))) | (refine step_append_any (by rfl) _ _ 23 (by rfl) w2.heap.size 26 i0 _ 5 80 Tryz.underlying23 hi hz0 hz1 hz2 (by rfl) (by decide) _ _ _ (by rfl) (by first | exact hown3 | exact hown3.alloc _) _ _ _ (encM x) (by rfl) (by rfl) (by first | exact five_new w3 x _ | (refine cells_grown hg3 (by first | (simp; done) | (simp; omega)) (by simp) ?_; first | (have := five_new (w2.alloc (.cells #[] 26)) x 26; rw [World.size_alloc] at this; exact this) | exact cells_alloc (five_new w2 x 26))) (encM_one x) (by unfold maxLen; omega) (by omega) (by first | (simp; done) | (simp; omega) | exact hb3.size | exact hb4.size | (have := hb3.size; simp; omega)) ?_; intro v4 w4 hown4 hg4 _; have hb4 : Below w2.heap.size w2 w4 := row_grown (by first | exact hown3 | exact hown3.alloc _) hg4 (by repeat' (first | assumption | exact Below.refl _ _ | exact hb3.size | exact hb4.size | apply Below.drew | apply Below.alloc | (simp; done) | (simp; omega))) (by first | (simp; done) | (simp; omega) | exact hb3.size | exact hb4.size | (have := hb3.size; simp; omega)))))
        all_goals go_wp2_with fail
        all_goals obtain ⟨a', c', hv4, hMA⟩ := MsAt.of_row (vs := vs ++ [x]) (row_as hown4 (by simp) (by simp [cellsM]))
        all_goals subst hv4
        all_goals go_ret2
        all_goals exact ⟨a', c', rfl, hMA, HB2.out.trans (hb4.mono HB2.out.size)⟩
  · have hkl : k < vs.length := (List.getElem?_eq_some_iff.1 hk).1
    obtain ⟨o, ho⟩ : ∃ o, ms[k]? = some o := ⟨_, List.getElem?_eq_getElem (by rw [← hI.1]; exact hkl)⟩
    rw [defV_old vs ms x m k o hfd ho]
    rw [hfd] at HFi
    have HSa := hid (fun W (h : Below w.heap.size w W) => RSame_any v x o m W ((hI.2 k v o hk ho).below h) (hx.below h) (hf o (List.mem_of_getElem? ho)))
    unfold aggM at HSa
    rcases hM with ⟨hv0, _⟩ | ⟨b, off, rfl, hb, hc⟩
    · rw [hv0] at hk; cases hk
    have hcv := hc k v hk
    have hki : (k : Int) < (vs.length : Int) := by omega
    have hk0 : (0 : Int) ≤ (k : Int) := by omega
    clear hI hx hf hfd hb0 hc hk ho
    rcases hsb : sameM o m with _ | _
    · rw [hsb] at HSa
      rw [if_neg (by decide)]
      go_enter Tryz.func14, Tryz.ntmps14
      go_wp2_with fail
      refine HFi.out.mono ?_
      rintro e w1 ⟨rfl, hb1⟩
      have HB1 := hid (HB0.out.trans (hb1.mono HB0.out.size))
      have hbx := (hb1.block w.heap.size (by simp)).trans (heap_alloc_new w _)
      clear hb1
      have hcw : ∀ (i : Nat) u, (encM v)[i]? = some u → w1.cell? ⟨b, off + k * 5 + i, none⟩ = some u := fun i u hu => (HB1.out.cell (p := ⟨b, _, none⟩) hb).trans (hcv i u hu)
      obtain ⟨q0, q1, q2, q3, q4⟩ := mac_facts hbx
      have r0 := Later.cell (hcw 0 _ rfl)
      have r1 := Later.cell (hcw 1 _ rfl)
      have r2 := Later.cell (hcw 2 _ rfl)
      have r3 := Later.cell (hcw 3 _ rfl)
      have r4 := Later.cell (hcw 4 _ rfl)
      simp only [Nat.add_zero] at r0
      have u0 := Later.cell q0
      have u1 := Later.cell q1
      have u2 := Later.cell q2
      have u3 := Later.cell q3
      have u4 := Later.cell q4
      clear hcw hcv q0 q1 q2 q3 q4
      have hnn : Nonempty (Later w1) := ⟨⟨_, Below.refl _ _⟩⟩
      have HSL : Hid (∀ p : Later w1, Below w.heap.size w p.W) := fun p => HB1.out.trans (p.hb.mono HB1.out.size)
      go_wp2_with fail
      refine region_later (by kernel_rfl) (by kernel_rfl) ?_
      repeat (quiet_step ((go_at_call 12; exact Calls.later (HSa.out _ (HSL.out _)))))
      refine wpQuiet_nil ?_
      rintro _ ⟨p, rfl⟩
      have HB2 := hid (HSL.out p)
      clear r0 r1 r2 r3 r4 u0 u1 u2 u3 u4 hnn HSL HSa
      generalize p.W = w2 at HB2 ⊢
      go_wp2_with fail
      go_ret2
      exact ⟨none, 0, rfl, .inl ⟨rfl, rfl⟩, HB2.out⟩
    · rw [hsb] at HSa
      rw [if_pos rfl]
      go_enter Tryz.func14, Tryz.ntmps14
      go_wp2_with fail
      refine HFi.out.mono ?_
      rintro e w1 ⟨rfl, hb1⟩
      have HB1 := hid (HB0.out.trans (hb1.mono HB0.out.size))
      have hbx := (hb1.block w.heap.size (by simp)).trans (heap_alloc_new w _)
      clear hb1
      have hcw : ∀ (i : Nat) u, (encM v)[i]? = some u → w1.cell? ⟨b, off + k * 5 + i, none⟩ = some u := fun i u hu => (HB1.out.cell (p := ⟨b, _, none⟩) hb).trans (hcv i u hu)
      obtain ⟨q0, q1, q2, q3, q4⟩ := mac_facts hbx
      have r0 := Later.cell (hcw 0 _ rfl)
      have r1 := Later.cell (hcw 1 _ rfl)
      have r2 := Later.cell (hcw 2 _ rfl)
      have r3 := Later.cell (hcw 3 _ rfl)
      have r4 := Later.cell (hcw 4 _ rfl)
      simp only [Nat.add_zero] at r0
      have u0 := Later.cell q0
      have u1 := Later.cell q1
      have u2 := Later.cell q2
      have u3 := Later.cell q3
      have u4 := Later.cell q4
      clear hcw hcv q0 q1 q2 q3 q4
      have hnn : Nonempty (Later w1) := ⟨⟨_, Below.refl _ _⟩⟩
      have HSL : Hid (∀ p : Later w1, Below w.heap.size w p.W) := fun p => HB1.out.trans (p.hb.mono HB1.out.size)
      go_wp2_with fail
      refine region_later (by kernel_rfl) (by kernel_rfl) ?_
      repeat (quiet_step ((go_at_call 12; exact Calls.later (HSa.out _ (HSL.out _)))))
      refine wpQuiet_nil ?_
      rintro _ ⟨p, rfl⟩
      have HB2 := hid (HSL.out p)
      clear r0 r1 r2 r3 r4 u0 u1 u2 u3 u4 hnn HSL HSa
      generalize p.W = w2 at HB2 ⊢
      go_wp2_with fail
      go_ret2
      exact ⟨_, _, rfl, HM.out.below HB2.out, HB2.out⟩
end
section
open Go.RowKit Go.Shelf

def FBy (w : World) (B : Nat) (e f g : Int) : Prop := w.heap[B]? = some (.cells #[.int .i64 e, .int .i64 f, .int .i64 g] 29)
theorem FBy.facts {w : World} {B : Nat} {e f g : Int} (h : FBy w B e f g) :
    w.cell? ⟨B, 0, none⟩ = some (.int .i64 e) ∧ w.cell? ⟨B, 1, none⟩ = some (.int .i64 f) ∧ w.cell? ⟨B, 2, none⟩ = some (.int .i64 g) ∧ w.frozen? ⟨B, 0, none⟩ = false ∧ w.frozen? ⟨B, 1, none⟩ = false ∧ w.frozen? ⟨B, 2, none⟩ = false := by
  unfold FBy at h
  simp [World.cell?, World.frozen?, h]
theorem FBy.new (w : World) (e f g : Int) : FBy (w.alloc (.cells #[.int .i64 e, .int .i64 f, .int .i64 g] 29)) w.heap.size e f g := heap_alloc_new w _
theorem FBy.below {w w' : World} {B : Nat} {e f g : Int} (h : FBy w B e f g) (hb : Below w.heap.size w w') : FBy w' B e f g := (hb.block B (lt_of_block h)).trans h
theorem FBy.set {w : World} {B : Nat} {e f g : Int} (h : FBy w B e f g) (e' f' g' : Int) :
    FBy (((w.setCell ⟨B, 0, none⟩ (.int .i64 e')).setCell ⟨B, 1, none⟩ (.int .i64 f')).setCell ⟨B, 2, none⟩ (.int .i64 g')) B e' f' g' := by
  have h1 := Go.Joins.block_setCell (i := 0) h (.int .i64 e')
  have h2 := Go.Joins.block_setCell (i := 1) h1 (.int .i64 f')
  have h3 := Go.Joins.block_setCell (i := 2) h2 (.int .i64 g')
  unfold FBy
  simpa using h3
theorem FBy.frame {w w1 : World} {base B : Nat} (hb : Below base w w1) (hB : base ≤ B) (u v x : Value) : Below base w (((w1.setCell ⟨B, 0, none⟩ u).setCell ⟨B, 1, none⟩ v).setCell ⟨B, 2, none⟩ x) :=
  ((hb.setCell (p := ⟨B, 0, none⟩) hB u).setCell (p := ⟨B, 1, none⟩) hB v).setCell (p := ⟨B, 2, none⟩) hB x
theorem rat_ret {W : World} {F : Nat} {e f g : Int} (hF : FBy W F e f g) (tmps : Array Value) (h3 : tmps.getD 6 undef = .pointer (some ⟨F, 0, none⟩)) :
    (results Tryz.f32 tmps).run Tryz.prog W = .ok (.agg #[.int .i64 e, .int .i64 f, .int .i64 g]) W := by
  obtain ⟨c0, c1, c2, _⟩ := hF.facts
  simp at h3
  simp [results, Tryz.results32, go_sem, h3, c0, c1, c2]

set_option maxRecDepth 100000 in
set_option maxHeartbeats 1000000 in
/-- At: where token i stands; behind the last one, if there is none. -/
theorem rat_any (a : Option Addr) (c : Nat) (ts : List Tk) (i : Nat) (e0 : Int) (w : World) (hT : TAt w a ts) (hl : ts.length ≤ 1048576) :
    Calls Tryz.prog 32 #[.slice a ts.length c, .int .i64 (i : Int), .int .i64 e0] w fun e w' => e = .returned (.agg #[.int .i64 e0, .int .i64 (tokAt ts i).file, .int .i64 (tokAt ts i).lo]) ∧ Below w.heap.size w w' := by
  have hi0 : (0 : Int) ≤ (i : Int) := by omega
  by_cases hlt : i < ts.length
  · rcases hT with h0 | ⟨bb, off, rfl, hbb, hc⟩
    · rw [h0] at hlt; simp at hlt
    have hx : ts[i]? = some ts[i] := List.getElem?_eq_getElem hlt
    have hcx := hc i _ hx
    have HP : Hid (tokAt ts i = ts[i]) := tokAt_in hx
    generalize ts[i] = t at hcx HP
    obtain ⟨tk, tt, tsp, tfi, tf, tl, th, tn⟩ := t
    have c4 := hcx 4 _ rfl
    have c5 := hcx 5 _ rfl
    rw [HP.out]
    have hii : (i : Int) < (ts.length : Int) := by omega
    have HK : Hid (∀ W, Below w.heap.size w W → W.cell? ⟨bb, off + i * 11 + 4, none⟩ = some (.int .i64 tf) ∧ W.cell? ⟨bb, off + i * 11 + 5, none⟩ = some (.int .i64 tl)) := fun W hW =>
      ⟨(hW.cell (p := ⟨bb, _, none⟩) hbb).trans c4, (hW.cell (p := ⟨bb, _, none⟩) hbb).trans c5⟩
    obtain ⟨z0, z1, z2, z3, z4, z5⟩ := (FBy.new w 0 0 0).facts
    clear hcx hx hc HP
    go_enter Tryz.func32, Tryz.ntmps32
    go_wp2_with fail
    go_region_held3 (fun W => W.cell? ⟨bb, off + i * 11 + 4, none⟩ = some (.int .i64 tf) ∧ W.cell? ⟨bb, off + i * 11 + 5, none⟩ = some (.int .i64 tl))
      (exact HK.out _ (by repeat' (first | exact Below.refl _ _ | apply Below.drew | apply Below.setCell | apply Below.alloc | (simp; done))))
      (fail)
    all_goals go_wp2_with fail
    all_goals (have HF : FBy (w.alloc (.cells #[.int .i64 e0, .int .i64 tf, .int .i64 tl] 29)).drew w.heap.size e0 tf tl := FBy.new w e0 tf tl)
    all_goals exact bodyPost_ret (rat_ret HF _ rfl) rfl ⟨rfl, ((Below.refl _ w).alloc (Nat.le_refl _) _).drew⟩
  · rcases hn : ts.length with _ | n
    · have hts : ts = [] := List.eq_nil_of_length_eq_zero hn
      subst hts
      have hp : tokAt [] i = ⟨0, ⟨#[]⟩, false, false, -1, 0, 0, 0⟩ := by rw [tokAt_out (by simp)]; rfl
      rw [hp]
      clear hn hlt hp
      obtain ⟨z0, z1, z2, z3, z4, z5⟩ := (FBy.new w 0 0 0).facts
      have hnl : ¬ ((i : Int) < 0) := by omega
      go_enter Tryz.func32, Tryz.ntmps32
      go_wp2_with fail
      exact bodyPost_ret (rat_ret (FBy.new w e0 (-1) 0) _ rfl) rfl ⟨rfl, (Below.refl _ w).alloc (Nat.le_refl _) _⟩
    · rcases hT with h0 | ⟨bb, off, rfl, hbb, hc⟩
      · rw [h0] at hn; simp at hn
      have hx : ts[n]? = some (ts[n]'(by omega)) := List.getElem?_eq_getElem _
      have hcx := hc n _ hx
      have HP : Hid (tokAt ts i = ⟨0, ⟨#[]⟩, false, false, (ts[n]'(by omega)).file, (ts[n]'(by omega)).hi, 0, 0⟩) := by
        show _ = _
        rw [tokAt_out (by omega)]
        unfold endTk
        have : ts.getLast? = ts[n]? := by rw [List.getLast?_eq_getElem?, show ts.length - 1 = n by omega]
        rw [this, hx]
      generalize ts[n]'(by omega) = t at hcx HP
      obtain ⟨tk, tt, tsp, tfi, tf, tl, th, tn⟩ := t
      have c0 := hcx 0 _ rfl
      have c1 := hcx 1 _ rfl
      have c2 := hcx 2 _ rfl
      have c3 := hcx 3 _ rfl
      have c4 := hcx 4 _ rfl
      have c5 := hcx 5 _ rfl
      have c6 := hcx 6 _ rfl
      have c7 := hcx 7 _ rfl
      have c8 := hcx 8 _ rfl
      have c9 := hcx 9 _ rfl
      have c10 := hcx 10 _ rfl
      simp only [Nat.add_zero] at c0
      rw [HP.out]
      obtain ⟨N, hN⟩ : ∃ N, n + 1 = N := ⟨_, rfl⟩
      rw [hN]
      have hwn : IntKind.i64.wrap ((N : Int) - 1) = (n : Int) := by rw [IntKind.wrap_i64]; omega
      have hn0 : (0 : Int) ≤ (n : Int) := by omega
      have hnN : (n : Int) < (N : Int) := by omega
      have hnN2 : n < N := by omega
      have hN0 : (0 : Int) < (N : Int) := by omega
      have hnl : ¬ ((i : Int) < (N : Int)) := by omega
      obtain ⟨z0, z1, z2, z3, z4, z5⟩ := (FBy.new w 0 0 0).facts
      clear hcx hx hc HP hn hN hlt hl
      go_enter Tryz.func32, Tryz.ntmps32
      go_wp2_with fail
      exact bodyPost_ret (rat_ret ((FBy.new w e0 tf th).below ((Below.refl _ _).alloc (Nat.le_refl _) _)) _ rfl) rfl ⟨rfl, ((Below.refl _ w).alloc (Nat.le_refl _) _).alloc (by simp) _⟩
end
end Go.Proofs.YtedmcefckcmheaaGreatDoor
