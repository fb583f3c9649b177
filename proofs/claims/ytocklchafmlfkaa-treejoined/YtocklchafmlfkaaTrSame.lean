/- Walk of the document's own Same: a tree is the same as itself. -/
import Derived.Test.YtocklchafmlfkaaTgI
namespace Go.Proofs.Ytocklchafmlfkaa
open Go.RowKit Go.Shelf

set_option maxRecDepth 100000 in
set_option maxHeartbeats 2000000 in
theorem same_any : ∀ (f : Nat) (n : Nd), szN n ≤ f → ∀ (x y : Nv) (P Q : Nat → Prop) (w : World), NdIs w P x n → NdIs w Q y n →
    Calls Try.prog 10 #[aggN x, aggN y] w fun e w' => e = .returned (.bool true) ∧ Below w.heap.size w w'
  | 0, n, hf, _, _, _, _, _, _, _ => by obtain ⟨k, t, ks⟩ := n; rw [szN_mk] at hf; omega
  | f + 1, n, hf, x, y, P, Q, w, hx, hy => by
    obtain ⟨k, tok, ks⟩ := n
    rw [szN_mk] at hf
    obtain ⟨xk, xt, xa, xn, xc⟩ := x
    obtain ⟨yk, yt, ya, yn, yc⟩ := y
    have hx1 : xk = k := hx.kind
    have hx2 : xt = tok := hx.tok
    have hx3 : xn = ks.length := hx.len
    have hy1 : yk = k := hy.kind
    have hy2 : yt = tok := hy.tok
    have hy3 : yn = ks.length := hy.len
    subst hx1 hx2 hx3 hy1 hy2 hy3
    have hKx : KidsAt w P (.slice xa ks.length xc) ks := hx.kids
    have hKy : KidsAt w Q (.slice ya ks.length yc) ks := hy.kids
    have hb0 : Below w.heap.size w ((w.alloc (boxN ⟨yk, yt, xa, ks.length, xc⟩)).alloc (boxN ⟨yk, yt, ya, ks.length, yc⟩)) := (below_new w _).trans ((below_new _ _).mono (by simp))
    have HB0 := hid hb0
    have hz0 : w.heap.size + 1 < ((w.alloc (boxN ⟨yk, yt, xa, ks.length, xc⟩)).alloc (boxN ⟨yk, yt, ya, ks.length, yc⟩)).heap.size := by simp
    have HX0 : Hid (((w.alloc (boxN ⟨yk, yt, xa, ks.length, xc⟩)).alloc (boxN ⟨yk, yt, ya, ks.length, yc⟩)).heap[w.heap.size]? = some (boxN ⟨yk, yt, xa, ks.length, xc⟩)) := ((below_new _ _).block _ (by simp)).trans (heap_alloc_new w _)
    have HY0 : Hid (((w.alloc (boxN ⟨yk, yt, xa, ks.length, xc⟩)).alloc (boxN ⟨yk, yt, ya, ks.length, yc⟩)).heap[w.heap.size + 1]? = some (boxN ⟨yk, yt, ya, ks.length, yc⟩)) := by
      have := heap_alloc_new (w.alloc (boxN ⟨yk, yt, xa, ks.length, xc⟩)) (boxN ⟨yk, yt, ya, ks.length, yc⟩)
      rwa [World.size_alloc] at this
    have HKx := hid (hKx.kept fun b _ hlt => hb0.block b hlt)
    have HKy := hid (hKy.kept fun b _ hlt => hb0.block b hlt)
    unfold aggN
    dsimp only [boxN] at HB0 HX0 HY0 HKx HKy hz0 ⊢
    clear hKx hKy hx hy hb0
    go_enter Try.func10, Try.ntmps10
    go_wp2_with fail
    generalize (w.alloc (.cells #[.int .i64 yk, .int .i64 yt, .slice xa ks.length xc] 27)).alloc (.cells #[.int .i64 yk, .int .i64 yt, .slice ya ks.length yc] 27) = w0 at *
    go_loopw [30] (fun v wr => ∃ j : Nat, j ≤ ks.length ∧ v = .int .i64 (j : Int) ∧ Hid (Below w0.heap.size w0 wr)) (fun v _ => ks.length - (intOf v).toNat)
    case atStart => exact ⟨0, Nat.zero_le _, rfl, Below.refl _ _⟩
    case round =>
      obtain ⟨j, hj, rfl, hst⟩ := hrel
      by_cases hjl : j < ks.length
      · have hji : (j : Int) < (ks.length : Int) := by omega
        have hj0 : (0 : Int) ≤ (j : Int) := by omega
        obtain ⟨kd, hkd⟩ : ∃ kd, ks[j]? = some kd := ⟨_, List.getElem?_eq_getElem hjl⟩
        have hb := hst.out
        obtain ⟨g, y1, ea, _, hgl, _, hnc, hcm, hy1, e0, e1, e2⟩ := kid_cell (HKx.out.kept fun b _ hlt => hb.block b hlt) j kd hkd
        cases ea
        obtain ⟨g2, y2, ea, _, hgl2, _, hnc2, hcm2, hy2, f0, f1, f2⟩ := kid_cell (HKy.out.kept fun b _ hlt => hb.block b hlt) j kd hkd
        cases ea
        have hw2 : IntKind.i64.wrap ((j : Int) + 1) = (j : Int) + 1 := wrap_next (by omega) hcm
        have hzr := hb.size
        have hBx := (hb.block _ (by omega)).trans HX0.out
        have hBy := (hb.block _ (by omega)).trans HY0.out
        have HSt := hid (fun W (hW : Below wr.heap.size wr W) => (show (W.cell? ⟨w.heap.size, 2, none⟩ = some (.slice (some ⟨g, 0, none⟩) ks.length xc) ∧ W.cell? ⟨w.heap.size + 1, 2, none⟩ = some (.slice (some ⟨g2, 0, none⟩) ks.length yc)) ∧ (W.cell? ⟨g, j * 3, none⟩ = some (.int .i64 y1.kind) ∧ W.cell? ⟨g, j * 3 + 1, none⟩ = some (.int .i64 y1.tok) ∧ W.cell? ⟨g, j * 3 + 2, none⟩ = some (.slice y1.a y1.n y1.c)) ∧ (W.cell? ⟨g2, j * 3, none⟩ = some (.int .i64 y2.kind) ∧ W.cell? ⟨g2, j * 3 + 1, none⟩ = some (.int .i64 y2.tok) ∧ W.cell? ⟨g2, j * 3 + 2, none⟩ = some (.slice y2.a y2.n y2.c)) from
          ⟨⟨(boxN_facts (x := ⟨yk, yt, some ⟨g, 0, none⟩, ks.length, xc⟩) ((hW.block _ (by omega)).trans hBx)).1.2.2, (boxN_facts (x := ⟨yk, yt, some ⟨g2, 0, none⟩, ks.length, yc⟩) ((hW.block _ (by omega)).trans hBy)).1.2.2⟩, ⟨(hW.cell (p := ⟨g, _, none⟩) hgl).trans e0, (hW.cell (p := ⟨g, _, none⟩) hgl).trans e1, (hW.cell (p := ⟨g, _, none⟩) hgl).trans e2⟩, ⟨(hW.cell (p := ⟨g2, _, none⟩) hgl2).trans f0, (hW.cell (p := ⟨g2, _, none⟩) hgl2).trans f1, (hW.cell (p := ⟨g2, _, none⟩) hgl2).trans f2⟩⟩))
        have HI := hid (fun W (hW : Below wr.heap.size wr W) => same_any f kd (by have := szL_at ks j kd hkd; omega) y1 y2 P Q W (hy1.kept fun b _ hlt => hW.block b hlt) (hy2.kept fun b _ hlt => hW.block b hlt))
        unfold aggN at HI
        clear e0 e1 e2 f0 f1 f2 hy1 hy2 hBx hBy hb
        go_wp2_with fail
        refine wp_region_held_drew (S := fun W => (W.cell? ⟨w.heap.size, 2, none⟩ = some (.slice (some ⟨g, 0, none⟩) ks.length xc) ∧ W.cell? ⟨w.heap.size + 1, 2, none⟩ = some (.slice (some ⟨g2, 0, none⟩) ks.length yc)) ∧ (W.cell? ⟨g, j * 3, none⟩ = some (.int .i64 y1.kind) ∧ W.cell? ⟨g, j * 3 + 1, none⟩ = some (.int .i64 y1.tok) ∧ W.cell? ⟨g, j * 3 + 2, none⟩ = some (.slice y1.a y1.n y1.c)) ∧ (W.cell? ⟨g2, j * 3, none⟩ = some (.int .i64 y2.kind) ∧ W.cell? ⟨g2, j * 3 + 1, none⟩ = some (.int .i64 y2.tok) ∧ W.cell? ⟨g2, j * 3 + 2, none⟩ = some (.slice y2.a y2.n y2.c))) (by kernel_rfl) (HSt.out _ (Below.refl _ _).drew) (fun hHeld => ?_)
        refine wpAnyH_take (i := 0) (v := .pointer (some ⟨w.heap.size, 2, none⟩)) rfl (by kernel_rfl) (by kernel_rfl) (by kernel_rfl) (fun _ _ _ h => h) (Or.inl ⟨by rfl, ?_⟩) hHeld ?_
        · intro W hSw
          try dsimp only at hSw
          go_simp
        refine wpAnyH_take (i := 1) (v := .slice (some ⟨g, 0, none⟩) ks.length xc) rfl (by kernel_rfl) (by kernel_rfl) (by kernel_rfl) (fun _ _ _ h => h) (Or.inl ⟨by rfl, ?_⟩) hHeld ?_
        · intro W hSw
          try dsimp only at hSw
          go_simp
        refine wpAnyH_take (i := 2) (v := .int .i64 (j : Int)) rfl (by kernel_rfl) (by kernel_rfl) (by kernel_rfl) (fun _ _ _ h => h) (Or.inl ⟨by rfl, ?_⟩) hHeld ?_
        · intro W hSw
          try dsimp only at hSw
          go_simp
        refine wpAnyH_take (i := 3) (v := .pointer (some ⟨g, j * 3, none⟩)) rfl (by kernel_rfl) (by kernel_rfl) (by kernel_rfl) (fun _ _ _ h => h) (Or.inl ⟨by rfl, ?_⟩) hHeld ?_
        · intro W hSw
          try dsimp only at hSw
          go_simp
        refine wpAnyH_take (i := 4) (v := .agg #[.int .i64 y1.kind, .int .i64 y1.tok, .slice y1.a y1.n y1.c]) rfl (by kernel_rfl) (by kernel_rfl) (by kernel_rfl) (fun _ _ _ h => h) (Or.inl ⟨by rfl, ?_⟩) hHeld ?_
        · intro W hSw
          try dsimp only at hSw
          go_simp
        refine wpAnyH_take (i := 5) (v := .pointer (some ⟨w.heap.size + 1, 2, none⟩)) rfl (by kernel_rfl) (by kernel_rfl) (by kernel_rfl) (fun _ _ _ h => h) (Or.inl ⟨by rfl, ?_⟩) hHeld ?_
        · intro W hSw
          try dsimp only at hSw
          go_simp
        refine wpAnyH_take (i := 6) (v := .slice (some ⟨g2, 0, none⟩) ks.length yc) rfl (by kernel_rfl) (by kernel_rfl) (by kernel_rfl) (fun _ _ _ h => h) (Or.inl ⟨by rfl, ?_⟩) hHeld ?_
        · intro W hSw
          try dsimp only at hSw
          go_simp
        refine wpAnyH_take (i := 7) (v := .int .i64 (j : Int)) rfl (by kernel_rfl) (by kernel_rfl) (by kernel_rfl) (fun _ _ _ h => h) (Or.inl ⟨by rfl, ?_⟩) hHeld ?_
        · intro W hSw
          try dsimp only at hSw
          go_simp
        refine wpAnyH_take (i := 8) (v := .pointer (some ⟨g2, j * 3, none⟩)) rfl (by kernel_rfl) (by kernel_rfl) (by kernel_rfl) (fun _ _ _ h => h) (Or.inl ⟨by rfl, ?_⟩) hHeld ?_
        · intro W hSw
          try dsimp only at hSw
          go_simp
        refine wpAnyH_take (i := 9) (v := .agg #[.int .i64 y2.kind, .int .i64 y2.tok, .slice y2.a y2.n y2.c]) rfl (by kernel_rfl) (by kernel_rfl) (by kernel_rfl) (fun _ _ _ h => h) (Or.inl ⟨by rfl, ?_⟩) hHeld ?_
        · intro W hSw
          try dsimp only at hSw
          go_simp
        refine wpAnyH_ready (rs := [10]) (by kernel_rfl) (by simp) (AllReadyH.cons rfl (fun K hK => ?_) AllReadyH.nil)
        go_simp
        go_wp2_with (go_at_call 10; refine (HI.out _ (Below.refl _ _).drew).mono ?_; rintro e w5 ⟨rfl, hb5⟩)
        have hb15 : Below wr.heap.size wr w5 := (Below.refl _ _).drew.trans hb5
        have HB5 := hid (hst.out.trans (hb15.mono hzr))
        refine hK.out _ _ (HSt.out _ hb15) (fun hHeld => ?_)
        clear hK K hb5
        refine wpAnyH_ready (rs := [11]) (by kernel_rfl) (by simp) (AllReadyH.cons rfl (fun K hK => ?_) AllReadyH.nil)
        go_simp
        refine hK.out _ _ (HSt.out _ hb15) (fun hHeld => ?_)
        clear hK K hb15 HI HSt
        refine wpAnyH_done (by kernel_rfl) ?_ _
        go_wp2_with fail
        go_roundw
        case rel => exact ⟨j + 1, by omega, rfl, HB5⟩
        case measure => simp [intOf]; omega
      · have hjk : j = ks.length := by omega
        subst hjk
        have hji : ¬ ((ks.length : Int) < (ks.length : Int)) := by omega
        have HBf := hid (HB0.out.trans (hst.out.mono HB0.out.size))
        go_wp2_with fail
        go_ret
        exact ⟨rfl, HBf.out⟩
end Go.Proofs.Ytocklchafmlfkaa
