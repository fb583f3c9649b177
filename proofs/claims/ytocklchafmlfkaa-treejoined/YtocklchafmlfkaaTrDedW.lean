/- Walk of declared. -/
import Derived.Test.YtocklchafmlfkaaTgD
namespace Go.Proofs.Ytocklchafmlfkaa
open Go.RowKit Go.Shelf

/-- The node that is made, in its block, with its own row. -/
structure DdRow (base r : Nat) (P : Nat → Prop) (w : World) (Bn : Nat) (ks : List Nd) (nvs : List Nv) (g0 c0 : Nat) (W : World) : Prop where
  bN : W.heap[Bn]? = some (boxN ⟨2, -1, some ⟨g0, 0, none⟩, nvs.length, c0⟩)
  bZ : W.heap[w.heap.size + 2]? = some (boxN zeroN)
  row : W.ownsRow w.heap.size 27 3 (.slice (some ⟨g0, 0, none⟩) nvs.length c0) nvs.length (cellsN nvs)
  nds : NdsIs W (fun b => (P b ∨ w.heap.size ≤ b) ∧ b ≠ Bn ∧ b ≠ w.heap.size + 2 ∧ b ≠ g0) nvs ks
  ne1 : g0 ≠ Bn
  ne2 : g0 ≠ w.heap.size + 2
  fr : FrT base r w W
theorem row_of {W : World} {base g0 n c0 : Nat} {xs : List Value} (h : W.ownsRow base 27 3 (.slice (some ⟨g0, 0, none⟩) n c0) n xs) : base ≤ g0 ∧ ∃ cur, W.heap[g0]? = some (.cells cur 27) := by
  rcases h.2 with ⟨e, _⟩ | ⟨g, cap, cur, e, hg, hh, _⟩
  · cases e
  · cases e
    exact ⟨hg, cur, hh⟩
theorem DdRow.frt {base r : Nat} {P : Nat → Prop} {w : World} {Bn : Nat} {ks : List Nd} {nvs : List Nv} {g0 c0 : Nat} {W W' : World} (h : DdRow base r P w Bn ks nvs g0 c0 W) (hrw : r < w.heap.size) (hP : ∀ b, P b → b ≠ r) (hBn : w.heap.size + 2 < Bn) (hf : FrT base r W W') : DdRow base r P w Bn ks nvs g0 c0 W' := by
  obtain ⟨k1, cur, k2⟩ := row_of h.row
  refine ⟨boxN_frt h.bN hf (by omega), boxN_frt h.bZ hf (by omega), row_same h.row fun b hb _ => ?_, ⟨h.nds.1, fun j x k hx hk => (h.nds.2 j x k hx hk).frt hf fun b hb => hb.1.elim (hP b) (fun h => by omega)⟩, h.ne1, h.ne2, h.fr.trans hf⟩
  have : g0 = b := by simpa [Value.ownBlock] using hb
  subst this
  exact hf.cells g0 cur _ _ k2 (by decide) (by omega)
/-- One more name. -/
theorem DdRow.more {base r : Nat} {la : Option Addr} {lc : Nat} {L : List Tk} {env : Env0} {d j : Nat} {P : Nat → Prop} {w : World} {Bn : Nat} {ks : List Nd} {nvs : List Nv} {g0 c0 : Nat} {W w7 : World} {x6 : Nv} {m : Nd} {v' : Value} (h : DdRow base r P w Bn ks nvs g0 c0 W) (hrw : r < w.heap.size) (hbs : base ≤ w.heap.size) (hBn : w.heap.size + 2 < Bn)
    (hx : NdIs W (fun b => (P b ∨ w.heap.size ≤ b) ∧ b ≠ Bn ∧ b ≠ w.heap.size + 2 ∧ b ≠ g0) x6 m) (hr : RdAt W base r la lc L j env d) (hown : w7.ownsRow w.heap.size 27 3 v' (nvs ++ [x6]).length (cellsN (nvs ++ [x6]))) (hg : W.grownBy w7 (some g0)) (hob : v'.ownBlock = some g0 ∨ v'.ownBlock = some W.heap.size) :
    ∃ g1 c1, v' = .slice (some ⟨g1, 0, none⟩) (nvs ++ [x6]).length c1 ∧ w7.heap[Bn]? = some (boxN ⟨2, -1, some ⟨g0, 0, none⟩, nvs.length, c0⟩) ∧ DdRow base r P w Bn (ks ++ [m]) (nvs ++ [x6]) g1 c1 (w7.setCell ⟨Bn, 2, none⟩ v') ∧ RdAt (w7.setCell ⟨Bn, 2, none⟩ v') base r la lc L j env d := by
  obtain ⟨k1, cur0, k2⟩ := row_of h.row
  have hlb := lt_of_block h.bN
  have hbl : ∀ b, b < W.heap.size → b ≠ g0 → w7.heap[b]? = W.heap[b]? := fun b hb hne => hg.block b hb (fun e => hne (Option.some.inj e))
  obtain ⟨g1, c1, rfl⟩ : ∃ g1 c1, v' = .slice (some ⟨g1, 0, none⟩) (nvs ++ [x6]).length c1 := by
    rcases hown.2 with ⟨e, h0⟩ | ⟨g, cap, cur, e, _⟩
    · simp at h0
    · exact ⟨g, cap, e⟩
  have hN7 := (hbl Bn hlb (Ne.symm h.ne1)).trans h.bN
  have hZ7 := (hbl _ (lt_of_block h.bZ) (Ne.symm h.ne2)).trans h.bZ
  have hg1 : g1 = g0 ∨ g1 = W.heap.size := by simpa [Value.ownBlock] using hob
  have hF7 : FrT base r w w7 := by
    have hl := h.fr.low
    have hle : w.heap.size ≤ W.heap.size := by omega
    refine ⟨⟨hg.os.trans hl.os, hg.tape.trans hl.tape, hg.output.trans hl.output, Nat.le_trans hl.size hg.size, fun b hb => (hbl b (by omega) (by omega)).trans (hl.block b hb)⟩, fun b c T fz hb hT hne => ?_⟩
    have := lt_of_block hb
    exact (hbl b (by omega) (by omega)).trans (h.fr.cells b c T fz hb hT hne)
  have hR7 : RdAt w7 base r la lc L j env d := by
    obtain ⟨lo, hbr, vn, ms, hc, hn⟩ := hr
    refine ⟨lo, hbr, vn, ms, hc.other (B := w.heap.size) hrw (fun b off e hL => Nat.lt_of_lt_of_le (lo b off e hL) hbs) hg.size fun b hb => hbl b (by omega) (by omega), hn.same (fun b c hb _ => hbl b (lt_of_block hb) fun e => ?_) (fun b es cl hb _ => hbl b (lt_of_block hb) fun e => ?_)⟩
    · subst e
      rw [k2] at hb
      injection hb with hb
      injection hb with _ hb
      revert hb
      decide
    · subst e
      rw [k2] at hb
      cases hb
  obtain ⟨hR8, hF8⟩ := set_st hrw hbs (B := Bn) (by omega) hN7 hR7 hF7 (.slice (some ⟨g1, 0, none⟩) (nvs ++ [x6]).length c1)
  have hso : ∀ b, b ≠ Bn → (w7.setCell ⟨Bn, 2, none⟩ (.slice (some ⟨g1, 0, none⟩) (nvs ++ [x6]).length c1)).heap[b]? = w7.heap[b]? := fun b hb => Below.heap_setCell _ _ _ _ hb
  have hsz := lt_of_block h.bZ
  refine ⟨g1, c1, rfl, hN7, ⟨(Go.Joins.block_setCell (i := 2) hN7 _).trans rfl, (hso _ (by omega)).trans hZ7, row_same hown fun b hb _ => hso b ?_, ?_, ?_, ?_, hF8⟩, hR8⟩
  · have : g1 = b := by simpa [Value.ownBlock] using hb
    rcases hg1 with e | e
    · have := h.ne1; omega
    · omega
  · refine (((h.nds.snoc hx).mono (Q := fun b => ((P b ∨ w.heap.size ≤ b) ∧ b ≠ Bn ∧ b ≠ w.heap.size + 2 ∧ b ≠ g0) ∧ b < W.heap.size) fun b hb hlt => ⟨hb, hlt⟩).kept (w' := w7) fun b hb hlt => hbl b hlt hb.1.2.2.2).kept (fun b hb _ => hso b hb.1.2.1) |>.mono fun b hb _ => ⟨hb.1.1, hb.1.2.1, hb.1.2.2.1, ?_⟩
    rcases hg1 with e | e
    · rw [e]; exact hb.1.2.2.2
    · omega
  · rcases hg1 with e | e
    · rw [e]; exact h.ne1
    · omega
  · rcases hg1 with e | e
    · rw [e]; exact h.ne2
    · omega

/-- Ahead of a round. -/
def DdSt (base r : Nat) (la : Option Addr) (lc : Nat) (L : List Tk) (F : Nat) (a : Int) (d : Nat) (env : Env0) (R : Got (Nd × Nat × Env0)) (P : Nat → Prop) (w : World) (Bn g : Nat) (wr : World) : Prop :=
  ∃ (ks : List Nd) (nvs : List Nv) (g0 c0 j : Nat) (env' : Env0), dlpT L F a d g env' ks j = R ∧ env' ≠ [] ∧ env'.length = env.length ∧ L.length + 1 ≤ g + j ∧ nvs.length + g ≤ L.length + 3 ∧ RdAt wr base r la lc L j env' d ∧ DdRow base r P w Bn ks nvs g0 c0 wr

/-- The first round's beginning: the node's row is new. -/
theorem dd_start {base r : Nat} {la : Option Addr} {lc : Nat} {L : List Tk} {F : Nat} {a : Int} {d j1 : Nat} {env : Env0} {R : Got (Nd × Nat × Env0)} {P : Nat → Prop} {w W : World} {Bn Br : Nat} {y x5 : Nv} {kd n1 : Nd} (hrw : r < w.heap.size) (hbs : base ≤ w.heap.size) (hne : env ≠ [])
    (hR : dlpT L F a d (L.length + 1) env [kd, n1] j1 = R) (hBn : w.heap.size + 2 < Bn) (hBr : w.heap.size + 2 < Br) (hbn : Br ≠ Bn) (hB : W.heap[Bn]? = some (boxN zeroN)) (hZ : W.heap[w.heap.size + 2]? = some (boxN zeroN))
    (hrow : W.ownsRow w.heap.size 27 3 (.slice (some ⟨Br, 0, none⟩) 2 2) 2 (cellsN [y, x5])) (hn : NdsIs W (fun b => (P b ∨ w.heap.size ≤ b) ∧ b ≠ Bn ∧ b ≠ w.heap.size + 2 ∧ b ≠ Br) [y, x5] [kd, n1]) (hr : RdAt W base r la lc L j1 env d) (hf : FrT base r w W) :
    DdSt base r la lc L F a d env R P w Bn (L.length + 1) (putN W Bn ⟨2, -1, some ⟨Br, 0, none⟩, 2, 2⟩) := by
  have hso : ∀ b, b ≠ Bn → (putN W Bn ⟨2, -1, some ⟨Br, 0, none⟩, 2, 2⟩).heap[b]? = W.heap[b]? := fun b hb => putN_other _ _ _ _ hb
  obtain ⟨lo, hbr, vn, ms, hc, hnm⟩ := hr
  refine ⟨[kd, n1], [y, x5], Br, 2, j1, env, hR, hne, rfl, by omega, by simp; omega, ⟨lo, hbr, vn, ms, hc.other (B := w.heap.size) hrw (fun b off e hL => Nat.lt_of_lt_of_le (lo b off e hL) hbs) (by rw [putN_size]; exact Nat.le_refl _) fun b hb => hso b (by omega), hnm.put hB _⟩, ⟨putN_block _ hB, (hso _ (by omega)).trans hZ, row_same hrow fun b hb _ => hso b ?_, hn.kept fun b hb _ => hso b hb.2.1, hbn, by omega, ⟨?_, fun b c T fz hb hT hne => (hso b (by have := lt_of_block hb; omega)).trans (hf.cells b c T fz hb hT hne)⟩⟩⟩
  · have : Br = b := by simpa [Value.ownBlock] using hb
    omega
  · have := hf.low
    exact ⟨this.os, this.tape, this.output, by rw [putN_size]; exact this.size, fun b hb => (hso b (by omega)).trans (this.block b hb)⟩

/-- While the first round is made ready. -/
structure DdMid (base r : Nat) (la : Option Addr) (lc : Nat) (L : List Tk) (d : Nat) (env : Env0) (w : World) (y x : Nv) (kd : Nd) (j : Nat) (Q : Nat → Prop) (x5 : Nv) (n1 : Nd) (W : World) : Prop where
  rd : RdAt W base r la lc L j env d
  fr : FrT base r w W
  bY : W.heap[w.heap.size]? = some (boxN y)
  bX : W.heap[w.heap.size + 1]? = some (boxN x)
  bZ : W.heap[w.heap.size + 2]? = some (boxN zeroN)
  nY : NdIs W Q y kd
  nX : NdIs W Q x5 n1
  sz : w.heap.size + 3 ≤ W.heap.size
theorem DdMid.below {base r : Nat} {la : Option Addr} {lc : Nat} {L : List Tk} {d : Nat} {env : Env0} {w : World} {y x : Nv} {kd : Nd} {j : Nat} {Q : Nat → Prop} {x5 : Nv} {n1 : Nd} {W W' : World} (h : DdMid base r la lc L d env w y x kd j Q x5 n1 W) (hb : Below W.heap.size W W') : DdMid base r la lc L d env w y x kd j Q x5 n1 W' :=
  ⟨h.rd.below hb, h.fr.trans (FrT.of_below hb h.rd.size), (hb.block _ (lt_of_block h.bY)).trans h.bY, (hb.block _ (lt_of_block h.bX)).trans h.bX, (hb.block _ (lt_of_block h.bZ)).trans h.bZ, h.nY.kept fun b _ hlt => hb.block b hlt, h.nX.kept fun b _ hlt => hb.block b hlt, Nat.le_trans h.sz hb.size⟩
theorem DdMid.next {base r : Nat} {la : Option Addr} {lc : Nat} {L : List Tk} {d : Nat} {env : Env0} {w : World} {y x : Nv} {kd : Nd} {i j : Nat} {P : Nat → Prop} {x5 : Nv} {n n1 : Nd} {W w5 : World} (h : DdMid base r la lc L d env w y x kd i (fun b => P b ∧ b < w.heap.size) x n W) (hrw : r < w.heap.size) (hP : ∀ b, P b → b ≠ r)
    (hx : NdIs w5 (fun b => (P b ∧ b < w.heap.size) ∨ W.heap.size ≤ b) x5 n1) (hr : RdAt w5 base r la lc L j env d) (hf : FrT base r W w5) : DdMid base r la lc L d env w y x kd j (fun b => (P b ∧ b < w.heap.size) ∨ (W.heap.size ≤ b ∧ b < w5.heap.size)) x5 n1 w5 := by
  have h3 := boxN_frt h.bZ hf (by omega)
  refine ⟨hr, h.fr.trans hf, boxN_frt h.bY hf (by omega), boxN_frt h.bX hf (by omega), h3, (h.nY.frt hf fun b hb => hP b hb.1).mono fun b hb _ => .inl hb, hx.mono fun b hb hlt => hb.imp id fun h => ⟨h, hlt⟩, ?_⟩
  have := lt_of_block h3
  omega

set_option maxRecDepth 100000 in
set_option maxHeartbeats 2000000 in
theorem declared_any {base r : Nat} {la : Option Addr} {lc : Nat} {L : List Tk} {i : Nat} {env : Env0} {d F : Nat} (hs : Short L) (hE : Enough L F) (a : Int) (ha : a = 1 ∨ a = 2) (hne : env ≠ []) (hl : env.length ≤ 1000) (y x : Nv) (kd n : Nd) (P : Nat → Prop) (hxc : x.n = x.c) (hxl : x.n ≤ 1000) (w : World) (h : RdAt w base r la lc L i env d) (hy : NdIs w P y kd) (hx : NdIs w P x n) (hP : ∀ b, P b → b ≠ r) :
    Calls Try.prog 33 #[.pointer (some ⟨r, 0, none⟩), .int .i64 a, aggN y, aggN x] w (StPostQ (fun b => P b ∨ w.heap.size ≤ b) base r la lc L env d (dedT L F a d env kd n i) w) := by
  have hbs := h.size
  have hrw : r < w.heap.size := by obtain ⟨lo, hbr, vn, ms, hc, hn⟩ := h; exact hc.lt
  have hb0 : Below w.heap.size w (((w.alloc (boxN y)).alloc (boxN x)).alloc (boxN zeroN)) := (((Below.refl _ w).alloc (Nat.le_refl _) _).alloc (by simp) _).alloc (by simp; omega) _
  have HR0 := hid (h.below hb0)
  have HF0 := hid (FrT.of_below (r := r) hb0 hbs)
  have hz0 : (((w.alloc (boxN y)).alloc (boxN x)).alloc (boxN zeroN)).heap.size = w.heap.size + 3 := by simp
  have HB0 : Hid ((((w.alloc (boxN y)).alloc (boxN x)).alloc (boxN zeroN)).heap[w.heap.size]? = some (boxN y) ∧ (((w.alloc (boxN y)).alloc (boxN x)).alloc (boxN zeroN)).heap[w.heap.size + 1]? = some (boxN x)) := by
    refine ⟨((below_new _ (boxN zeroN)).block _ (by simp; omega)).trans (((below_new (w.alloc (boxN y)) (boxN x)).block _ (by simp)).trans (heap_alloc_new _ _)), ((below_new _ (boxN zeroN)).block _ (by simp)).trans ?_⟩
    have := heap_alloc_new (w.alloc (boxN y)) (boxN x)
    rwa [World.size_alloc] at this
  have HZ0 : Hid ((((w.alloc (boxN y)).alloc (boxN x)).alloc (boxN zeroN)).heap[w.heap.size + 2]? = some (boxN zeroN)) := by
    have := heap_alloc_new ((w.alloc (boxN y)).alloc (boxN x)) (boxN zeroN)
    rw [World.size_alloc, World.size_alloc] at this
    exact this
  have HY0 := hid ((hy.mono (Q := fun b => P b ∧ b < w.heap.size) fun b hb hlt => ⟨hb, hlt⟩).kept fun b _ hlt => hb0.block b hlt)
  have HX0 := hid ((hx.mono (Q := fun b => P b ∧ b < w.heap.size) fun b hb hlt => ⟨hb, hlt⟩).kept fun b _ hlt => hb0.block b hlt)
  have HP := hid hP
  have HM0 : Hid (DdMid base r la lc L d env w y x kd i (fun b => P b ∧ b < w.heap.size) x n (((w.alloc (boxN y)).alloc (boxN x)).alloc (boxN zeroN))) := ⟨HR0.out, HF0.out, HB0.out.1, HB0.out.2, HZ0.out, HY0.out, HX0.out, by rw [hz0]; exact Nat.le_refl _⟩
  clear HR0 HF0 HB0 HZ0 HY0 HX0
  have HS := hid (fun (W : World) hW hxW => started_any hE a x n (fun b => P b ∧ b < w.heap.size) hxc hxl W hW hxW (fun b hb => hP b hb.1) (base := base) (r := r) (la := la) (lc := lc) (L := L) (i := i) (env := env) (d := d) (F := F))
  obtain ⟨R, hR⟩ : ∃ R, dedT L F a d env kd n i = R := ⟨_, rfl⟩
  rw [hR]
  unfold dedT at hR
  unfold StPostQ at HS ⊢
  unfold aggN at HS ⊢
  dsimp only [boxN, zeroN] at HM0 hz0
  clear h hy hx hb0 hxc hxl hP
  cases hst : strT L F a d env n i with
  | error e1 =>
    rw [hst] at hR HS
    dsimp only at hR HS
    subst hR
    rw [thrown_chain] at HS
    go_enter Try.func33, Try.ntmps33
    go_wp2_with fail
    generalize ((w.alloc (.cells #[.int .i64 y.kind, .int .i64 y.tok, .slice y.a y.n y.c] 27)).alloc (.cells #[.int .i64 x.kind, .int .i64 x.tok, .slice x.a x.n x.c] 27)).alloc (.cells #[.int .i64 0, .int .i64 0, .slice none 0 0] 27) = w0 at *
    rw [show w.heap.size + 1 + 1 = w.heap.size + 2 from rfl]
    refine wp_region_held_drew (S := fun W => W.heap[w.heap.size]? = some (boxN y) ∧ W.heap[w.heap.size + 1]? = some (boxN x)) (by kernel_rfl) ⟨HM0.out.bY, HM0.out.bX⟩ (fun hHeld => ?_)
    refine wpAnyH_take (i := 0) (v := .agg #[.int .i64 y.kind, .int .i64 y.tok, .slice y.a y.n y.c]) rfl (by kernel_rfl) (by kernel_rfl) (by kernel_rfl) (fun _ _ _ h => h) (Or.inl ⟨by rfl, ?_⟩) hHeld ?_
    · intro W hSw
      have hSf := (boxN_facts hSw.1).1
      go_simp
    refine wpAnyH_take (i := 1) (v := .pointer (some ⟨r, 0, none⟩)) rfl (by kernel_rfl) (by kernel_rfl) (by kernel_rfl) (fun _ _ _ h => h) (Or.inl ⟨by rfl, ?_⟩) hHeld ?_
    · intro W hSw
      go_simp
    refine wpAnyH_take (i := 2) (v := .int .i64 a) rfl (by kernel_rfl) (by kernel_rfl) (by kernel_rfl) (fun _ _ _ h => h) (Or.inl ⟨by rfl, ?_⟩) hHeld ?_
    · intro W hSw
      go_simp
    refine wpAnyH_take (i := 3) (v := .agg #[.int .i64 x.kind, .int .i64 x.tok, .slice x.a x.n x.c]) rfl (by kernel_rfl) (by kernel_rfl) (by kernel_rfl) (fun _ _ _ h => h) (Or.inl ⟨by rfl, ?_⟩) hHeld ?_
    · intro W hSw
      have hSf := (boxN_facts hSw.2).1
      go_simp
    refine wpAnyH_ready (rs := [4, 7]) (by kernel_rfl) (by simp) (AllReadyH.cons rfl (fun K hK => ?_) (AllReadyH.cons rfl (fun K hK => ?_) AllReadyH.nil))
    · go_simp
      go_wp2_with (go_at_call 48; refine (HS.out _ (HM0.out.below (by first | exact Below.refl _ _ | exact (Below.refl _ _).drew)).rd (HM0.out.below (by first | exact Below.refl _ _ | exact (Below.refl _ _).drew)).nX).mono ?_; rintro e w5 ⟨rfl, hp5, hf5⟩)
      exact ⟨rfl, rfl, hp5, (HM0.out.below (Below.refl _ _).drew).fr.trans hf5⟩
    · go_simp
      have hb1 : Below w0.heap.size w0 (w0.alloc (.cells #[.int .i64 0, .int .i64 0, .slice none 0 0] 27)).drew := (below_new w0 (boxN zeroN)).drew
      have HM1 := hid (HM0.out.below hb1)
      refine hK.out _ _ ⟨HM1.out.bY, HM1.out.bX⟩ (fun hHeld => ?_)
      clear hK K hb1
      generalize (w0.alloc (.cells #[.int .i64 0, .int .i64 0, .slice none 0 0] 27)).drew = w1 at *
      refine wpAnyH_ready (rs := [4]) (by kernel_rfl) (by simp) (AllReadyH.cons rfl (fun K hK => ?_) AllReadyH.nil)
      go_simp
      go_wp2_with (go_at_call 48; refine (HS.out _ HM1.out.rd HM1.out.nX).mono ?_; rintro e w5 ⟨rfl, hp5, hf5⟩)
      exact ⟨rfl, rfl, hp5, HM1.out.fr.trans hf5⟩
  | ok y1 =>
    obtain ⟨n1, j1, env1⟩ := y1
    obtain ⟨hj1, rfl⟩ := str_ok hst
    rw [hst] at hR HS
    dsimp only at hR HS
    go_enter Try.func33, Try.ntmps33
    go_wp2_with fail
    generalize ((w.alloc (.cells #[.int .i64 y.kind, .int .i64 y.tok, .slice y.a y.n y.c] 27)).alloc (.cells #[.int .i64 x.kind, .int .i64 x.tok, .slice x.a x.n x.c] 27)).alloc (.cells #[.int .i64 0, .int .i64 0, .slice none 0 0] 27) = w0 at *
    rw [show w.heap.size + 1 + 1 = w.heap.size + 2 from rfl]
    refine wp_region_held_drew (S := fun W => W.heap[w.heap.size]? = some (boxN y) ∧ W.heap[w.heap.size + 1]? = some (boxN x)) (by kernel_rfl) ⟨HM0.out.bY, HM0.out.bX⟩ (fun hHeld => ?_)
    refine wpAnyH_take (i := 0) (v := .agg #[.int .i64 y.kind, .int .i64 y.tok, .slice y.a y.n y.c]) rfl (by kernel_rfl) (by kernel_rfl) (by kernel_rfl) (fun _ _ _ h => h) (Or.inl ⟨by rfl, ?_⟩) hHeld ?_
    · intro W hSw
      have hSf := (boxN_facts hSw.1).1
      go_simp
    refine wpAnyH_take (i := 1) (v := .pointer (some ⟨r, 0, none⟩)) rfl (by kernel_rfl) (by kernel_rfl) (by kernel_rfl) (fun _ _ _ h => h) (Or.inl ⟨by rfl, ?_⟩) hHeld ?_
    · intro W hSw
      go_simp
    refine wpAnyH_take (i := 2) (v := .int .i64 a) rfl (by kernel_rfl) (by kernel_rfl) (by kernel_rfl) (fun _ _ _ h => h) (Or.inl ⟨by rfl, ?_⟩) hHeld ?_
    · intro W hSw
      go_simp
    refine wpAnyH_take (i := 3) (v := .agg #[.int .i64 x.kind, .int .i64 x.tok, .slice x.a x.n x.c]) rfl (by kernel_rfl) (by kernel_rfl) (by kernel_rfl) (fun _ _ _ h => h) (Or.inl ⟨by rfl, ?_⟩) hHeld ?_
    · intro W hSw
      have hSf := (boxN_facts hSw.2).1
      go_simp
    refine wpAnyH_ready (rs := [4, 7]) (by kernel_rfl) (by simp) (AllReadyH.cons rfl (fun K hK => ?_) (AllReadyH.cons rfl (fun K hK => ?_) AllReadyH.nil))
    · go_simp
      go_wp2_with (go_at_call 48; refine (HS.out _ (HM0.out.below (by first | exact Below.refl _ _ | exact (Below.refl _ _).drew)).rd (HM0.out.below (by first | exact Below.refl _ _ | exact (Below.refl _ _).drew)).nX).mono ?_; rintro e w5 ⟨x5, rfl, hx5, hr5, hf5⟩)
      have HM5 : Hid (DdMid base r la lc L d env1 w y x kd j1 (fun b => (P b ∧ b < w.heap.size) ∨ (w0.heap.size ≤ b ∧ b < w5.heap.size)) x5 n1 w5) := (HM0.out.below (Below.refl _ _).drew).next hrw HP.out hx5 hr5 hf5
      clear hx5 hr5 hf5
      refine hK.out _ _ ⟨HM5.out.bY, HM5.out.bX⟩ (fun hHeld => ?_)
      clear hK K
      refine wpAnyH_ready (rs := [5, 7]) (by kernel_rfl) (by simp) (AllReadyH.cons rfl (fun K hK => ?_) (AllReadyH.cons rfl (fun K hK => ?_) AllReadyH.nil))
      · go_simp
        have hb6 : Below w5.heap.size w5 (w5.alloc (.cells #[.int .i64 y.kind, .int .i64 y.tok, .slice y.a y.n y.c, .int .i64 x5.kind, .int .i64 x5.tok, .slice x5.a x5.n x5.c] 27)) := below_new _ _
        have HM6 := hid (HM5.out.below hb6)
        have HO6 : Hid ((w5.alloc (.cells #[.int .i64 y.kind, .int .i64 y.tok, .slice y.a y.n y.c, .int .i64 x5.kind, .int .i64 x5.tok, .slice x5.a x5.n x5.c] 27)).ownsRow w5.heap.size 27 3 (.slice (some ⟨w5.heap.size, 0, none⟩) 2 2) 2 (cellsN [y, x5])) := new_row w5 [y, x5] (by simp)
        have hz6 : w5.heap.size < (w5.alloc (.cells #[.int .i64 y.kind, .int .i64 y.tok, .slice y.a y.n y.c, .int .i64 x5.kind, .int .i64 x5.tok, .slice x5.a x5.n x5.c] 27)).heap.size := by simp
        refine hK.out _ _ ⟨HM6.out.bY, HM6.out.bX⟩ (fun hHeld => ?_)
        clear hK K hb6
        generalize w5.alloc (.cells #[.int .i64 y.kind, .int .i64 y.tok, .slice y.a y.n y.c, .int .i64 x5.kind, .int .i64 x5.tok, .slice x5.a x5.n x5.c] 27) = w6 at *
        refine wpAnyH_ready (rs := [6, 7]) (by kernel_rfl) (by simp) (AllReadyH.cons rfl (fun K hK => ?_) (AllReadyH.cons rfl (fun K hK => ?_) AllReadyH.nil))
        · go_simp
          go_wp2_with (go_at_call 20; refine (node_any 2 _ 2 2 _).mono ?_; rintro e w7 ⟨rfl, hb7⟩)
          have HM7 := hid (HM6.out.below hb7)
          have HO7 := hid (row_same HO6.out fun b _ hlt => hb7.block b hlt)
          have hz7 := hb7.size
          unfold aggN
          dsimp only
          refine hK.out _ _ ⟨HM7.out.bY, HM7.out.bX⟩ (fun hHeld => ?_)
          clear hK K hb7
          refine wpAnyH_ready (rs := [7]) (by kernel_rfl) (by simp) (AllReadyH.cons rfl (fun K hK => ?_) AllReadyH.nil)
          go_simp
          have hb8 : Below w7.heap.size w7 (w7.alloc (.cells #[.int .i64 0, .int .i64 0, .slice none 0 0] 27)) := below_new _ _
          have HM8 := hid (HM7.out.below hb8)
          have HO8 := hid (row_same HO7.out fun b _ hlt => hb8.block b hlt)
          have HN8 : Hid ((w7.alloc (.cells #[.int .i64 0, .int .i64 0, .slice none 0 0] 27)).heap[w7.heap.size]? = some (boxN zeroN)) := heap_alloc_new _ _
          have hz8 : w7.heap.size < (w7.alloc (.cells #[.int .i64 0, .int .i64 0, .slice none 0 0] 27)).heap.size := by simp
          refine hK.out _ _ ⟨HM8.out.bY, HM8.out.bX⟩ (fun hHeld => ?_)
          clear hK K hb8
          generalize w7.alloc (.cells #[.int .i64 0, .int .i64 0, .slice none 0 0] 27) = w8 at *
          refine wpAnyH_ready (rs := [8]) (by kernel_rfl) (by simp) (AllReadyH.cons rfl (fun K hK => ?_) AllReadyH.nil)
          have hsz := HM5.out.sz
          have HSt := hid (dd_start (P := P) (Bn := w7.heap.size) (Br := w5.heap.size) hrw hbs hne hR (by omega) (by omega) (by omega) HN8.out HM8.out.bZ (row_base HO8.out (by omega)) ((NdsIs.two HM8.out.nY HM8.out.nX).mono fun b hb _ => hb.elim (fun h => ⟨.inl h.1, by omega, by omega, by omega⟩) (fun h => ⟨.inr (by omega), by omega, by omega, by omega⟩)) HM8.out.rd HM8.out.fr)
          have HS8 : Hid ((putN w8 (w7.heap.size) ⟨2, -1, some ⟨w5.heap.size, 0, none⟩, 2, 2⟩).heap[w.heap.size]? = some (boxN y) ∧ (putN w8 (w7.heap.size) ⟨2, -1, some ⟨w5.heap.size, 0, none⟩, 2, 2⟩).heap[w.heap.size + 1]? = some (boxN x)) := ⟨(putN_other _ _ _ _ (by omega)).trans HM8.out.bY, (putN_other _ _ _ _ (by omega)).trans HM8.out.bX⟩
          obtain ⟨⟨y0, y1, y2⟩, z0, z1, z2⟩ := boxN_facts (x := zeroN) HN8.out
          dsimp only [zeroN] at y0 y1 y2
          have hBn : w.heap.size + 2 < w7.heap.size := by omega
          unfold putN at HSt HS8
          dsimp only at HSt HS8
          go_simp
          refine hK.out _ _ HS8.out (fun hHeld => ?_)
          clear hK K y0 y1 y2 z0 z1 z2 HS8
          refine wpAnyH_done (by kernel_rfl) ?_ _
          go_wp2_with fail
          generalize hW8 : World.setCell _ _ _ = w8 at *
          clear hW8
          generalize w7.heap.size = Zn at hBn HSt ⊢
          go_loopg [] (L.length + 1) (fun g wr => Hid (DdSt base r la lc L F a d env1 R P w (Zn) g wr))
          case atStart => exact HSt
          case round =>
            obtain ⟨ks, nvs, g0, c0, j, env', hR', hne', hle', hgj, hng, hr', hd'⟩ := hrel.out
            have hjl : j ≤ L.length ∧ L.length ≤ 6000 := by obtain ⟨lo, hbr, vn, ms, hc, hn⟩ := hr'; exact ⟨hc.le, hc.few⟩
            obtain ⟨g, rfl⟩ : ∃ g, gk = g + 1 := ⟨gk - 1, by omega⟩
            rw [dlpT] at hR'
            have HSk := hid (skip_st ⟨#[44]⟩ (by decide) wr hr')
            rw [show (⟨#[44]⟩ : ByteArray).data.toList = [44] from rfl] at HSk
            have HRr := hid hr'
            have HDr := hid hd'
            have HLe := hid hle'
            clear hr' hd' hrel HSt hle'
            by_cases hq : wordT L j = [44]
            · rw [if_pos hq] at hR'
              simp only [if_pos hq] at HSk
              go_wp2_with fail
              refine HSk.out.mono ?_
              rintro e w1 ⟨rfl, hr1, hf1, _⟩
              have HR1 := hid hr1
              have HD1 := hid (HDr.out.frt hrw HP.out hBn hf1)
              clear hr1 hf1 HSk HRr HDr
              have hg0 := (row_of HD1.out.row).1
              have hg1 := lt_of_block (row_of HD1.out.row).2.choose_spec
              have hbn1 := lt_of_block HD1.out.bN
              have HDc := hid (fun (W : World) (hW : RdAt W base r la lc L (j + 1) env' d) => declarator_any (F := F) hs hE a ha hne' (by have := HLe.out; omega) W hW)
              unfold DcPost at HDc
              go_wp2_with fail
              have HCe := hid (fun W (hb : Below w1.heap.size w1 W) => (boxN_facts (x := ⟨2, -1, some ⟨g0, 0, none⟩, nvs.length, c0⟩) ((hb.block _ (lt_of_block HD1.out.bN)).trans HD1.out.bN)).1.2.2)
              refine wp_region_any (by kernel_rfl) ?_
              refine wpAny_take (i := 0) (v := .pointer (some ⟨Zn, 2, none⟩)) rfl (by kernel_rfl) (by kernel_rfl) (by kernel_rfl) (fun _ _ _ h => h) (Or.inl ⟨by rfl, ?_⟩) ?_
              · intro W
                go_simp
              refine wpAny_take (i := 2) (v := .pointer (some ⟨r, 0, none⟩)) rfl (by kernel_rfl) (by kernel_rfl) (by kernel_rfl) (fun _ _ _ h => h) (Or.inl ⟨by rfl, ?_⟩) ?_
              · intro W
                go_simp
              refine wpAny_take (i := 3) (v := .int .i64 a) rfl (by kernel_rfl) (by kernel_rfl) (by kernel_rfl) (fun _ _ _ h => h) (Or.inl ⟨by rfl, ?_⟩) ?_
              · intro W
                go_simp
              refine wpAny_take (i := 4) (v := .pointer (some ⟨r, 0, none⟩)) rfl (by kernel_rfl) (by kernel_rfl) (by kernel_rfl) (fun _ _ _ h => h) (Or.inl ⟨by rfl, ?_⟩) ?_
              · intro W
                go_simp
              refine wpAny_take (i := 5) (v := .int .i64 a) rfl (by kernel_rfl) (by kernel_rfl) (by kernel_rfl) (fun _ _ _ h => h) (Or.inl ⟨by rfl, ?_⟩) ?_
              · intro W
                go_simp
              refine takeT (C := fun W => W.cell? ⟨Zn, 2, none⟩ = some (.slice (some ⟨g0, 0, none⟩) nvs.length c0)) (i := 1) (v := .slice (some ⟨g0, 0, none⟩) nvs.length c0) rfl (by kernel_rfl) (by kernel_rfl) (by kernel_rfl) (fun _ _ _ h => h) (Or.inl ⟨by rfl, ?_⟩) (HCe.out _ (Below.refl _ _).drew) ?_
              · intro W hSw
                try dsimp only at hSw
                go_simp
              refine anyT_one (k := 6) (by kernel_rfl) rfl (fun K hK => ?_)
              go_simp
              cases hdc : dclT L F a d env' (j + 1) with
              | error e2 =>
                rw [hdc] at hR' HDc
                dsimp only at hR' HDc
                subst hR'
                rw [thrown_chain] at HDc
                go_wp2_with (go_at_call 31; refine (HDc.out _ (HR1.out.below (Below.refl _ _).drew)).mono ?_; rintro e w5 ⟨rfl, hp5, hf5⟩)
                obtain ⟨e5, hl5, hp5⟩ := hp5
                exact ⟨rfl, rfl, ⟨e5, hl5.trans HLe.out, hp5⟩, (HD1.out.fr.trans (FrT.of_below (Below.refl _ _).drew (by omega))).trans hf5⟩
              | ok y2 =>
                obtain ⟨n2, j2, env2⟩ := y2
                obtain ⟨hj2, hl2, hk2⟩ := dcl_ok hdc hne'
                rw [hdc] at hR' HDc
                dsimp only at hR' HDc
                unfold aggN at HDc
                go_wp2_with (go_at_call 31; refine (HDc.out _ (HR1.out.below (Below.refl _ _).drew)).mono ?_; rintro e w5 ⟨x5, rfl, hq5, hx5, hr5, hf5⟩; have HQ5 := hid hq5; clear hq5)
                have hf15 : FrT base r w1 w5 := (FrT.of_below (Below.refl _ _).drew (by omega)).trans hf5
                have HD5 := hid (HD1.out.frt hrw HP.out hBn hf15)
                have hx5' : NdIs w5 (fun b => w1.heap.size ≤ b) x5 n2 := hx5
                have hz5 : w1.heap.size ≤ w5.heap.size := hf5.low.size
                have hne2 : env2 ≠ [] := by intro e; rw [e] at hl2; exact hne' (List.eq_nil_of_length_eq_zero hl2.symm)
                have HS3 := hid (started_any hE a x5 n2 (fun b => w1.heap.size ≤ b) HQ5.out (by rw [hx5.len]; omega) w5 hr5 hx5' (fun b hb => by omega))
                unfold StPostQ aggN at HS3
                have HL2 := hid hl2
                refine hK.out _ _ (fun _ => (boxN_facts HD5.out.bN).1.2.2) ?_
                clear hK K hx5 hx5' hr5 hf5 hf15 HQ5 HDc HD1 HR1 hl2
                refine anyT_one (k := 7) (by kernel_rfl) rfl (fun K hK => ?_)
                go_simp
                cases hs3 : strT L F a d env2 n2 j2 with
                | error e3 =>
                  rw [hs3] at hR' HS3
                  dsimp only at hR' HS3
                  subst hR'
                  rw [thrown_chain] at HS3
                  go_wp2_with (go_at_call 48; refine HS3.out.mono ?_; rintro e w6 ⟨rfl, hp6, hf6⟩)
                  obtain ⟨e6, hl6, hp6⟩ := hp6
                  exact ⟨rfl, rfl, ⟨e6, (hl6.trans HL2.out).trans HLe.out, hp6⟩, HD5.out.fr.trans hf6⟩
                | ok y3 =>
                  obtain ⟨n3, j3, env3⟩ := y3
                  obtain ⟨hj3, rfl⟩ := str_ok hs3
                  rw [hs3] at hR' HS3
                  dsimp only at hR' HS3
                  go_wp2_with (go_at_call 48; refine HS3.out.mono ?_; rintro e w6 ⟨x6, rfl, hx6, hr6, hf6⟩)
                  have HD6 := hid (HD5.out.frt hrw HP.out hBn hf6)
                  have hba := below_new w6 (boxN x6)
                  have HDa := hid (HD6.out.frt hrw HP.out hBn (FrT.of_below hba hr6.size))
                  have hra := hr6.below hba
                  have hxa := (hx6.mono (Q := fun b => (P b ∨ w.heap.size ≤ b) ∧ b ≠ Zn ∧ b ≠ w.heap.size + 2 ∧ b ≠ g0) fun b hb _ => by have hb' : w1.heap.size ≤ b := (hb.elim id fun h => Nat.le_trans hz5 h); exact ⟨.inr (by omega), by omega, by omega, by omega⟩).kept fun b _ hlt => hba.block b hlt
                  have HMo := hid (fun v7 w7 => HDa.out.more (w7 := w7) (v' := v7) hrw hbs hBn hxa hra)
                  have hrow6 := new_row w6 [x6] (by simp)
                  have hrowa := HDa.out.row
                  have hbza : w.heap.size ≤ (w6.alloc (boxN x6)).heap.size := by have := lt_of_block HDa.out.bZ; omega
                  refine hK.out _ _ (fun _ => (boxN_facts HD6.out.bN).1.2.2) ?_
                  clear hK K hx6 hr6 hf6 hba hra hxa
                  refine anyT_one (k := 8) (by kernel_rfl) rfl (fun K hK => ?_)
                  go_simp
                  refine hK.out _ _ (fun _ => (boxN_facts HDa.out.bN).1.2.2) ?_
                  clear hK K
                  refine anyT_one (k := 9) (by kernel_rfl) rfl (fun K hK => ?_)
                  refine step_append_row (by rfl) _ _ (by rfl) w.heap.size _ g0 nvs.length c0 nvs [x6] (some ⟨w6.heap.size, 0, none⟩) 1 (by rfl) (by rfl) rfl hrowa hrow6 (by omega) (by simp) hbza ?_
                  intro v7 w7 hown7 hg7 hob7
                  obtain ⟨g7, c7, rfl, q1, q2, q3⟩ := HMo.out v7 w7 hown7 hg7 hob7
                  have hl6 : (nvs ++ [x6]).length = nvs.length + 1 := by simp
                  rw [hl6] at q2 q3 ⊢
                  have HQ2 := hid q2
                  have HQ3 := hid q3
                  obtain ⟨⟨t0, t1, t2⟩, f0, f1, f2⟩ := boxN_facts q1
                  refine hK.out _ _ (fun _ => t2) ?_
                  clear hK K hown7 hg7 hob7 q2 q3 HMo hrowa hrow6
                  refine anyT_one (k := 10) (by kernel_rfl) rfl (fun K hK => ?_)
                  go_simp
                  refine hK.out _ _ (fun _ => t2) ?_
                  clear hK K
                  refine anyT_one (k := 11) (by kernel_rfl) rfl (fun K hK => ?_)
                  go_simp
                  refine hK.out _ _ (fun hno => absurd rfl (hno _ rfl ⟨1, .phase⟩ (by simp) (by rfl))) ?_
                  clear hK K t0 t1 t2 f0 f1 f2 q1
                  refine anyT_done (by kernel_rfl) ?_
                  go_wp2_with fail
                  go_roundg g
                  case rel => exact ⟨ks ++ [n3], nvs ++ [x6], g7, c7, j3, _, hR', hne2, HL2.out.trans HLe.out, by omega, by rw [hl6]; omega, HQ3.out, HQ2.out⟩
                  case measure => omega
            · rw [if_neg hq] at hR'
              simp only [if_neg hq] at HSk
              go_wp2_with fail
              refine HSk.out.mono ?_
              rintro e w1 ⟨rfl, n1', rfl⟩
              have hbd := dN_below (Below.refl wr.heap.size wr) n1'
              have HR1 := hid (HRr.out.below hbd)
              have HD1 := hid (HDr.out.frt hrw HP.out hBn (FrT.of_below hbd HRr.out.size))
              generalize hw1 : wr.drewN n1' = w1 at *
              clear hw1 hbd HSk HRr HDr
              have HM := hid (must_st ⟨#[59]⟩ (by decide) _ HR1.out)
              rw [show (⟨#[59]⟩ : ByteArray).data.toList = [59] from rfl] at HM
              by_cases hq2 : wordT L j = [59]
              · rw [if_pos hq2] at hR'
                subst hR'
                simp only [if_pos hq2] at HM
                go_wp2_with fail
                refine HM.out.mono ?_
                rintro e w2 ⟨rfl, hr2, hf2, _⟩
                have HD2 := hid (HD1.out.frt hrw HP.out hBn hf2)
                have hg0 := (row_of HD2.out.row).1
                have HG := hid (give_stB (B := w.heap.size + 2) (u := zeroN) (x := ⟨2, -1, some ⟨g0, 0, none⟩, nvs.length, c0⟩) (n := .mk 2 (-1) ks) (P := fun b => (P b ∨ w.heap.size ≤ b) ∧ b ≠ w.heap.size + 2) (Q := fun b => P b ∨ w.heap.size ≤ b) hrw hbs (by omega) HD2.out.bZ ⟨rfl, rfl, KidsAt.of_row HD2.out.row (HD2.out.nds.mono fun b hb _ => ⟨hb.1, hb.2.2.1⟩) (fun b e => by have e' : g0 = b := (by simpa [Value.ownBlock] using e); subst e'; exact ⟨.inr hg0, HD2.out.ne2⟩)⟩ (fun b hb => hb.2) hr2 HD2.out.fr (fun b hb => hb.1))
                obtain ⟨⟨x0, x1, x2⟩, _⟩ := boxN_facts HD2.out.bN
                obtain ⟨⟨y0, y1, y2⟩, z0, z1, z2⟩ := boxN_facts (x := zeroN) HD2.out.bZ
                dsimp only [zeroN] at x0 x1 x2 y0 y1 y2
                unfold putN at HG
                dsimp only at HG
                clear hr2 hf2 HM HD1 HR1
                go_wp2_with fail
                exact bodyPost_ret (node_ret Try.results33 (g := w.heap.size + 2) (x := ⟨2, -1, some ⟨g0, 0, none⟩, nvs.length, c0⟩) HG.out.1 _ rfl) rfl ⟨_, rfl, HG.out.2⟩
              · rw [if_neg hq2] at hR'
                subst hR'
                simp only [if_neg hq2] at HM
                rw [thrown_chain] at HM
                go_wp2_with fail
                refine HM.out.mono ?_
                rintro e w2 ⟨rfl, hp2, hf2⟩
                obtain ⟨e5, hl5, hp5⟩ := hp2
                exact ⟨rfl, rfl, ⟨e5, hl5.trans HLe.out, hp5⟩, HD1.out.fr.trans hf2⟩
        · go_simp
          have hb7 : Below w6.heap.size w6 (w6.alloc (.cells #[.int .i64 0, .int .i64 0, .slice none 0 0] 27)) := below_new _ _
          have HM7 := hid (HM6.out.below hb7)
          have HO7 := hid (row_same HO6.out fun b _ hlt => hb7.block b hlt)
          have HN7 : Hid ((w6.alloc (.cells #[.int .i64 0, .int .i64 0, .slice none 0 0] 27)).heap[w6.heap.size]? = some (boxN zeroN)) := heap_alloc_new _ _
          have hz7 : w6.heap.size < (w6.alloc (.cells #[.int .i64 0, .int .i64 0, .slice none 0 0] 27)).heap.size := by simp
          refine hK.out _ _ ⟨HM7.out.bY, HM7.out.bX⟩ (fun hHeld => ?_)
          clear hK K hb7
          generalize w6.alloc (.cells #[.int .i64 0, .int .i64 0, .slice none 0 0] 27) = w7 at *
          refine wpAnyH_ready (rs := [6]) (by kernel_rfl) (by simp) (AllReadyH.cons rfl (fun K hK => ?_) AllReadyH.nil)
          go_simp
          go_wp2_with (go_at_call 20; refine (node_any 2 _ 2 2 _).mono ?_; rintro e w8 ⟨rfl, hb8⟩)
          have HM8 := hid (HM7.out.below hb8)
          have HN8 : Hid (_ = some (boxN zeroN)) := (hb8.block _ (lt_of_block HN7.out)).trans HN7.out
          have HO8 := hid (row_same HO7.out fun b _ hlt => hb8.block b hlt)
          have hz8 := hb8.size
          unfold aggN
          dsimp only
          refine hK.out _ _ ⟨HM8.out.bY, HM8.out.bX⟩ (fun hHeld => ?_)
          clear hK K hb8
          refine wpAnyH_ready (rs := [8]) (by kernel_rfl) (by simp) (AllReadyH.cons rfl (fun K hK => ?_) AllReadyH.nil)
          have hsz := HM5.out.sz
          have HSt := hid (dd_start (P := P) (Bn := w6.heap.size) (Br := w5.heap.size) hrw hbs hne hR (by omega) (by omega) (by omega) HN8.out HM8.out.bZ (row_base HO8.out (by omega)) ((NdsIs.two HM8.out.nY HM8.out.nX).mono fun b hb _ => hb.elim (fun h => ⟨.inl h.1, by omega, by omega, by omega⟩) (fun h => ⟨.inr (by omega), by omega, by omega, by omega⟩)) HM8.out.rd HM8.out.fr)
          have HS8 : Hid ((putN w8 (w6.heap.size) ⟨2, -1, some ⟨w5.heap.size, 0, none⟩, 2, 2⟩).heap[w.heap.size]? = some (boxN y) ∧ (putN w8 (w6.heap.size) ⟨2, -1, some ⟨w5.heap.size, 0, none⟩, 2, 2⟩).heap[w.heap.size + 1]? = some (boxN x)) := ⟨(putN_other _ _ _ _ (by omega)).trans HM8.out.bY, (putN_other _ _ _ _ (by omega)).trans HM8.out.bX⟩
          obtain ⟨⟨y0, y1, y2⟩, z0, z1, z2⟩ := boxN_facts (x := zeroN) HN8.out
          dsimp only [zeroN] at y0 y1 y2
          have hBn : w.heap.size + 2 < w6.heap.size := by omega
          unfold putN at HSt HS8
          dsimp only at HSt HS8
          go_simp
          refine hK.out _ _ HS8.out (fun hHeld => ?_)
          clear hK K y0 y1 y2 z0 z1 z2 HS8
          refine wpAnyH_done (by kernel_rfl) ?_ _
          go_wp2_with fail
          generalize hW8 : World.setCell _ _ _ = w8 at *
          clear hW8
          generalize w6.heap.size = Zn at hBn HSt ⊢
          go_loopg [] (L.length + 1) (fun g wr => Hid (DdSt base r la lc L F a d env1 R P w (Zn) g wr))
          case atStart => exact HSt
          case round =>
            obtain ⟨ks, nvs, g0, c0, j, env', hR', hne', hle', hgj, hng, hr', hd'⟩ := hrel.out
            have hjl : j ≤ L.length ∧ L.length ≤ 6000 := by obtain ⟨lo, hbr, vn, ms, hc, hn⟩ := hr'; exact ⟨hc.le, hc.few⟩
            obtain ⟨g, rfl⟩ : ∃ g, gk = g + 1 := ⟨gk - 1, by omega⟩
            rw [dlpT] at hR'
            have HSk := hid (skip_st ⟨#[44]⟩ (by decide) wr hr')
            rw [show (⟨#[44]⟩ : ByteArray).data.toList = [44] from rfl] at HSk
            have HRr := hid hr'
            have HDr := hid hd'
            have HLe := hid hle'
            clear hr' hd' hrel HSt hle'
            by_cases hq : wordT L j = [44]
            · rw [if_pos hq] at hR'
              simp only [if_pos hq] at HSk
              go_wp2_with fail
              refine HSk.out.mono ?_
              rintro e w1 ⟨rfl, hr1, hf1, _⟩
              have HR1 := hid hr1
              have HD1 := hid (HDr.out.frt hrw HP.out hBn hf1)
              clear hr1 hf1 HSk HRr HDr
              have hg0 := (row_of HD1.out.row).1
              have hg1 := lt_of_block (row_of HD1.out.row).2.choose_spec
              have hbn1 := lt_of_block HD1.out.bN
              have HDc := hid (fun (W : World) (hW : RdAt W base r la lc L (j + 1) env' d) => declarator_any (F := F) hs hE a ha hne' (by have := HLe.out; omega) W hW)
              unfold DcPost at HDc
              go_wp2_with fail
              have HCe := hid (fun W (hb : Below w1.heap.size w1 W) => (boxN_facts (x := ⟨2, -1, some ⟨g0, 0, none⟩, nvs.length, c0⟩) ((hb.block _ (lt_of_block HD1.out.bN)).trans HD1.out.bN)).1.2.2)
              refine wp_region_any (by kernel_rfl) ?_
              refine wpAny_take (i := 0) (v := .pointer (some ⟨Zn, 2, none⟩)) rfl (by kernel_rfl) (by kernel_rfl) (by kernel_rfl) (fun _ _ _ h => h) (Or.inl ⟨by rfl, ?_⟩) ?_
              · intro W
                go_simp
              refine wpAny_take (i := 2) (v := .pointer (some ⟨r, 0, none⟩)) rfl (by kernel_rfl) (by kernel_rfl) (by kernel_rfl) (fun _ _ _ h => h) (Or.inl ⟨by rfl, ?_⟩) ?_
              · intro W
                go_simp
              refine wpAny_take (i := 3) (v := .int .i64 a) rfl (by kernel_rfl) (by kernel_rfl) (by kernel_rfl) (fun _ _ _ h => h) (Or.inl ⟨by rfl, ?_⟩) ?_
              · intro W
                go_simp
              refine wpAny_take (i := 4) (v := .pointer (some ⟨r, 0, none⟩)) rfl (by kernel_rfl) (by kernel_rfl) (by kernel_rfl) (fun _ _ _ h => h) (Or.inl ⟨by rfl, ?_⟩) ?_
              · intro W
                go_simp
              refine wpAny_take (i := 5) (v := .int .i64 a) rfl (by kernel_rfl) (by kernel_rfl) (by kernel_rfl) (fun _ _ _ h => h) (Or.inl ⟨by rfl, ?_⟩) ?_
              · intro W
                go_simp
              refine takeT (C := fun W => W.cell? ⟨Zn, 2, none⟩ = some (.slice (some ⟨g0, 0, none⟩) nvs.length c0)) (i := 1) (v := .slice (some ⟨g0, 0, none⟩) nvs.length c0) rfl (by kernel_rfl) (by kernel_rfl) (by kernel_rfl) (fun _ _ _ h => h) (Or.inl ⟨by rfl, ?_⟩) (HCe.out _ (Below.refl _ _).drew) ?_
              · intro W hSw
                try dsimp only at hSw
                go_simp
              refine anyT_one (k := 6) (by kernel_rfl) rfl (fun K hK => ?_)
              go_simp
              cases hdc : dclT L F a d env' (j + 1) with
              | error e2 =>
                rw [hdc] at hR' HDc
                dsimp only at hR' HDc
                subst hR'
                rw [thrown_chain] at HDc
                go_wp2_with (go_at_call 31; refine (HDc.out _ (HR1.out.below (Below.refl _ _).drew)).mono ?_; rintro e w5 ⟨rfl, hp5, hf5⟩)
                obtain ⟨e5, hl5, hp5⟩ := hp5
                exact ⟨rfl, rfl, ⟨e5, hl5.trans HLe.out, hp5⟩, (HD1.out.fr.trans (FrT.of_below (Below.refl _ _).drew (by omega))).trans hf5⟩
              | ok y2 =>
                obtain ⟨n2, j2, env2⟩ := y2
                obtain ⟨hj2, hl2, hk2⟩ := dcl_ok hdc hne'
                rw [hdc] at hR' HDc
                dsimp only at hR' HDc
                unfold aggN at HDc
                go_wp2_with (go_at_call 31; refine (HDc.out _ (HR1.out.below (Below.refl _ _).drew)).mono ?_; rintro e w5 ⟨x5, rfl, hq5, hx5, hr5, hf5⟩; have HQ5 := hid hq5; clear hq5)
                have hf15 : FrT base r w1 w5 := (FrT.of_below (Below.refl _ _).drew (by omega)).trans hf5
                have HD5 := hid (HD1.out.frt hrw HP.out hBn hf15)
                have hx5' : NdIs w5 (fun b => w1.heap.size ≤ b) x5 n2 := hx5
                have hz5 : w1.heap.size ≤ w5.heap.size := hf5.low.size
                have hne2 : env2 ≠ [] := by intro e; rw [e] at hl2; exact hne' (List.eq_nil_of_length_eq_zero hl2.symm)
                have HS3 := hid (started_any hE a x5 n2 (fun b => w1.heap.size ≤ b) HQ5.out (by rw [hx5.len]; omega) w5 hr5 hx5' (fun b hb => by omega))
                unfold StPostQ aggN at HS3
                have HL2 := hid hl2
                refine hK.out _ _ (fun _ => (boxN_facts HD5.out.bN).1.2.2) ?_
                clear hK K hx5 hx5' hr5 hf5 hf15 HQ5 HDc HD1 HR1 hl2
                refine anyT_one (k := 7) (by kernel_rfl) rfl (fun K hK => ?_)
                go_simp
                cases hs3 : strT L F a d env2 n2 j2 with
                | error e3 =>
                  rw [hs3] at hR' HS3
                  dsimp only at hR' HS3
                  subst hR'
                  rw [thrown_chain] at HS3
                  go_wp2_with (go_at_call 48; refine HS3.out.mono ?_; rintro e w6 ⟨rfl, hp6, hf6⟩)
                  obtain ⟨e6, hl6, hp6⟩ := hp6
                  exact ⟨rfl, rfl, ⟨e6, (hl6.trans HL2.out).trans HLe.out, hp6⟩, HD5.out.fr.trans hf6⟩
                | ok y3 =>
                  obtain ⟨n3, j3, env3⟩ := y3
                  obtain ⟨hj3, rfl⟩ := str_ok hs3
                  rw [hs3] at hR' HS3
                  dsimp only at hR' HS3
                  go_wp2_with (go_at_call 48; refine HS3.out.mono ?_; rintro e w6 ⟨x6, rfl, hx6, hr6, hf6⟩)
                  have HD6 := hid (HD5.out.frt hrw HP.out hBn hf6)
                  have hba := below_new w6 (boxN x6)
                  have HDa := hid (HD6.out.frt hrw HP.out hBn (FrT.of_below hba hr6.size))
                  have hra := hr6.below hba
                  have hxa := (hx6.mono (Q := fun b => (P b ∨ w.heap.size ≤ b) ∧ b ≠ Zn ∧ b ≠ w.heap.size + 2 ∧ b ≠ g0) fun b hb _ => by have hb' : w1.heap.size ≤ b := (hb.elim id fun h => Nat.le_trans hz5 h); exact ⟨.inr (by omega), by omega, by omega, by omega⟩).kept fun b _ hlt => hba.block b hlt
                  have HMo := hid (fun v7 w7 => HDa.out.more (w7 := w7) (v' := v7) hrw hbs hBn hxa hra)
                  have hrow6 := new_row w6 [x6] (by simp)
                  have hrowa := HDa.out.row
                  have hbza : w.heap.size ≤ (w6.alloc (boxN x6)).heap.size := by have := lt_of_block HDa.out.bZ; omega
                  refine hK.out _ _ (fun _ => (boxN_facts HD6.out.bN).1.2.2) ?_
                  clear hK K hx6 hr6 hf6 hba hra hxa
                  refine anyT_one (k := 8) (by kernel_rfl) rfl (fun K hK => ?_)
                  go_simp
                  refine hK.out _ _ (fun _ => (boxN_facts HDa.out.bN).1.2.2) ?_
                  clear hK K
                  refine anyT_one (k := 9) (by kernel_rfl) rfl (fun K hK => ?_)
                  refine step_append_row (by rfl) _ _ (by rfl) w.heap.size _ g0 nvs.length c0 nvs [x6] (some ⟨w6.heap.size, 0, none⟩) 1 (by rfl) (by rfl) rfl hrowa hrow6 (by omega) (by simp) hbza ?_
                  intro v7 w7 hown7 hg7 hob7
                  obtain ⟨g7, c7, rfl, q1, q2, q3⟩ := HMo.out v7 w7 hown7 hg7 hob7
                  have hl6 : (nvs ++ [x6]).length = nvs.length + 1 := by simp
                  rw [hl6] at q2 q3 ⊢
                  have HQ2 := hid q2
                  have HQ3 := hid q3
                  obtain ⟨⟨t0, t1, t2⟩, f0, f1, f2⟩ := boxN_facts q1
                  refine hK.out _ _ (fun _ => t2) ?_
                  clear hK K hown7 hg7 hob7 q2 q3 HMo hrowa hrow6
                  refine anyT_one (k := 10) (by kernel_rfl) rfl (fun K hK => ?_)
                  go_simp
                  refine hK.out _ _ (fun _ => t2) ?_
                  clear hK K
                  refine anyT_one (k := 11) (by kernel_rfl) rfl (fun K hK => ?_)
                  go_simp
                  refine hK.out _ _ (fun hno => absurd rfl (hno _ rfl ⟨1, .phase⟩ (by simp) (by rfl))) ?_
                  clear hK K t0 t1 t2 f0 f1 f2 q1
                  refine anyT_done (by kernel_rfl) ?_
                  go_wp2_with fail
                  go_roundg g
                  case rel => exact ⟨ks ++ [n3], nvs ++ [x6], g7, c7, j3, _, hR', hne2, HL2.out.trans HLe.out, by omega, by rw [hl6]; omega, HQ3.out, HQ2.out⟩
                  case measure => omega
            · rw [if_neg hq] at hR'
              simp only [if_neg hq] at HSk
              go_wp2_with fail
              refine HSk.out.mono ?_
              rintro e w1 ⟨rfl, n1', rfl⟩
              have hbd := dN_below (Below.refl wr.heap.size wr) n1'
              have HR1 := hid (HRr.out.below hbd)
              have HD1 := hid (HDr.out.frt hrw HP.out hBn (FrT.of_below hbd HRr.out.size))
              generalize hw1 : wr.drewN n1' = w1 at *
              clear hw1 hbd HSk HRr HDr
              have HM := hid (must_st ⟨#[59]⟩ (by decide) _ HR1.out)
              rw [show (⟨#[59]⟩ : ByteArray).data.toList = [59] from rfl] at HM
              by_cases hq2 : wordT L j = [59]
              · rw [if_pos hq2] at hR'
                subst hR'
                simp only [if_pos hq2] at HM
                go_wp2_with fail
                refine HM.out.mono ?_
                rintro e w2 ⟨rfl, hr2, hf2, _⟩
                have HD2 := hid (HD1.out.frt hrw HP.out hBn hf2)
                have hg0 := (row_of HD2.out.row).1
                have HG := hid (give_stB (B := w.heap.size + 2) (u := zeroN) (x := ⟨2, -1, some ⟨g0, 0, none⟩, nvs.length, c0⟩) (n := .mk 2 (-1) ks) (P := fun b => (P b ∨ w.heap.size ≤ b) ∧ b ≠ w.heap.size + 2) (Q := fun b => P b ∨ w.heap.size ≤ b) hrw hbs (by omega) HD2.out.bZ ⟨rfl, rfl, KidsAt.of_row HD2.out.row (HD2.out.nds.mono fun b hb _ => ⟨hb.1, hb.2.2.1⟩) (fun b e => by have e' : g0 = b := (by simpa [Value.ownBlock] using e); subst e'; exact ⟨.inr hg0, HD2.out.ne2⟩)⟩ (fun b hb => hb.2) hr2 HD2.out.fr (fun b hb => hb.1))
                obtain ⟨⟨x0, x1, x2⟩, _⟩ := boxN_facts HD2.out.bN
                obtain ⟨⟨y0, y1, y2⟩, z0, z1, z2⟩ := boxN_facts (x := zeroN) HD2.out.bZ
                dsimp only [zeroN] at x0 x1 x2 y0 y1 y2
                unfold putN at HG
                dsimp only at HG
                clear hr2 hf2 HM HD1 HR1
                go_wp2_with fail
                exact bodyPost_ret (node_ret Try.results33 (g := w.heap.size + 2) (x := ⟨2, -1, some ⟨g0, 0, none⟩, nvs.length, c0⟩) HG.out.1 _ rfl) rfl ⟨_, rfl, HG.out.2⟩
              · rw [if_neg hq2] at hR'
                subst hR'
                simp only [if_neg hq2] at HM
                rw [thrown_chain] at HM
                go_wp2_with fail
                refine HM.out.mono ?_
                rintro e w2 ⟨rfl, hp2, hf2⟩
                obtain ⟨e5, hl5, hp5⟩ := hp2
                exact ⟨rfl, rfl, ⟨e5, hl5.trans HLe.out, hp5⟩, HD1.out.fr.trans hf2⟩
      · go_simp
        have hb6 : Below w5.heap.size w5 (w5.alloc (.cells #[.int .i64 0, .int .i64 0, .slice none 0 0] 27)) := below_new _ _
        have HM6 := hid (HM5.out.below hb6)
        have HN6 : Hid ((w5.alloc (.cells #[.int .i64 0, .int .i64 0, .slice none 0 0] 27)).heap[w5.heap.size]? = some (boxN zeroN)) := heap_alloc_new _ _
        have hz6 : w5.heap.size < (w5.alloc (.cells #[.int .i64 0, .int .i64 0, .slice none 0 0] 27)).heap.size := by simp
        refine hK.out _ _ ⟨HM6.out.bY, HM6.out.bX⟩ (fun hHeld => ?_)
        clear hK K hb6
        generalize w5.alloc (.cells #[.int .i64 0, .int .i64 0, .slice none 0 0] 27) = w6 at *
        refine wpAnyH_ready (rs := [5]) (by kernel_rfl) (by simp) (AllReadyH.cons rfl (fun K hK => ?_) AllReadyH.nil)
        go_simp
        have hb7 : Below w6.heap.size w6 (w6.alloc (.cells #[.int .i64 y.kind, .int .i64 y.tok, .slice y.a y.n y.c, .int .i64 x5.kind, .int .i64 x5.tok, .slice x5.a x5.n x5.c] 27)) := below_new _ _
        have HM7 := hid (HM6.out.below hb7)
        have HO7 : Hid ((w6.alloc (.cells #[.int .i64 y.kind, .int .i64 y.tok, .slice y.a y.n y.c, .int .i64 x5.kind, .int .i64 x5.tok, .slice x5.a x5.n x5.c] 27)).ownsRow w6.heap.size 27 3 (.slice (some ⟨w6.heap.size, 0, none⟩) 2 2) 2 (cellsN [y, x5])) := new_row w6 [y, x5] (by simp)
        have HN7 : Hid (_ = some (boxN zeroN)) := (hb7.block _ (lt_of_block HN6.out)).trans HN6.out
        have hz7 : w6.heap.size < (w6.alloc (.cells #[.int .i64 y.kind, .int .i64 y.tok, .slice y.a y.n y.c, .int .i64 x5.kind, .int .i64 x5.tok, .slice x5.a x5.n x5.c] 27)).heap.size := by simp
        refine hK.out _ _ ⟨HM7.out.bY, HM7.out.bX⟩ (fun hHeld => ?_)
        clear hK K hb7
        generalize w6.alloc (.cells #[.int .i64 y.kind, .int .i64 y.tok, .slice y.a y.n y.c, .int .i64 x5.kind, .int .i64 x5.tok, .slice x5.a x5.n x5.c] 27) = w7 at *
        refine wpAnyH_ready (rs := [6]) (by kernel_rfl) (by simp) (AllReadyH.cons rfl (fun K hK => ?_) AllReadyH.nil)
        go_simp
        go_wp2_with (go_at_call 20; refine (node_any 2 _ 2 2 _).mono ?_; rintro e w8 ⟨rfl, hb8⟩)
        have HM8 := hid (HM7.out.below hb8)
        have HN8 : Hid (_ = some (boxN zeroN)) := (hb8.block _ (lt_of_block HN7.out)).trans HN7.out
        have HO8 := hid (row_same HO7.out fun b _ hlt => hb8.block b hlt)
        have hz8 := hb8.size
        unfold aggN
        dsimp only
        refine hK.out _ _ ⟨HM8.out.bY, HM8.out.bX⟩ (fun hHeld => ?_)
        clear hK K hb8
        refine wpAnyH_ready (rs := [8]) (by kernel_rfl) (by simp) (AllReadyH.cons rfl (fun K hK => ?_) AllReadyH.nil)
        have hsz := HM5.out.sz
        have HSt := hid (dd_start (P := P) (Bn := w5.heap.size) (Br := w6.heap.size) hrw hbs hne hR (by omega) (by omega) (by omega) HN8.out HM8.out.bZ (row_base HO8.out (by omega)) ((NdsIs.two HM8.out.nY HM8.out.nX).mono fun b hb _ => hb.elim (fun h => ⟨.inl h.1, by omega, by omega, by omega⟩) (fun h => ⟨.inr (by omega), by omega, by omega, by omega⟩)) HM8.out.rd HM8.out.fr)
        have HS8 : Hid ((putN w8 (w5.heap.size) ⟨2, -1, some ⟨w6.heap.size, 0, none⟩, 2, 2⟩).heap[w.heap.size]? = some (boxN y) ∧ (putN w8 (w5.heap.size) ⟨2, -1, some ⟨w6.heap.size, 0, none⟩, 2, 2⟩).heap[w.heap.size + 1]? = some (boxN x)) := ⟨(putN_other _ _ _ _ (by omega)).trans HM8.out.bY, (putN_other _ _ _ _ (by omega)).trans HM8.out.bX⟩
        obtain ⟨⟨y0, y1, y2⟩, z0, z1, z2⟩ := boxN_facts (x := zeroN) HN8.out
        dsimp only [zeroN] at y0 y1 y2
        have hBn : w.heap.size + 2 < w5.heap.size := by omega
        unfold putN at HSt HS8
        dsimp only at HSt HS8
        go_simp
        refine hK.out _ _ HS8.out (fun hHeld => ?_)
        clear hK K y0 y1 y2 z0 z1 z2 HS8
        refine wpAnyH_done (by kernel_rfl) ?_ _
        go_wp2_with fail
        generalize hW8 : World.setCell _ _ _ = w8 at *
        clear hW8
        generalize w5.heap.size = Zn at hBn HSt ⊢
        go_loopg [] (L.length + 1) (fun g wr => Hid (DdSt base r la lc L F a d env1 R P w (Zn) g wr))
        case atStart => exact HSt
        case round =>
          obtain ⟨ks, nvs, g0, c0, j, env', hR', hne', hle', hgj, hng, hr', hd'⟩ := hrel.out
          have hjl : j ≤ L.length ∧ L.length ≤ 6000 := by obtain ⟨lo, hbr, vn, ms, hc, hn⟩ := hr'; exact ⟨hc.le, hc.few⟩
          obtain ⟨g, rfl⟩ : ∃ g, gk = g + 1 := ⟨gk - 1, by omega⟩
          rw [dlpT] at hR'
          have HSk := hid (skip_st ⟨#[44]⟩ (by decide) wr hr')
          rw [show (⟨#[44]⟩ : ByteArray).data.toList = [44] from rfl] at HSk
          have HRr := hid hr'
          have HDr := hid hd'
          have HLe := hid hle'
          clear hr' hd' hrel HSt hle'
          by_cases hq : wordT L j = [44]
          · rw [if_pos hq] at hR'
            simp only [if_pos hq] at HSk
            go_wp2_with fail
            refine HSk.out.mono ?_
            rintro e w1 ⟨rfl, hr1, hf1, _⟩
            have HR1 := hid hr1
            have HD1 := hid (HDr.out.frt hrw HP.out hBn hf1)
            clear hr1 hf1 HSk HRr HDr
            have hg0 := (row_of HD1.out.row).1
            have hg1 := lt_of_block (row_of HD1.out.row).2.choose_spec
            have hbn1 := lt_of_block HD1.out.bN
            have HDc := hid (fun (W : World) (hW : RdAt W base r la lc L (j + 1) env' d) => declarator_any (F := F) hs hE a ha hne' (by have := HLe.out; omega) W hW)
            unfold DcPost at HDc
            go_wp2_with fail
            have HCe := hid (fun W (hb : Below w1.heap.size w1 W) => (boxN_facts (x := ⟨2, -1, some ⟨g0, 0, none⟩, nvs.length, c0⟩) ((hb.block _ (lt_of_block HD1.out.bN)).trans HD1.out.bN)).1.2.2)
            refine wp_region_any (by kernel_rfl) ?_
            refine wpAny_take (i := 0) (v := .pointer (some ⟨Zn, 2, none⟩)) rfl (by kernel_rfl) (by kernel_rfl) (by kernel_rfl) (fun _ _ _ h => h) (Or.inl ⟨by rfl, ?_⟩) ?_
            · intro W
              go_simp
            refine wpAny_take (i := 2) (v := .pointer (some ⟨r, 0, none⟩)) rfl (by kernel_rfl) (by kernel_rfl) (by kernel_rfl) (fun _ _ _ h => h) (Or.inl ⟨by rfl, ?_⟩) ?_
            · intro W
              go_simp
            refine wpAny_take (i := 3) (v := .int .i64 a) rfl (by kernel_rfl) (by kernel_rfl) (by kernel_rfl) (fun _ _ _ h => h) (Or.inl ⟨by rfl, ?_⟩) ?_
            · intro W
              go_simp
            refine wpAny_take (i := 4) (v := .pointer (some ⟨r, 0, none⟩)) rfl (by kernel_rfl) (by kernel_rfl) (by kernel_rfl) (fun _ _ _ h => h) (Or.inl ⟨by rfl, ?_⟩) ?_
            · intro W
              go_simp
            refine wpAny_take (i := 5) (v := .int .i64 a) rfl (by kernel_rfl) (by kernel_rfl) (by kernel_rfl) (fun _ _ _ h => h) (Or.inl ⟨by rfl, ?_⟩) ?_
            · intro W
              go_simp
            refine takeT (C := fun W => W.cell? ⟨Zn, 2, none⟩ = some (.slice (some ⟨g0, 0, none⟩) nvs.length c0)) (i := 1) (v := .slice (some ⟨g0, 0, none⟩) nvs.length c0) rfl (by kernel_rfl) (by kernel_rfl) (by kernel_rfl) (fun _ _ _ h => h) (Or.inl ⟨by rfl, ?_⟩) (HCe.out _ (Below.refl _ _).drew) ?_
            · intro W hSw
              try dsimp only at hSw
              go_simp
            refine anyT_one (k := 6) (by kernel_rfl) rfl (fun K hK => ?_)
            go_simp
            cases hdc : dclT L F a d env' (j + 1) with
            | error e2 =>
              rw [hdc] at hR' HDc
              dsimp only at hR' HDc
              subst hR'
              rw [thrown_chain] at HDc
              go_wp2_with (go_at_call 31; refine (HDc.out _ (HR1.out.below (Below.refl _ _).drew)).mono ?_; rintro e w5 ⟨rfl, hp5, hf5⟩)
              obtain ⟨e5, hl5, hp5⟩ := hp5
              exact ⟨rfl, rfl, ⟨e5, hl5.trans HLe.out, hp5⟩, (HD1.out.fr.trans (FrT.of_below (Below.refl _ _).drew (by omega))).trans hf5⟩
            | ok y2 =>
              obtain ⟨n2, j2, env2⟩ := y2
              obtain ⟨hj2, hl2, hk2⟩ := dcl_ok hdc hne'
              rw [hdc] at hR' HDc
              dsimp only at hR' HDc
              unfold aggN at HDc
              go_wp2_with (go_at_call 31; refine (HDc.out _ (HR1.out.below (Below.refl _ _).drew)).mono ?_; rintro e w5 ⟨x5, rfl, hq5, hx5, hr5, hf5⟩; have HQ5 := hid hq5; clear hq5)
              have hf15 : FrT base r w1 w5 := (FrT.of_below (Below.refl _ _).drew (by omega)).trans hf5
              have HD5 := hid (HD1.out.frt hrw HP.out hBn hf15)
              have hx5' : NdIs w5 (fun b => w1.heap.size ≤ b) x5 n2 := hx5
              have hz5 : w1.heap.size ≤ w5.heap.size := hf5.low.size
              have hne2 : env2 ≠ [] := by intro e; rw [e] at hl2; exact hne' (List.eq_nil_of_length_eq_zero hl2.symm)
              have HS3 := hid (started_any hE a x5 n2 (fun b => w1.heap.size ≤ b) HQ5.out (by rw [hx5.len]; omega) w5 hr5 hx5' (fun b hb => by omega))
              unfold StPostQ aggN at HS3
              have HL2 := hid hl2
              refine hK.out _ _ (fun _ => (boxN_facts HD5.out.bN).1.2.2) ?_
              clear hK K hx5 hx5' hr5 hf5 hf15 HQ5 HDc HD1 HR1 hl2
              refine anyT_one (k := 7) (by kernel_rfl) rfl (fun K hK => ?_)
              go_simp
              cases hs3 : strT L F a d env2 n2 j2 with
              | error e3 =>
                rw [hs3] at hR' HS3
                dsimp only at hR' HS3
                subst hR'
                rw [thrown_chain] at HS3
                go_wp2_with (go_at_call 48; refine HS3.out.mono ?_; rintro e w6 ⟨rfl, hp6, hf6⟩)
                obtain ⟨e6, hl6, hp6⟩ := hp6
                exact ⟨rfl, rfl, ⟨e6, (hl6.trans HL2.out).trans HLe.out, hp6⟩, HD5.out.fr.trans hf6⟩
              | ok y3 =>
                obtain ⟨n3, j3, env3⟩ := y3
                obtain ⟨hj3, rfl⟩ := str_ok hs3
                rw [hs3] at hR' HS3
                dsimp only at hR' HS3
                go_wp2_with (go_at_call 48; refine HS3.out.mono ?_; rintro e w6 ⟨x6, rfl, hx6, hr6, hf6⟩)
                have HD6 := hid (HD5.out.frt hrw HP.out hBn hf6)
                have hba := below_new w6 (boxN x6)
                have HDa := hid (HD6.out.frt hrw HP.out hBn (FrT.of_below hba hr6.size))
                have hra := hr6.below hba
                have hxa := (hx6.mono (Q := fun b => (P b ∨ w.heap.size ≤ b) ∧ b ≠ Zn ∧ b ≠ w.heap.size + 2 ∧ b ≠ g0) fun b hb _ => by have hb' : w1.heap.size ≤ b := (hb.elim id fun h => Nat.le_trans hz5 h); exact ⟨.inr (by omega), by omega, by omega, by omega⟩).kept fun b _ hlt => hba.block b hlt
                have HMo := hid (fun v7 w7 => HDa.out.more (w7 := w7) (v' := v7) hrw hbs hBn hxa hra)
                have hrow6 := new_row w6 [x6] (by simp)
                have hrowa := HDa.out.row
                have hbza : w.heap.size ≤ (w6.alloc (boxN x6)).heap.size := by have := lt_of_block HDa.out.bZ; omega
                refine hK.out _ _ (fun _ => (boxN_facts HD6.out.bN).1.2.2) ?_
                clear hK K hx6 hr6 hf6 hba hra hxa
                refine anyT_one (k := 8) (by kernel_rfl) rfl (fun K hK => ?_)
                go_simp
                refine hK.out _ _ (fun _ => (boxN_facts HDa.out.bN).1.2.2) ?_
                clear hK K
                refine anyT_one (k := 9) (by kernel_rfl) rfl (fun K hK => ?_)
                refine step_append_row (by rfl) _ _ (by rfl) w.heap.size _ g0 nvs.length c0 nvs [x6] (some ⟨w6.heap.size, 0, none⟩) 1 (by rfl) (by rfl) rfl hrowa hrow6 (by omega) (by simp) hbza ?_
                intro v7 w7 hown7 hg7 hob7
                obtain ⟨g7, c7, rfl, q1, q2, q3⟩ := HMo.out v7 w7 hown7 hg7 hob7
                have hl6 : (nvs ++ [x6]).length = nvs.length + 1 := by simp
                rw [hl6] at q2 q3 ⊢
                have HQ2 := hid q2
                have HQ3 := hid q3
                obtain ⟨⟨t0, t1, t2⟩, f0, f1, f2⟩ := boxN_facts q1
                refine hK.out _ _ (fun _ => t2) ?_
                clear hK K hown7 hg7 hob7 q2 q3 HMo hrowa hrow6
                refine anyT_one (k := 10) (by kernel_rfl) rfl (fun K hK => ?_)
                go_simp
                refine hK.out _ _ (fun _ => t2) ?_
                clear hK K
                refine anyT_one (k := 11) (by kernel_rfl) rfl (fun K hK => ?_)
                go_simp
                refine hK.out _ _ (fun hno => absurd rfl (hno _ rfl ⟨1, .phase⟩ (by simp) (by rfl))) ?_
                clear hK K t0 t1 t2 f0 f1 f2 q1
                refine anyT_done (by kernel_rfl) ?_
                go_wp2_with fail
                go_roundg g
                case rel => exact ⟨ks ++ [n3], nvs ++ [x6], g7, c7, j3, _, hR', hne2, HL2.out.trans HLe.out, by omega, by rw [hl6]; omega, HQ3.out, HQ2.out⟩
                case measure => omega
          · rw [if_neg hq] at hR'
            simp only [if_neg hq] at HSk
            go_wp2_with fail
            refine HSk.out.mono ?_
            rintro e w1 ⟨rfl, n1', rfl⟩
            have hbd := dN_below (Below.refl wr.heap.size wr) n1'
            have HR1 := hid (HRr.out.below hbd)
            have HD1 := hid (HDr.out.frt hrw HP.out hBn (FrT.of_below hbd HRr.out.size))
            generalize hw1 : wr.drewN n1' = w1 at *
            clear hw1 hbd HSk HRr HDr
            have HM := hid (must_st ⟨#[59]⟩ (by decide) _ HR1.out)
            rw [show (⟨#[59]⟩ : ByteArray).data.toList = [59] from rfl] at HM
            by_cases hq2 : wordT L j = [59]
            · rw [if_pos hq2] at hR'
              subst hR'
              simp only [if_pos hq2] at HM
              go_wp2_with fail
              refine HM.out.mono ?_
              rintro e w2 ⟨rfl, hr2, hf2, _⟩
              have HD2 := hid (HD1.out.frt hrw HP.out hBn hf2)
              have hg0 := (row_of HD2.out.row).1
              have HG := hid (give_stB (B := w.heap.size + 2) (u := zeroN) (x := ⟨2, -1, some ⟨g0, 0, none⟩, nvs.length, c0⟩) (n := .mk 2 (-1) ks) (P := fun b => (P b ∨ w.heap.size ≤ b) ∧ b ≠ w.heap.size + 2) (Q := fun b => P b ∨ w.heap.size ≤ b) hrw hbs (by omega) HD2.out.bZ ⟨rfl, rfl, KidsAt.of_row HD2.out.row (HD2.out.nds.mono fun b hb _ => ⟨hb.1, hb.2.2.1⟩) (fun b e => by have e' : g0 = b := (by simpa [Value.ownBlock] using e); subst e'; exact ⟨.inr hg0, HD2.out.ne2⟩)⟩ (fun b hb => hb.2) hr2 HD2.out.fr (fun b hb => hb.1))
              obtain ⟨⟨x0, x1, x2⟩, _⟩ := boxN_facts HD2.out.bN
              obtain ⟨⟨y0, y1, y2⟩, z0, z1, z2⟩ := boxN_facts (x := zeroN) HD2.out.bZ
              dsimp only [zeroN] at x0 x1 x2 y0 y1 y2
              unfold putN at HG
              dsimp only at HG
              clear hr2 hf2 HM HD1 HR1
              go_wp2_with fail
              exact bodyPost_ret (node_ret Try.results33 (g := w.heap.size + 2) (x := ⟨2, -1, some ⟨g0, 0, none⟩, nvs.length, c0⟩) HG.out.1 _ rfl) rfl ⟨_, rfl, HG.out.2⟩
            · rw [if_neg hq2] at hR'
              subst hR'
              simp only [if_neg hq2] at HM
              rw [thrown_chain] at HM
              go_wp2_with fail
              refine HM.out.mono ?_
              rintro e w2 ⟨rfl, hp2, hf2⟩
              obtain ⟨e5, hl5, hp5⟩ := hp2
              exact ⟨rfl, rfl, ⟨e5, hl5.trans HLe.out, hp5⟩, HD1.out.fr.trans hf2⟩
    · go_simp
      have hb1 : Below w0.heap.size w0 (w0.alloc (.cells #[.int .i64 0, .int .i64 0, .slice none 0 0] 27)).drew := (below_new w0 (boxN zeroN)).drew
      have HM1 := hid (HM0.out.below hb1)
      have HN1 : Hid ((w0.alloc (.cells #[.int .i64 0, .int .i64 0, .slice none 0 0] 27)).drew.heap[w.heap.size + 3]? = some (boxN zeroN)) := by have := heap_alloc_new w0 (boxN zeroN); rw [hz0] at this; exact this
      have hz1 : (w0.alloc (.cells #[.int .i64 0, .int .i64 0, .slice none 0 0] 27)).drew.heap.size = w.heap.size + 4 := by show (w0.alloc (boxN zeroN)).heap.size = _; rw [World.size_alloc, hz0]
      refine hK.out _ _ ⟨HM1.out.bY, HM1.out.bX⟩ (fun hHeld => ?_)
      clear hK K hb1
      generalize (w0.alloc (.cells #[.int .i64 0, .int .i64 0, .slice none 0 0] 27)).drew = w1 at *
      refine wpAnyH_ready (rs := [4]) (by kernel_rfl) (by simp) (AllReadyH.cons rfl (fun K hK => ?_) AllReadyH.nil)
      go_simp
      go_wp2_with (go_at_call 48; refine (HS.out _ HM1.out.rd HM1.out.nX).mono ?_; rintro e w5 ⟨x5, rfl, hx5, hr5, hf5⟩)
      have HM5 := hid (HM1.out.next hrw HP.out hx5 hr5 hf5)
      have HN5 : Hid (w5.heap[w.heap.size + 3]? = some (boxN zeroN)) := boxN_frt HN1.out hf5 (by omega)
      have hz5 := lt_of_block HN5.out
      clear hx5 hr5 hf5
      refine hK.out _ _ ⟨HM5.out.bY, HM5.out.bX⟩ (fun hHeld => ?_)
      clear hK K
      refine wpAnyH_ready (rs := [5]) (by kernel_rfl) (by simp) (AllReadyH.cons rfl (fun K hK => ?_) AllReadyH.nil)
      go_simp
      have hb6 : Below w5.heap.size w5 (w5.alloc (.cells #[.int .i64 y.kind, .int .i64 y.tok, .slice y.a y.n y.c, .int .i64 x5.kind, .int .i64 x5.tok, .slice x5.a x5.n x5.c] 27)) := below_new _ _
      have HM6 := hid (HM5.out.below hb6)
      have HO6 : Hid ((w5.alloc (.cells #[.int .i64 y.kind, .int .i64 y.tok, .slice y.a y.n y.c, .int .i64 x5.kind, .int .i64 x5.tok, .slice x5.a x5.n x5.c] 27)).ownsRow w5.heap.size 27 3 (.slice (some ⟨w5.heap.size, 0, none⟩) 2 2) 2 (cellsN [y, x5])) := new_row w5 [y, x5] (by simp)
      have HN6 : Hid (_ = some (boxN zeroN)) := (hb6.block _ (lt_of_block HN5.out)).trans HN5.out
      have hz6 : w5.heap.size < (w5.alloc (.cells #[.int .i64 y.kind, .int .i64 y.tok, .slice y.a y.n y.c, .int .i64 x5.kind, .int .i64 x5.tok, .slice x5.a x5.n x5.c] 27)).heap.size := by simp
      refine hK.out _ _ ⟨HM6.out.bY, HM6.out.bX⟩ (fun hHeld => ?_)
      clear hK K hb6
      generalize w5.alloc (.cells #[.int .i64 y.kind, .int .i64 y.tok, .slice y.a y.n y.c, .int .i64 x5.kind, .int .i64 x5.tok, .slice x5.a x5.n x5.c] 27) = w6 at *
      refine wpAnyH_ready (rs := [6]) (by kernel_rfl) (by simp) (AllReadyH.cons rfl (fun K hK => ?_) AllReadyH.nil)
      go_simp
      go_wp2_with (go_at_call 20; refine (node_any 2 _ 2 2 _).mono ?_; rintro e w7 ⟨rfl, hb7⟩)
      have HM7 := hid (HM6.out.below hb7)
      have HN7 : Hid (_ = some (boxN zeroN)) := (hb7.block _ (lt_of_block HN6.out)).trans HN6.out
      have HO7 := hid (row_same HO6.out fun b _ hlt => hb7.block b hlt)
      have hz7 := hb7.size
      unfold aggN
      dsimp only
      refine hK.out _ _ ⟨HM7.out.bY, HM7.out.bX⟩ (fun hHeld => ?_)
      clear hK K hb7
      refine wpAnyH_ready (rs := [8]) (by kernel_rfl) (by simp) (AllReadyH.cons rfl (fun K hK => ?_) AllReadyH.nil)
      have hsz := HM5.out.sz
      have HSt := hid (dd_start (P := P) (Bn := w.heap.size + 3) (Br := w5.heap.size) hrw hbs hne hR (by omega) (by omega) (by omega) HN7.out HM7.out.bZ (row_base HO7.out (by omega)) ((NdsIs.two HM7.out.nY HM7.out.nX).mono fun b hb _ => hb.elim (fun h => ⟨.inl h.1, by omega, by omega, by omega⟩) (fun h => ⟨.inr (by omega), by omega, by omega, by omega⟩)) HM7.out.rd HM7.out.fr)
      have HS8 : Hid ((putN w7 (w.heap.size + 3) ⟨2, -1, some ⟨w5.heap.size, 0, none⟩, 2, 2⟩).heap[w.heap.size]? = some (boxN y) ∧ (putN w7 (w.heap.size + 3) ⟨2, -1, some ⟨w5.heap.size, 0, none⟩, 2, 2⟩).heap[w.heap.size + 1]? = some (boxN x)) := ⟨(putN_other _ _ _ _ (by omega)).trans HM7.out.bY, (putN_other _ _ _ _ (by omega)).trans HM7.out.bX⟩
      obtain ⟨⟨y0, y1, y2⟩, z0, z1, z2⟩ := boxN_facts (x := zeroN) HN7.out
      dsimp only [zeroN] at y0 y1 y2
      have hBn : w.heap.size + 2 < w.heap.size + 3 := by omega
      unfold putN at HSt HS8
      dsimp only at HSt HS8
      go_simp
      refine hK.out _ _ HS8.out (fun hHeld => ?_)
      clear hK K y0 y1 y2 z0 z1 z2 HS8
      refine wpAnyH_done (by kernel_rfl) ?_ _
      go_wp2_with fail
      generalize hW8 : World.setCell _ _ _ = w8 at *
      clear hW8
      generalize w.heap.size + 3 = Zn at hBn HSt ⊢
      go_loopg [] (L.length + 1) (fun g wr => Hid (DdSt base r la lc L F a d env1 R P w (Zn) g wr))
      case atStart => exact HSt
      case round =>
        obtain ⟨ks, nvs, g0, c0, j, env', hR', hne', hle', hgj, hng, hr', hd'⟩ := hrel.out
        have hjl : j ≤ L.length ∧ L.length ≤ 6000 := by obtain ⟨lo, hbr, vn, ms, hc, hn⟩ := hr'; exact ⟨hc.le, hc.few⟩
        obtain ⟨g, rfl⟩ : ∃ g, gk = g + 1 := ⟨gk - 1, by omega⟩
        rw [dlpT] at hR'
        have HSk := hid (skip_st ⟨#[44]⟩ (by decide) wr hr')
        rw [show (⟨#[44]⟩ : ByteArray).data.toList = [44] from rfl] at HSk
        have HRr := hid hr'
        have HDr := hid hd'
        have HLe := hid hle'
        clear hr' hd' hrel HSt hle'
        by_cases hq : wordT L j = [44]
        · rw [if_pos hq] at hR'
          simp only [if_pos hq] at HSk
          go_wp2_with fail
          refine HSk.out.mono ?_
          rintro e w1 ⟨rfl, hr1, hf1, _⟩
          have HR1 := hid hr1
          have HD1 := hid (HDr.out.frt hrw HP.out hBn hf1)
          clear hr1 hf1 HSk HRr HDr
          have hg0 := (row_of HD1.out.row).1
          have hg1 := lt_of_block (row_of HD1.out.row).2.choose_spec
          have hbn1 := lt_of_block HD1.out.bN
          have HDc := hid (fun (W : World) (hW : RdAt W base r la lc L (j + 1) env' d) => declarator_any (F := F) hs hE a ha hne' (by have := HLe.out; omega) W hW)
          unfold DcPost at HDc
          go_wp2_with fail
          have HCe := hid (fun W (hb : Below w1.heap.size w1 W) => (boxN_facts (x := ⟨2, -1, some ⟨g0, 0, none⟩, nvs.length, c0⟩) ((hb.block _ (lt_of_block HD1.out.bN)).trans HD1.out.bN)).1.2.2)
          refine wp_region_any (by kernel_rfl) ?_
          refine wpAny_take (i := 0) (v := .pointer (some ⟨Zn, 2, none⟩)) rfl (by kernel_rfl) (by kernel_rfl) (by kernel_rfl) (fun _ _ _ h => h) (Or.inl ⟨by rfl, ?_⟩) ?_
          · intro W
            go_simp
          refine wpAny_take (i := 2) (v := .pointer (some ⟨r, 0, none⟩)) rfl (by kernel_rfl) (by kernel_rfl) (by kernel_rfl) (fun _ _ _ h => h) (Or.inl ⟨by rfl, ?_⟩) ?_
          · intro W
            go_simp
          refine wpAny_take (i := 3) (v := .int .i64 a) rfl (by kernel_rfl) (by kernel_rfl) (by kernel_rfl) (fun _ _ _ h => h) (Or.inl ⟨by rfl, ?_⟩) ?_
          · intro W
            go_simp
          refine wpAny_take (i := 4) (v := .pointer (some ⟨r, 0, none⟩)) rfl (by kernel_rfl) (by kernel_rfl) (by kernel_rfl) (fun _ _ _ h => h) (Or.inl ⟨by rfl, ?_⟩) ?_
          · intro W
            go_simp
          refine wpAny_take (i := 5) (v := .int .i64 a) rfl (by kernel_rfl) (by kernel_rfl) (by kernel_rfl) (fun _ _ _ h => h) (Or.inl ⟨by rfl, ?_⟩) ?_
          · intro W
            go_simp
          refine takeT (C := fun W => W.cell? ⟨Zn, 2, none⟩ = some (.slice (some ⟨g0, 0, none⟩) nvs.length c0)) (i := 1) (v := .slice (some ⟨g0, 0, none⟩) nvs.length c0) rfl (by kernel_rfl) (by kernel_rfl) (by kernel_rfl) (fun _ _ _ h => h) (Or.inl ⟨by rfl, ?_⟩) (HCe.out _ (Below.refl _ _).drew) ?_
          · intro W hSw
            try dsimp only at hSw
            go_simp
          refine anyT_one (k := 6) (by kernel_rfl) rfl (fun K hK => ?_)
          go_simp
          cases hdc : dclT L F a d env' (j + 1) with
          | error e2 =>
            rw [hdc] at hR' HDc
            dsimp only at hR' HDc
            subst hR'
            rw [thrown_chain] at HDc
            go_wp2_with (go_at_call 31; refine (HDc.out _ (HR1.out.below (Below.refl _ _).drew)).mono ?_; rintro e w5 ⟨rfl, hp5, hf5⟩)
            obtain ⟨e5, hl5, hp5⟩ := hp5
            exact ⟨rfl, rfl, ⟨e5, hl5.trans HLe.out, hp5⟩, (HD1.out.fr.trans (FrT.of_below (Below.refl _ _).drew (by omega))).trans hf5⟩
          | ok y2 =>
            obtain ⟨n2, j2, env2⟩ := y2
            obtain ⟨hj2, hl2, hk2⟩ := dcl_ok hdc hne'
            rw [hdc] at hR' HDc
            dsimp only at hR' HDc
            unfold aggN at HDc
            go_wp2_with (go_at_call 31; refine (HDc.out _ (HR1.out.below (Below.refl _ _).drew)).mono ?_; rintro e w5 ⟨x5, rfl, hq5, hx5, hr5, hf5⟩; have HQ5 := hid hq5; clear hq5)
            have hf15 : FrT base r w1 w5 := (FrT.of_below (Below.refl _ _).drew (by omega)).trans hf5
            have HD5 := hid (HD1.out.frt hrw HP.out hBn hf15)
            have hx5' : NdIs w5 (fun b => w1.heap.size ≤ b) x5 n2 := hx5
            have hz5 : w1.heap.size ≤ w5.heap.size := hf5.low.size
            have hne2 : env2 ≠ [] := by intro e; rw [e] at hl2; exact hne' (List.eq_nil_of_length_eq_zero hl2.symm)
            have HS3 := hid (started_any hE a x5 n2 (fun b => w1.heap.size ≤ b) HQ5.out (by rw [hx5.len]; omega) w5 hr5 hx5' (fun b hb => by omega))
            unfold StPostQ aggN at HS3
            have HL2 := hid hl2
            refine hK.out _ _ (fun _ => (boxN_facts HD5.out.bN).1.2.2) ?_
            clear hK K hx5 hx5' hr5 hf5 hf15 HQ5 HDc HD1 HR1 hl2
            refine anyT_one (k := 7) (by kernel_rfl) rfl (fun K hK => ?_)
            go_simp
            cases hs3 : strT L F a d env2 n2 j2 with
            | error e3 =>
              rw [hs3] at hR' HS3
              dsimp only at hR' HS3
              subst hR'
              rw [thrown_chain] at HS3
              go_wp2_with (go_at_call 48; refine HS3.out.mono ?_; rintro e w6 ⟨rfl, hp6, hf6⟩)
              obtain ⟨e6, hl6, hp6⟩ := hp6
              exact ⟨rfl, rfl, ⟨e6, (hl6.trans HL2.out).trans HLe.out, hp6⟩, HD5.out.fr.trans hf6⟩
            | ok y3 =>
              obtain ⟨n3, j3, env3⟩ := y3
              obtain ⟨hj3, rfl⟩ := str_ok hs3
              rw [hs3] at hR' HS3
              dsimp only at hR' HS3
              go_wp2_with (go_at_call 48; refine HS3.out.mono ?_; rintro e w6 ⟨x6, rfl, hx6, hr6, hf6⟩)
              have HD6 := hid (HD5.out.frt hrw HP.out hBn hf6)
              have hba := below_new w6 (boxN x6)
              have HDa := hid (HD6.out.frt hrw HP.out hBn (FrT.of_below hba hr6.size))
              have hra := hr6.below hba
              have hxa := (hx6.mono (Q := fun b => (P b ∨ w.heap.size ≤ b) ∧ b ≠ Zn ∧ b ≠ w.heap.size + 2 ∧ b ≠ g0) fun b hb _ => by have hb' : w1.heap.size ≤ b := (hb.elim id fun h => Nat.le_trans hz5 h); exact ⟨.inr (by omega), by omega, by omega, by omega⟩).kept fun b _ hlt => hba.block b hlt
              have HMo := hid (fun v7 w7 => HDa.out.more (w7 := w7) (v' := v7) hrw hbs hBn hxa hra)
              have hrow6 := new_row w6 [x6] (by simp)
              have hrowa := HDa.out.row
              have hbza : w.heap.size ≤ (w6.alloc (boxN x6)).heap.size := by have := lt_of_block HDa.out.bZ; omega
              refine hK.out _ _ (fun _ => (boxN_facts HD6.out.bN).1.2.2) ?_
              clear hK K hx6 hr6 hf6 hba hra hxa
              refine anyT_one (k := 8) (by kernel_rfl) rfl (fun K hK => ?_)
              go_simp
              refine hK.out _ _ (fun _ => (boxN_facts HDa.out.bN).1.2.2) ?_
              clear hK K
              refine anyT_one (k := 9) (by kernel_rfl) rfl (fun K hK => ?_)
              refine step_append_row (by rfl) _ _ (by rfl) w.heap.size _ g0 nvs.length c0 nvs [x6] (some ⟨w6.heap.size, 0, none⟩) 1 (by rfl) (by rfl) rfl hrowa hrow6 (by omega) (by simp) hbza ?_
              intro v7 w7 hown7 hg7 hob7
              obtain ⟨g7, c7, rfl, q1, q2, q3⟩ := HMo.out v7 w7 hown7 hg7 hob7
              have hl6 : (nvs ++ [x6]).length = nvs.length + 1 := by simp
              rw [hl6] at q2 q3 ⊢
              have HQ2 := hid q2
              have HQ3 := hid q3
              obtain ⟨⟨t0, t1, t2⟩, f0, f1, f2⟩ := boxN_facts q1
              refine hK.out _ _ (fun _ => t2) ?_
              clear hK K hown7 hg7 hob7 q2 q3 HMo hrowa hrow6
              refine anyT_one (k := 10) (by kernel_rfl) rfl (fun K hK => ?_)
              go_simp
              refine hK.out _ _ (fun _ => t2) ?_
              clear hK K
              refine anyT_one (k := 11) (by kernel_rfl) rfl (fun K hK => ?_)
              go_simp
              refine hK.out _ _ (fun hno => absurd rfl (hno _ rfl ⟨1, .phase⟩ (by simp) (by rfl))) ?_
              clear hK K t0 t1 t2 f0 f1 f2 q1
              refine anyT_done (by kernel_rfl) ?_
              go_wp2_with fail
              go_roundg g
              case rel => exact ⟨ks ++ [n3], nvs ++ [x6], g7, c7, j3, _, hR', hne2, HL2.out.trans HLe.out, by omega, by rw [hl6]; omega, HQ3.out, HQ2.out⟩
              case measure => omega
        · rw [if_neg hq] at hR'
          simp only [if_neg hq] at HSk
          go_wp2_with fail
          refine HSk.out.mono ?_
          rintro e w1 ⟨rfl, n1', rfl⟩
          have hbd := dN_below (Below.refl wr.heap.size wr) n1'
          have HR1 := hid (HRr.out.below hbd)
          have HD1 := hid (HDr.out.frt hrw HP.out hBn (FrT.of_below hbd HRr.out.size))
          generalize hw1 : wr.drewN n1' = w1 at *
          clear hw1 hbd HSk HRr HDr
          have HM := hid (must_st ⟨#[59]⟩ (by decide) _ HR1.out)
          rw [show (⟨#[59]⟩ : ByteArray).data.toList = [59] from rfl] at HM
          by_cases hq2 : wordT L j = [59]
          · rw [if_pos hq2] at hR'
            subst hR'
            simp only [if_pos hq2] at HM
            go_wp2_with fail
            refine HM.out.mono ?_
            rintro e w2 ⟨rfl, hr2, hf2, _⟩
            have HD2 := hid (HD1.out.frt hrw HP.out hBn hf2)
            have hg0 := (row_of HD2.out.row).1
            have HG := hid (give_stB (B := w.heap.size + 2) (u := zeroN) (x := ⟨2, -1, some ⟨g0, 0, none⟩, nvs.length, c0⟩) (n := .mk 2 (-1) ks) (P := fun b => (P b ∨ w.heap.size ≤ b) ∧ b ≠ w.heap.size + 2) (Q := fun b => P b ∨ w.heap.size ≤ b) hrw hbs (by omega) HD2.out.bZ ⟨rfl, rfl, KidsAt.of_row HD2.out.row (HD2.out.nds.mono fun b hb _ => ⟨hb.1, hb.2.2.1⟩) (fun b e => by have e' : g0 = b := (by simpa [Value.ownBlock] using e); subst e'; exact ⟨.inr hg0, HD2.out.ne2⟩)⟩ (fun b hb => hb.2) hr2 HD2.out.fr (fun b hb => hb.1))
            obtain ⟨⟨x0, x1, x2⟩, _⟩ := boxN_facts HD2.out.bN
            obtain ⟨⟨y0, y1, y2⟩, z0, z1, z2⟩ := boxN_facts (x := zeroN) HD2.out.bZ
            dsimp only [zeroN] at x0 x1 x2 y0 y1 y2
            unfold putN at HG
            dsimp only at HG
            clear hr2 hf2 HM HD1 HR1
            go_wp2_with fail
            exact bodyPost_ret (node_ret Try.results33 (g := w.heap.size + 2) (x := ⟨2, -1, some ⟨g0, 0, none⟩, nvs.length, c0⟩) HG.out.1 _ rfl) rfl ⟨_, rfl, HG.out.2⟩
          · rw [if_neg hq2] at hR'
            subst hR'
            simp only [if_neg hq2] at HM
            rw [thrown_chain] at HM
            go_wp2_with fail
            refine HM.out.mono ?_
            rintro e w2 ⟨rfl, hp2, hf2⟩
            obtain ⟨e5, hl5, hp5⟩ := hp2
            exact ⟨rfl, rfl, ⟨e5, hl5.trans HLe.out, hp5⟩, HD1.out.fr.trans hf2⟩
end Go.Proofs.Ytocklchafmlfkaa
