/- Walk of moved. -/
import Derived.Test.YtocklchafmlfkaaTgM
import Derived.Test.YtocklchafmlfkaaTgN
import Derived.Test.YtocklchafmlfkaaTgF
namespace Go.Proofs.Ytocklchafmlfkaa
open Go.RowKit Go.Shelf

/-- Ahead of a round: what is moved so far. -/
structure MvSt (w : World) (xk mt : Int) (ms : List Nd) (nvs : List Nv) (a : Option Addr) (c : Nat) (W : World) : Prop where
  old : Below w.heap.size w W
  bN : W.heap[w.heap.size + 2]? = some (boxN ⟨xk, mt, a, nvs.length, c⟩)
  bZ : W.heap[w.heap.size + 1]? = some (boxN zeroN)
  row : W.ownsRow (w.heap.size + 3) 27 3 (.slice a nvs.length c) nvs.length (cellsN nvs)
  nds : NdsIs W (fun b => w.heap.size + 3 ≤ b ∧ (Value.slice a nvs.length c).ownBlock ≠ some b) nvs ms
theorem MvSt.below {w : World} {xk mt : Int} {ms : List Nd} {nvs : List Nv} {a : Option Addr} {c : Nat} {W W' : World} (h : MvSt w xk mt ms nvs a c W) (hb : Below W.heap.size W W') : MvSt w xk mt ms nvs a c W' :=
  ⟨h.old.trans (hb.mono h.old.size), (hb.block _ (lt_of_block h.bN)).trans h.bN, (hb.block _ (lt_of_block h.bZ)).trans h.bZ, row_same h.row fun b _ hlt => hb.block b hlt, h.nds.kept fun b _ hlt => hb.block b hlt⟩
theorem MvSt.more {w : World} {xk mt : Int} {ms : List Nd} {nvs : List Nv} {a : Option Addr} {c : Nat} {W w7 : World} {x6 : Nv} {m : Nd} {v' : Value} (h : MvSt w xk mt ms nvs a c W) (hx : NdIs W (fun b => w.heap.size + 3 ≤ b ∧ (Value.slice a nvs.length c).ownBlock ≠ some b) x6 m)
    (hown : w7.ownsRow (w.heap.size + 3) 27 3 v' (nvs ++ [x6]).length (cellsN (nvs ++ [x6]))) (hg : W.grownBy w7 (Value.slice a nvs.length c).ownBlock) (hob : v'.ownBlock = (Value.slice a nvs.length c).ownBlock ∨ v'.ownBlock = some W.heap.size) :
    ∃ a1 c1, v' = .slice a1 (nvs ++ [x6]).length c1 ∧ w7.heap[w.heap.size + 2]? = some (boxN ⟨xk, mt, a, nvs.length, c⟩) ∧ MvSt w xk mt (ms ++ [m]) (nvs ++ [x6]) a1 c1 (w7.setCell ⟨w.heap.size + 2, 2, none⟩ v') := by
  have hlb := lt_of_block h.bN
  have hlz := lt_of_block h.bZ
  obtain ⟨a1, c1, rfl⟩ := row_val hown
  have hlow : ∀ b, b < w.heap.size + 3 → (Value.slice a nvs.length c).ownBlock ≠ some b := fun b hb e => by have := (rowA_of h.row e).1; omega
  have hbl : ∀ b, b < W.heap.size → (Value.slice a nvs.length c).ownBlock ≠ some b → w7.heap[b]? = W.heap[b]? := fun b hb hne => hg.block b hb (fun e => hne e.symm)
  have hN7 := (hbl _ hlb (hlow _ (by omega))).trans h.bN
  have hZ7 := (hbl _ hlz (hlow _ (by omega))).trans h.bZ
  have hso : ∀ b, b ≠ w.heap.size + 2 → (w7.setCell ⟨w.heap.size + 2, 2, none⟩ (.slice a1 (nvs ++ [x6]).length c1)).heap[b]? = w7.heap[b]? := fun b hb => Below.heap_setCell _ _ _ _ hb
  have hne' : ∀ b, b < W.heap.size → (Value.slice a nvs.length c).ownBlock ≠ some b → (Value.slice a1 (nvs ++ [x6]).length c1).ownBlock ≠ some b := fun b hb hn e => by
    rcases hob with e' | e'
    · exact hn (e' ▸ e)
    · rw [e'] at e
      injection e with e
      omega
  have hol := h.old
  refine ⟨a1, c1, rfl, hN7, ⟨⟨?_, ?_, ?_, ?_, fun b hb => ?_⟩, (Go.Joins.block_setCell (i := 2) hN7 _).trans rfl, (hso _ (by omega)).trans hZ7, row_same hown fun b hb _ => hso b ?_, ?_⟩⟩
  · exact hg.os.trans hol.os
  · exact hg.tape.trans hol.tape
  · exact hg.output.trans hol.output
  · have := hol.size
    have := hg.size
    simp
    omega
  · exact (hso b (by omega)).trans ((hbl b (by omega) (hlow b (by omega))).trans (hol.block b hb))
  · have := (rowA_of hown hb).1
    omega
  · exact (((h.nds.snoc hx).mono (Q := fun b => (w.heap.size + 3 ≤ b ∧ (Value.slice a nvs.length c).ownBlock ≠ some b) ∧ b < W.heap.size) fun b hb hlt => ⟨hb, hlt⟩).kept (w' := w7) fun b hb hlt => hbl b hlt hb.1.2).kept (fun b hb _ => hso b (by omega)) |>.mono fun b hb _ => ⟨hb.1.1, hne' b hb.2 hb.1.2⟩
theorem mvL_take (o : Nat) : ∀ (ks : List Nd) (j : Nat) (n : Nd), ks[j]? = some n → mvL o (ks.take (j + 1)) = mvL o (ks.take j) ++ [mvN o n]
  | [], j, n, h => by simp at h
  | m :: ks, 0, n, h => by
    simp at h
    subst h
    rw [List.take_succ_cons, List.take_zero, List.take_zero, mvL_cons, mvL_nil, List.nil_append]
  | m :: ks, j + 1, n, h => by
    rw [List.take_succ_cons, List.take_succ_cons, mvL_cons, mvL_cons, mvL_take o ks j n (by simpa using h), List.cons_append]

set_option maxRecDepth 100000 in
set_option maxHeartbeats 2000000 in
theorem moved_any (o : Nat) (ho : o ≤ 10000) : ∀ (f : Nat) (n : Nd), szN n ≤ f → f ≤ 1000000 → ∀ (x : Nv) (P : Nat → Prop) (w : World), NdIs w P x n → (∀ t, 10000 ≤ t → cntN n t = 0) →
    Calls Try.prog 11 #[aggN x, .int .i64 (o : Int)] w fun e w' => (∃ x', e = .returned (aggN x') ∧ NdIs w' (w.heap.size ≤ ·) x' (mvN o n)) ∧ Below w.heap.size w w'
  | 0, n, hf, _, _, _, _, _, _ => by obtain ⟨k, t, ks⟩ := n; rw [szN_mk] at hf; omega
  | f + 1, n, hf, hfm, x, P, w, hx, ht => by
    obtain ⟨k, tok, ks⟩ := n
    rw [szN_mk] at hf
    obtain ⟨xk, xt, xa, xn, xc⟩ := x
    have hx1 : xk = k := hx.kind
    have hx2 : xt = tok := hx.tok
    have hx3 : xn = ks.length := hx.len
    subst hx1 hx2 hx3
    have hKx : KidsAt w P (.slice xa ks.length xc) ks := hx.kids
    have hts : xt < 10000 := by
      by_cases h0 : 10000 ≤ xt
      · have := ht xt.toNat (by omega)
        rw [cntN_mk, if_pos (by omega)] at this
        omega
      · omega
    have htl : ∀ t, 10000 ≤ t → cntL ks t = 0 := fun t h => by have := ht t h; rw [cntN_mk] at this; omega
    obtain ⟨mt, hmt⟩ : ∃ mt : Int, mt = if 0 ≤ xt then xt + (o : Int) else xt := ⟨_, rfl⟩
    have Hmt := hid hmt
    have HSt : Hid (∃ nvs a c, nvs.length = 0 ∧ MvSt w xk mt (mvL o (ks.take 0)) nvs a c (((w.alloc (boxN ⟨xk, xt, xa, ks.length, xc⟩)).alloc (boxN zeroN)).alloc (boxN ⟨xk, mt, none, 0, 0⟩))) := by
      refine ⟨[], none, 0, rfl, ⟨(below_new w _).trans (((below_new _ _).trans ((below_new _ _).mono (by simp))).mono (by simp)), ?_, ?_, World.ownsRow_nil _ _ _ _, ?_⟩⟩
      · have := heap_alloc_new ((w.alloc (boxN ⟨xk, xt, xa, ks.length, xc⟩)).alloc (boxN zeroN)) (boxN ⟨xk, mt, none, 0, 0⟩)
        rw [World.size_alloc, World.size_alloc] at this
        exact this
      · refine ((below_new _ _).block _ (by simp)).trans ?_
        have := heap_alloc_new (w.alloc (boxN ⟨xk, xt, xa, ks.length, xc⟩)) (boxN zeroN)
        rwa [World.size_alloc] at this
      · rw [List.take_zero, mvL_nil]
        exact NdsIs.nil
    dsimp only [boxN, zeroN] at HSt
    clear hx
    by_cases h0 : 0 ≤ xt
    · have e1 : mt = xt + (o : Int) := by rw [hmt, if_pos h0]
      have hw1 : IntKind.i64.wrap (xt + (o : Int)) = xt + (o : Int) := by rw [IntKind.wrap_i64]; omega
      have hd0 : decide (0 ≤ xt) = true := decide_eq_true h0
      have hd1 : decide (xt < 10000) = true := decide_eq_true hts
      clear hmt
      unfold aggN
      dsimp only
      go_enter Try.func11, Try.ntmps11
      rw [e1] at HSt
      have HE := hid e1
      clear e1
      go_wp2_with fail
      generalize ((w.alloc (.cells #[.int .i64 xk, .int .i64 xt, .slice xa ks.length xc] 27)).alloc (.cells #[.int .i64 0, .int .i64 0, .slice none 0 0] 27)).alloc (.cells #[.int .i64 xk, .int .i64 (xt + (o : Int)), .slice none 0 0] 27) = w0 at *
      rw [← HE.out] at HSt
      go_loopw [29] (fun v wr => ∃ j : Nat, j ≤ ks.length ∧ v = .int .i64 (j : Int) ∧ Hid (∃ nvs a c, nvs.length = j ∧ MvSt w xk mt (mvL o (ks.take j)) nvs a c wr)) (fun v _ => ks.length - (intOf v).toNat)
      case atStart => exact ⟨0, Nat.zero_le _, rfl, HSt⟩
      case round =>
        obtain ⟨j, hj, rfl, hst⟩ := hrel
        obtain ⟨nvs, a, c, hnj, hM⟩ := hst.out
        have HM := hid hM
        have HNj := hid hnj
        by_cases hjl : j < ks.length
        · have hji : (j : Int) < (ks.length : Int) := by omega
          have hj0 : (0 : Int) ≤ (j : Int) := by omega
          obtain ⟨kd, hkd⟩ : ∃ kd, ks[j]? = some kd := ⟨_, List.getElem?_eq_getElem hjl⟩
          obtain ⟨g, y, ea, _, hgl, _, hnc, hcm, hy, e0, e1, e2⟩ := kid_cell (hKx.kept fun b _ hlt => hM.old.block b hlt) j kd hkd
          cases ea
          have hw2 : IntKind.i64.wrap ((j : Int) + 1) = (j : Int) + 1 := wrap_next (by omega) hcm
          have hbk := below_new wr (boxN y)
          have HMk := hid (hM.below hbk)
          have HKb := hid (heap_alloc_new wr (boxN y))
          have hz1 : wr.heap.size < (wr.alloc (boxN y)).heap.size := by simp
          have HI := hid (fun W (hW : Below (wr.alloc (boxN y)).heap.size (wr.alloc (boxN y)) W) => moved_any o ho f kd (by have := szL_at ks j kd hkd; omega) (by omega) y P W ((hy.kept fun b _ hlt => hbk.block b hlt).kept fun b _ hlt => hW.block b hlt) (fun t h => by have := htl t h; have := (cntL_at t ks j kd hkd).2; omega))
          have HTk := hid (mvL_take o ks j kd hkd)
          have hnl : nvs.length ≤ 1000000 := by have := szL_len ks; omega
          unfold aggN at HI
          dsimp only [boxN] at HI HMk HKb hz1
          clear hM hst hy hbk
          clear hnj
          go_wp2_with fail
          generalize wr.alloc (.cells #[.int .i64 y.kind, .int .i64 y.tok, .slice y.a y.n y.c] 27) = w1 at *
          have HCe := hid (fun W (hb : Below w1.heap.size w1 W) => (boxN_facts (x := ⟨xk, mt, a, nvs.length, c⟩) ((hb.block _ (lt_of_block HMk.out.bN)).trans HMk.out.bN)).1.2.2)
          have HKe := hid (fun W (hb : Below w1.heap.size w1 W) => (boxN_facts (x := y) ((hb.block _ (lt_of_block HKb.out)).trans HKb.out)).1)
          have hob1 : ∀ b, (Value.slice a nvs.length c).ownBlock = some b → b < w1.heap.size := fun b e => by obtain ⟨_, cur, k2⟩ := rowA_of HMk.out.row e; exact lt_of_block k2
          have hzb := lt_of_block HMk.out.bN
          refine wp_region_any (by kernel_rfl) ?_
          refine wpAny_take (i := 0) (v := .pointer (some ⟨w.heap.size + 2, 2, none⟩)) rfl (by kernel_rfl) (by kernel_rfl) (by kernel_rfl) (fun _ _ _ h => h) (Or.inl ⟨by rfl, ?_⟩) ?_
          · intro W
            go_simp
          refine wpAny_take (i := 3) (v := .int .i64 (o : Int)) rfl (by kernel_rfl) (by kernel_rfl) (by kernel_rfl) (fun _ _ _ h => h) (Or.inl ⟨by rfl, ?_⟩) ?_
          · intro W
            go_simp
          refine takeT (C := fun W => W.cell? ⟨w.heap.size + 2, 2, none⟩ = some (.slice a nvs.length c)) (i := 1) (v := .slice a nvs.length c) rfl (by kernel_rfl) (by kernel_rfl) (by kernel_rfl) (fun _ _ _ h => h) (Or.inl ⟨by rfl, ?_⟩) (HCe.out _ (Below.refl _ _).drew) ?_
          · intro W hSw
            try dsimp only at hSw
            go_simp
          refine anyT_one (k := 2) (by kernel_rfl) rfl (fun K hK => ?_)
          obtain ⟨k0, k1, k2⟩ := HKe.out _ (Below.refl w1.heap.size w1).drew
          go_simp
          refine hK.out _ _ (fun _ => HCe.out _ (Below.refl _ _).drew) ?_
          clear hK K k0 k1 k2
          refine anyT_one (k := 4) (by kernel_rfl) rfl (fun K hK => ?_)
          go_simp
          go_wp2_with (go_at_call 11; refine (HI.out _ (Below.refl _ _).drew).mono ?_; rintro e w5 ⟨⟨x5, rfl, hx5⟩, hb5⟩)
          have hb15 : Below w1.heap.size w1 w5 := (Below.refl _ _).drew.trans hb5
          have HM5 := hid (HMk.out.below hb15)
          have hb56 := below_new w5 (boxN x5)
          have HM6 := hid (HM5.out.below hb56)
          have hz15 : w1.heap.size ≤ w5.heap.size := hb15.size
          have hx6 := (hx5.mono (Q := fun b => w.heap.size + 3 ≤ b ∧ (Value.slice a nvs.length c).ownBlock ≠ some b) fun b hb _ => by have hb' : w1.heap.size ≤ b := hb; exact ⟨by omega, fun e => by have := hob1 b e; omega⟩).kept fun b _ hlt => hb56.block b hlt
          have HMo := hid (fun v8 w8 => HM6.out.more (w7 := w8) (v' := v8) hx6)
          have hrow7 := new_row w5 [x5] (by simp)
          have hrow6 := HM6.out.row
          have hbza : w.heap.size + 3 ≤ (w5.alloc (boxN x5)).heap.size := by have := lt_of_block HM6.out.bN; omega
          refine hK.out _ _ (fun _ => (boxN_facts HM5.out.bN).1.2.2) ?_
          clear hK K hx5 hb5 hb15 hb56 hx6
          refine anyT_one (k := 5) (by kernel_rfl) rfl (fun K hK => ?_)
          go_simp
          refine hK.out _ _ (fun _ => (boxN_facts HM6.out.bN).1.2.2) ?_
          clear hK K
          refine anyT_one (k := 6) (by kernel_rfl) rfl (fun K hK => ?_)
          refine step_append_rowA (by rfl) _ _ (by rfl) (w.heap.size + 3) _ nvs.length c a nvs [x5] w5.heap.size 1 (by rfl) (by rfl) rfl hrow6 hrow7 (by omega) (by simp) hbza ?_
          intro v8 w8 hown8 hg8 hob8
          obtain ⟨a8, c8, rfl, q1, q2⟩ := HMo.out v8 w8 hown8 hg8 hob8
          have hl6 : (nvs ++ [x5]).length = nvs.length + 1 := by simp
          rw [← HTk.out] at q2
          have HQ2 : Hid (∃ nvs a c, nvs.length = j + 1 ∧ MvSt w xk mt (mvL o (ks.take (j + 1))) nvs a c _) := ⟨nvs ++ [x5], a8, c8, by rw [hl6, HNj.out], q2⟩
          rw [hl6] at HQ2 ⊢
          obtain ⟨⟨t0, t1, t2⟩, f0, f1, f2⟩ := boxN_facts q1
          refine hK.out _ _ (fun _ => t2) ?_
          clear hK K hown8 hg8 hob8 q2 HMo hrow6 hrow7
          refine anyT_one (k := 7) (by kernel_rfl) rfl (fun K hK => ?_)
          go_simp
          refine hK.out _ _ (fun _ => t2) ?_
          clear hK K
          refine anyT_one (k := 8) (by kernel_rfl) rfl (fun K hK => ?_)
          go_simp
          refine hK.out _ _ (fun hno => absurd rfl (hno _ rfl ⟨1, .phase⟩ (by simp) (by rfl))) ?_
          clear hK K t0 t1 t2 f0 f1 f2 q1
          refine anyT_done (by kernel_rfl) ?_
          go_wp2_with fail
          go_roundw
          case rel => exact ⟨j + 1, by omega, rfl, HQ2⟩
          case measure => simp [intOf]; omega
        · have hjk : j = ks.length := by omega
          subst hjk
          have hji : ¬ ((ks.length : Int) < (ks.length : Int)) := by omega
          rw [List.take_length] at HM
          have hZ := HM.out.bZ
          have hG : (putN wr (w.heap.size + 1) ⟨xk, mt, a, nvs.length, c⟩).heap[w.heap.size + 1]? = some (boxN ⟨xk, mt, a, nvs.length, c⟩) := putN_block _ hZ
          have hX : NdIs (putN wr (w.heap.size + 1) ⟨xk, mt, a, nvs.length, c⟩) (w.heap.size ≤ ·) ⟨xk, mt, a, nvs.length, c⟩ (mvN o (.mk xk xt ks)) := by
            rw [mvN, ← Hmt.out]
            refine ⟨rfl, rfl, ((KidsAt.of_row HM.out.row (HM.out.nds.mono (Q := fun b => w.heap.size + 3 ≤ b) fun b hb _ => hb.1) (fun b e => (rowA_of HM.out.row e).1)).kept fun b hb _ => putN_other _ _ _ _ (by omega)).mono fun b hb _ => by omega⟩
          have HF := hid (And.intro hG (And.intro hX (putN_below HM.out.old (show w.heap.size ≤ w.heap.size + 1 by omega) ⟨xk, mt, a, nvs.length, c⟩)))
          obtain ⟨⟨t0, t1, t2⟩, _⟩ := boxN_facts HM.out.bN
          obtain ⟨⟨y0, y1, y2⟩, z0, z1, z2⟩ := boxN_facts (x := zeroN) hZ
          dsimp only [zeroN] at t0 t1 t2 y0 y1 y2
          unfold putN at HF
          dsimp only at HF
          clear hG hX hZ hst hM hnj
          go_wp2_with fail
          exact bodyPost_ret (node_ret Try.results11 (g := w.heap.size + 1) (x := ⟨xk, mt, a, nvs.length, c⟩) HF.out.1 _ rfl) rfl ⟨⟨_, rfl, HF.out.2.1⟩, HF.out.2.2⟩
    · have e1 : mt = xt := by rw [hmt, if_neg h0]
      have hd0 : decide (0 ≤ xt) = false := decide_eq_false h0
      clear hmt
      unfold aggN
      dsimp only
      go_enter Try.func11, Try.ntmps11
      rw [e1] at HSt
      have HE := hid e1
      clear e1
      go_wp2_with fail
      generalize ((w.alloc (.cells #[.int .i64 xk, .int .i64 xt, .slice xa ks.length xc] 27)).alloc (.cells #[.int .i64 0, .int .i64 0, .slice none 0 0] 27)).alloc (.cells #[.int .i64 xk, .int .i64 xt, .slice none 0 0] 27) = w0 at *
      rw [← HE.out] at HSt
      go_loopw [29] (fun v wr => ∃ j : Nat, j ≤ ks.length ∧ v = .int .i64 (j : Int) ∧ Hid (∃ nvs a c, nvs.length = j ∧ MvSt w xk mt (mvL o (ks.take j)) nvs a c wr)) (fun v _ => ks.length - (intOf v).toNat)
      case atStart => exact ⟨0, Nat.zero_le _, rfl, HSt⟩
      case round =>
        obtain ⟨j, hj, rfl, hst⟩ := hrel
        obtain ⟨nvs, a, c, hnj, hM⟩ := hst.out
        have HM := hid hM
        have HNj := hid hnj
        by_cases hjl : j < ks.length
        · have hji : (j : Int) < (ks.length : Int) := by omega
          have hj0 : (0 : Int) ≤ (j : Int) := by omega
          obtain ⟨kd, hkd⟩ : ∃ kd, ks[j]? = some kd := ⟨_, List.getElem?_eq_getElem hjl⟩
          obtain ⟨g, y, ea, _, hgl, _, hnc, hcm, hy, e0, e1, e2⟩ := kid_cell (hKx.kept fun b _ hlt => hM.old.block b hlt) j kd hkd
          cases ea
          have hw2 : IntKind.i64.wrap ((j : Int) + 1) = (j : Int) + 1 := wrap_next (by omega) hcm
          have hbk := below_new wr (boxN y)
          have HMk := hid (hM.below hbk)
          have HKb := hid (heap_alloc_new wr (boxN y))
          have hz1 : wr.heap.size < (wr.alloc (boxN y)).heap.size := by simp
          have HI := hid (fun W (hW : Below (wr.alloc (boxN y)).heap.size (wr.alloc (boxN y)) W) => moved_any o ho f kd (by have := szL_at ks j kd hkd; omega) (by omega) y P W ((hy.kept fun b _ hlt => hbk.block b hlt).kept fun b _ hlt => hW.block b hlt) (fun t h => by have := htl t h; have := (cntL_at t ks j kd hkd).2; omega))
          have HTk := hid (mvL_take o ks j kd hkd)
          have hnl : nvs.length ≤ 1000000 := by have := szL_len ks; omega
          unfold aggN at HI
          dsimp only [boxN] at HI HMk HKb hz1
          clear hM hst hy hbk
          clear hnj
          go_wp2_with fail
          generalize wr.alloc (.cells #[.int .i64 y.kind, .int .i64 y.tok, .slice y.a y.n y.c] 27) = w1 at *
          have HCe := hid (fun W (hb : Below w1.heap.size w1 W) => (boxN_facts (x := ⟨xk, mt, a, nvs.length, c⟩) ((hb.block _ (lt_of_block HMk.out.bN)).trans HMk.out.bN)).1.2.2)
          have HKe := hid (fun W (hb : Below w1.heap.size w1 W) => (boxN_facts (x := y) ((hb.block _ (lt_of_block HKb.out)).trans HKb.out)).1)
          have hob1 : ∀ b, (Value.slice a nvs.length c).ownBlock = some b → b < w1.heap.size := fun b e => by obtain ⟨_, cur, k2⟩ := rowA_of HMk.out.row e; exact lt_of_block k2
          have hzb := lt_of_block HMk.out.bN
          refine wp_region_any (by kernel_rfl) ?_
          refine wpAny_take (i := 0) (v := .pointer (some ⟨w.heap.size + 2, 2, none⟩)) rfl (by kernel_rfl) (by kernel_rfl) (by kernel_rfl) (fun _ _ _ h => h) (Or.inl ⟨by rfl, ?_⟩) ?_
          · intro W
            go_simp
          refine wpAny_take (i := 3) (v := .int .i64 (o : Int)) rfl (by kernel_rfl) (by kernel_rfl) (by kernel_rfl) (fun _ _ _ h => h) (Or.inl ⟨by rfl, ?_⟩) ?_
          · intro W
            go_simp
          refine takeT (C := fun W => W.cell? ⟨w.heap.size + 2, 2, none⟩ = some (.slice a nvs.length c)) (i := 1) (v := .slice a nvs.length c) rfl (by kernel_rfl) (by kernel_rfl) (by kernel_rfl) (fun _ _ _ h => h) (Or.inl ⟨by rfl, ?_⟩) (HCe.out _ (Below.refl _ _).drew) ?_
          · intro W hSw
            try dsimp only at hSw
            go_simp
          refine anyT_one (k := 2) (by kernel_rfl) rfl (fun K hK => ?_)
          obtain ⟨k0, k1, k2⟩ := HKe.out _ (Below.refl w1.heap.size w1).drew
          go_simp
          refine hK.out _ _ (fun _ => HCe.out _ (Below.refl _ _).drew) ?_
          clear hK K k0 k1 k2
          refine anyT_one (k := 4) (by kernel_rfl) rfl (fun K hK => ?_)
          go_simp
          go_wp2_with (go_at_call 11; refine (HI.out _ (Below.refl _ _).drew).mono ?_; rintro e w5 ⟨⟨x5, rfl, hx5⟩, hb5⟩)
          have hb15 : Below w1.heap.size w1 w5 := (Below.refl _ _).drew.trans hb5
          have HM5 := hid (HMk.out.below hb15)
          have hb56 := below_new w5 (boxN x5)
          have HM6 := hid (HM5.out.below hb56)
          have hz15 : w1.heap.size ≤ w5.heap.size := hb15.size
          have hx6 := (hx5.mono (Q := fun b => w.heap.size + 3 ≤ b ∧ (Value.slice a nvs.length c).ownBlock ≠ some b) fun b hb _ => by have hb' : w1.heap.size ≤ b := hb; exact ⟨by omega, fun e => by have := hob1 b e; omega⟩).kept fun b _ hlt => hb56.block b hlt
          have HMo := hid (fun v8 w8 => HM6.out.more (w7 := w8) (v' := v8) hx6)
          have hrow7 := new_row w5 [x5] (by simp)
          have hrow6 := HM6.out.row
          have hbza : w.heap.size + 3 ≤ (w5.alloc (boxN x5)).heap.size := by have := lt_of_block HM6.out.bN; omega
          refine hK.out _ _ (fun _ => (boxN_facts HM5.out.bN).1.2.2) ?_
          clear hK K hx5 hb5 hb15 hb56 hx6
          refine anyT_one (k := 5) (by kernel_rfl) rfl (fun K hK => ?_)
          go_simp
          refine hK.out _ _ (fun _ => (boxN_facts HM6.out.bN).1.2.2) ?_
          clear hK K
          refine anyT_one (k := 6) (by kernel_rfl) rfl (fun K hK => ?_)
          refine step_append_rowA (by rfl) _ _ (by rfl) (w.heap.size + 3) _ nvs.length c a nvs [x5] w5.heap.size 1 (by rfl) (by rfl) rfl hrow6 hrow7 (by omega) (by simp) hbza ?_
          intro v8 w8 hown8 hg8 hob8
          obtain ⟨a8, c8, rfl, q1, q2⟩ := HMo.out v8 w8 hown8 hg8 hob8
          have hl6 : (nvs ++ [x5]).length = nvs.length + 1 := by simp
          rw [← HTk.out] at q2
          have HQ2 : Hid (∃ nvs a c, nvs.length = j + 1 ∧ MvSt w xk mt (mvL o (ks.take (j + 1))) nvs a c _) := ⟨nvs ++ [x5], a8, c8, by rw [hl6, HNj.out], q2⟩
          rw [hl6] at HQ2 ⊢
          obtain ⟨⟨t0, t1, t2⟩, f0, f1, f2⟩ := boxN_facts q1
          refine hK.out _ _ (fun _ => t2) ?_
          clear hK K hown8 hg8 hob8 q2 HMo hrow6 hrow7
          refine anyT_one (k := 7) (by kernel_rfl) rfl (fun K hK => ?_)
          go_simp
          refine hK.out _ _ (fun _ => t2) ?_
          clear hK K
          refine anyT_one (k := 8) (by kernel_rfl) rfl (fun K hK => ?_)
          go_simp
          refine hK.out _ _ (fun hno => absurd rfl (hno _ rfl ⟨1, .phase⟩ (by simp) (by rfl))) ?_
          clear hK K t0 t1 t2 f0 f1 f2 q1
          refine anyT_done (by kernel_rfl) ?_
          go_wp2_with fail
          go_roundw
          case rel => exact ⟨j + 1, by omega, rfl, HQ2⟩
          case measure => simp [intOf]; omega
        · have hjk : j = ks.length := by omega
          subst hjk
          have hji : ¬ ((ks.length : Int) < (ks.length : Int)) := by omega
          rw [List.take_length] at HM
          have hZ := HM.out.bZ
          have hG : (putN wr (w.heap.size + 1) ⟨xk, mt, a, nvs.length, c⟩).heap[w.heap.size + 1]? = some (boxN ⟨xk, mt, a, nvs.length, c⟩) := putN_block _ hZ
          have hX : NdIs (putN wr (w.heap.size + 1) ⟨xk, mt, a, nvs.length, c⟩) (w.heap.size ≤ ·) ⟨xk, mt, a, nvs.length, c⟩ (mvN o (.mk xk xt ks)) := by
            rw [mvN, ← Hmt.out]
            refine ⟨rfl, rfl, ((KidsAt.of_row HM.out.row (HM.out.nds.mono (Q := fun b => w.heap.size + 3 ≤ b) fun b hb _ => hb.1) (fun b e => (rowA_of HM.out.row e).1)).kept fun b hb _ => putN_other _ _ _ _ (by omega)).mono fun b hb _ => by omega⟩
          have HF := hid (And.intro hG (And.intro hX (putN_below HM.out.old (show w.heap.size ≤ w.heap.size + 1 by omega) ⟨xk, mt, a, nvs.length, c⟩)))
          obtain ⟨⟨t0, t1, t2⟩, _⟩ := boxN_facts HM.out.bN
          obtain ⟨⟨y0, y1, y2⟩, z0, z1, z2⟩ := boxN_facts (x := zeroN) hZ
          dsimp only [zeroN] at t0 t1 t2 y0 y1 y2
          unfold putN at HF
          dsimp only at HF
          clear hG hX hZ hst hM hnj
          go_wp2_with fail
          exact bodyPost_ret (node_ret Try.results11 (g := w.heap.size + 1) (x := ⟨xk, mt, a, nvs.length, c⟩) HF.out.1 _ rfl) rfl ⟨⟨_, rfl, HF.out.2.1⟩, HF.out.2.2⟩
end Go.Proofs.Ytocklchafmlfkaa
