/- Walk of function. · Walk of outer. · Walk of unit: all of it. · The closure that Parse defers: what is thrown is caught, and laid into the results; where nothing is, nothing is done. · Walk of Parse. -/
import Derived.Test.YtocklchafmlfkaaTgG
import Derived.Test.YtocklchafmlfkaaTgE
import Derived.Defers
import Derived.Recover
import Derived.Laws.Pointers
import Derived.Test.YtocklchafmlfkaaTgD
namespace Go.Proofs.Ytocklchafmlfkaa
section
open Go.RowKit Go.Shelf

theorem DdMid.frt {base r : Nat} {la : Option Addr} {lc : Nat} {L : List Tk} {d : Nat} {env env' : Env0} {w : World} {y x : Nv} {kd : Nd} {j j' : Nat} {Q : Nat → Prop} {x5 : Nv} {n1 : Nd} {W W' : World} (h : DdMid base r la lc L d env w y x kd j Q x5 n1 W) (hrw : r < w.heap.size) (hQ : ∀ b, Q b → b ≠ r) (hr : RdAt W' base r la lc L j' env' d) (hf : FrT base r W W') : DdMid base r la lc L d env' w y x kd j' Q x5 n1 W' := by
  have h3 := boxN_frt h.bZ hf (by omega)
  refine ⟨hr, h.fr.trans hf, boxN_frt h.bY hf (by omega), boxN_frt h.bX hf (by omega), h3, h.nY.frt hf hQ, h.nX.frt hf hQ, ?_⟩
  have := lt_of_block h3
  omega

theorem lpl_ok {L : List Tk} {F d : Nat} : ∀ (f : Nat) {env : Env0} {ks : List Nd} {i : Nat} {ks' : List Nd} {j : Nat} {env' : Env0}, lplT L F d f env ks i = .ok (ks', j, env') → env ≠ [] → i < j ∧ env'.length = env.length
  | 0, env, ks, i, n, j, env', h, hne => by unfold lplT at h; cases h
  | f + 1, env, ks, i, n, j, env', h, hne => by
    unfold lplT at h
    split at h
    · split at h
      · cases h
      · rename_i n2 j2 env2 hd
        obtain ⟨h1, h2, h3⟩ := par_ok hd hne
        obtain ⟨h5, h6⟩ := lpl_ok f h h3
        exact ⟨by omega, h6.trans h2⟩
    · split at h
      · cases h
        exact ⟨by omega, rfl⟩
      · cases h
theorem lps_ok {L : List Tk} {F d : Nat} {env : Env0} {i : Nat} {ks : List Nd} {j : Nat} {env' : Env0} (h : lpsT L F d env i = .ok (ks, j, env')) (hne : env ≠ []) : i < j ∧ env'.length = env.length := by
  unfold lpsT at h
  split at h
  · cases h
    exact ⟨by omega, rfl⟩
  · split at h
    · cases h
    · rename_i n k env1 hp
      obtain ⟨h1, h2, h3⟩ := par_ok hp hne
      obtain ⟨h5, h6⟩ := lpl_ok _ h h3
      exact ⟨by omega, h6.trans h2⟩

set_option maxRecDepth 100000 in
set_option maxHeartbeats 4000000 in
theorem function_any {base r : Nat} {la : Option Addr} {lc : Nat} {L : List Tk} {i : Nat} {env : Env0} {d F G : Nat} (hs : Short L) (hE : Enough L F) (hl : env.length ≤ d + 1) (y x : Nv) (kd nm : Nd) (P : Nat → Prop) (w : World) (h : RdAt w base r la lc L i env d) (hy : NdIs w P y kd) (hx : NdIs w P x nm) (hP : ∀ b, P b → b ≠ r) (R : Got (Nd × Nat × Env0)) (hR : funT L F G d env kd nm i = some R) :
    Calls Try.prog 32 #[.pointer (some ⟨r, 0, none⟩), aggN y, aggN x] w (StPostQ (fun b => P b ∨ w.heap.size ≤ b) base r la lc L env d R w) := by
  have hbs := h.size
  have hd30 := h.low
  have hrw : r < w.heap.size := by obtain ⟨lo, hbr, vn, ms, hc, hn⟩ := h; exact hc.lt
  have hb0 : Below w.heap.size w (((w.alloc (boxN y)).alloc (boxN x)).alloc (boxN zeroN)) := (((Below.refl _ w).alloc (Nat.le_refl _) _).alloc (by simp) _).alloc (by simp; omega) _
  have hz0 : (((w.alloc (boxN y)).alloc (boxN x)).alloc (boxN zeroN)).heap.size = w.heap.size + 3 := by simp
  have hB0 : (((w.alloc (boxN y)).alloc (boxN x)).alloc (boxN zeroN)).heap[w.heap.size]? = some (boxN y) ∧ (((w.alloc (boxN y)).alloc (boxN x)).alloc (boxN zeroN)).heap[w.heap.size + 1]? = some (boxN x) := by
    refine ⟨((below_new _ (boxN zeroN)).block _ (by simp; omega)).trans (((below_new (w.alloc (boxN y)) (boxN x)).block _ (by simp)).trans (heap_alloc_new _ _)), ((below_new _ (boxN zeroN)).block _ (by simp)).trans ?_⟩
    have := heap_alloc_new (w.alloc (boxN y)) (boxN x)
    rwa [World.size_alloc] at this
  have hZ0 : (((w.alloc (boxN y)).alloc (boxN x)).alloc (boxN zeroN)).heap[w.heap.size + 2]? = some (boxN zeroN) := by
    have := heap_alloc_new ((w.alloc (boxN y)).alloc (boxN x)) (boxN zeroN)
    rw [World.size_alloc, World.size_alloc] at this
    exact this
  have hY0 := (hy.mono (Q := fun b => P b ∧ b < w.heap.size) fun b hb hlt => ⟨hb, hlt⟩).kept fun b _ hlt => hb0.block b hlt
  have hX0 := (hx.mono (Q := fun b => P b ∧ b < w.heap.size) fun b hb hlt => ⟨hb, hlt⟩).kept fun b _ hlt => hb0.block b hlt
  have HP := hid hP
  have HM0 : Hid (DdMid base r la lc L d env w y x kd i (fun b => P b ∧ b < w.heap.size) x nm (((w.alloc (boxN y)).alloc (boxN x)).alloc (boxN zeroN))) := ⟨h.below hb0, FrT.of_below (r := r) hb0 hbs, hB0.1, hB0.2, hZ0, hY0, hX0, by rw [hz0]; exact Nat.le_refl _⟩
  unfold funT at hR
  unfold StPostQ aggN
  dsimp only [boxN, zeroN] at HM0
  clear h hy hx hb0 hP hB0 hZ0 hY0 hX0 hz0
  go_enter_defers Try.func32, Try.ntmps32
  refine Code.wp_mono (postS_imp (base := base) (r := r) (la := la) (lc := lc) (L := L) (m := env.length) (d := d) (by omega)) ?_
  go_wp2_with fail
  generalize ((w.alloc (.cells #[.int .i64 y.kind, .int .i64 y.tok, .slice y.a y.n y.c] 27)).alloc (.cells #[.int .i64 x.kind, .int .i64 x.tok, .slice x.a x.n x.c] 27)).alloc (.cells #[.int .i64 0, .int .i64 0, .slice none 0 0] 27) = w0 at *
  refine (open_any w0 HM0.out.rd (by omega)).mono ?_
  rintro e w1 ⟨rfl, hr1, hf1⟩
  have HM1 := hid (HM0.out.frt hrw (fun b hb => HP.out b hb.1) hr1 hf1)
  clear hr1 hf1 HM0
  have HMu := hid (must_st ⟨#[40]⟩ (by decide) w1 HM1.out.rd)
  rw [show (⟨#[40]⟩ : ByteArray).data.toList = [40] from rfl] at HMu
  go_wp2_with fail
  by_cases hq : wordT L i = [40]
  · rw [if_pos hq] at hR
    simp only [if_pos hq] at HMu
    refine HMu.out.mono ?_
    rintro e w2 ⟨rfl, hr2, hf2, _⟩
    have HM2 := hid (HM1.out.frt hrw (fun b hb => HP.out b hb.1) hr2 hf2)
    clear hr2 hf2 HM1 HMu
    have e0 : List.append env [(fun _ => (0 : Int) : List UInt8 → Int)] = env ++ [fun _ => 0] := rfl
    rw [e0] at hR
    clear e0
    obtain ⟨⟨y0, y1, y2⟩, _⟩ := boxN_facts HM2.out.bY
    obtain ⟨⟨x0, x1, x2⟩, _⟩ := boxN_facts HM2.out.bX
    have hz2 := HM2.out.sz
    have hb3 : Below w2.heap.size w2 (w2.alloc (.cells (cellsN [y, x]).toArray 27)) := below_new w2 _
    have HM3 := hid (HM2.out.below hb3)
    have HO3 := hid (new_row w2 [y, x] (by simp))
    clear hb3 HM2
    go_wp2_with fail
    refine (node_any 3 (some ⟨w2.heap.size, 0, none⟩) 2 2 _).mono ?_
    rintro e w4 ⟨rfl, hb4⟩
    have HM4 := hid (HM3.out.below hb4)
    have hO4 := row_same HO3.out fun b _ hlt => hb4.block b hlt
    have hz24 : w2.heap.size < w4.heap.size := by have := hb4.size; simp at this; omega
    have hb5 := below_new w4 (boxN ⟨3, -1, some ⟨w2.heap.size, 0, none⟩, 2, 2⟩)
    have hM5 := HM4.out.below hb5
    have HR5 := hid hM5.rd
    have HD5 : Hid (BkRow base r P w 3 w4.heap.size (w.heap.size + 2) [kd, nm] [y, x] (some ⟨w2.heap.size, 0, none⟩) 2 (w4.alloc (boxN ⟨3, -1, some ⟨w2.heap.size, 0, none⟩, 2, 2⟩))) :=
      ⟨heap_alloc_new w4 _, hM5.bZ, row_base (row_same hO4 fun b _ hlt => hb5.block b hlt) (by omega), (NdsIs.two hM5.nY hM5.nX).mono fun b hb _ => ⟨.inl hb.1, by omega, by omega, own_ne (by omega)⟩, own_ne (by omega), own_ne (by omega), hM5.fr⟩
    dsimp only [boxN] at HR5 HD5
    clear hb4 hb5 hO4 hM5 HM4 HM3 HO3 y0 y1 y2 x0 x1 x2
    unfold aggN
    dsimp only
    go_wp2_with fail
    generalize w4.alloc (.cells #[.int .i64 3, .int .i64 (-1), .slice (some ⟨w2.heap.size, 0, none⟩) 2 2] 27) = w5 at *
    have hzn := lt_of_block HD5.out.bN
    have HLs := hid (fun (W : World) (hW : RdAt W base r la lc L (i + 1) (env ++ [fun _ => 0]) d) => listedP_any (F := F) hs hE (by simp) (by simp; omega) W hW)
    unfold LpPost at HLs
    have HCe := hid (fun W (hb : Below w5.heap.size w5 W) => (boxN_facts (x := ⟨3, -1, some ⟨w2.heap.size, 0, none⟩, 2, 2⟩) ((hb.block _ (lt_of_block HD5.out.bN)).trans HD5.out.bN)).1.2.2)
    refine wp_region_any (by kernel_rfl) ?_
    refine wpAny_take (i := 0) (v := .pointer (some ⟨w4.heap.size, 2, none⟩)) rfl (by kernel_rfl) (by kernel_rfl) (by kernel_rfl) (fun _ _ _ h => h) (Or.inl ⟨by rfl, ?_⟩) ?_
    · intro W
      go_simp
    refine wpAny_take (i := 2) (v := .pointer (some ⟨r, 0, none⟩)) rfl (by kernel_rfl) (by kernel_rfl) (by kernel_rfl) (fun _ _ _ h => h) (Or.inl ⟨by rfl, ?_⟩) ?_
    · intro W
      go_simp
    refine wpAny_take (i := 3) (v := .pointer (some ⟨r, 0, none⟩)) rfl (by kernel_rfl) (by kernel_rfl) (by kernel_rfl) (fun _ _ _ h => h) (Or.inl ⟨by rfl, ?_⟩) ?_
    · intro W
      go_simp
    refine wpAny_take (i := 4) (v := .func (.func 46) #[.pointer (some ⟨r, 0, none⟩)] #[]) rfl (by kernel_rfl) (by kernel_rfl) (by kernel_rfl) (fun _ _ _ h => h) (Or.inl ⟨by rfl, ?_⟩) ?_
    · intro W
      go_simp
    refine takeT (C := fun W => W.cell? ⟨w4.heap.size, 2, none⟩ = some (.slice (some ⟨w2.heap.size, 0, none⟩) 2 2)) (i := 1) (v := .slice (some ⟨w2.heap.size, 0, none⟩) 2 2) rfl (by kernel_rfl) (by kernel_rfl) (by kernel_rfl) (fun _ _ _ h => h) (Or.inl ⟨by rfl, ?_⟩) (HCe.out _ (Below.refl _ _).drew) ?_
    · intro W hSw
      try dsimp only at hSw
      go_simp
    refine anyT_one (k := 5) (by kernel_rfl) rfl (fun K hK => ?_)
    go_simp
    cases hls : lpsT L F d (env ++ [fun _ => 0]) (i + 1) with
    | error e6 =>
      rw [hls] at hR HLs
      dsimp only at hR HLs
      injection hR with hR
      subst hR
      rw [thrown_chain] at HLs
      go_wp2_with (go_at_call 45; refine (HLs.out _ (HR5.out.below (Below.refl _ _).drew)).mono ?_; rintro e w6 ⟨rfl, hp6, hf6⟩)
      obtain ⟨e7, hl7, hp7⟩ := hp6
      exact .inr ⟨_, _, rfl, .inr <| .inr ⟨rfl, e7, by rw [hl7]; simp, hp7⟩, fun W' hp' hf' => ⟨rfl, hp', ((HD5.out.fr.trans (FrT.of_below (Below.refl _ _).drew HR5.out.size)).trans hf6).trans hf'⟩⟩
    | ok y6 =>
      obtain ⟨ks6, j6, env6⟩ := y6
      have hl6 := (lps_ok hls (by simp)).2
      have hne6 : env6 ≠ [] := ne_of_len hl6 (by simp)
      have hel6 : env6.length = env.length + 1 := by rw [hl6]; simp
      have HL6 := hid hel6
      clear hl6 hel6
      rw [hls] at hR HLs
      dsimp only at hR HLs
      go_wp2_with (go_at_call 45; refine (HLs.out _ (HR5.out.below (Below.refl _ _).drew)).mono ?_; rintro e w6 ⟨a6, c6, us, hln6, rfl, hown6, hn6, hr6, hf6⟩)
      have hf56 : FrT base r w5 w6 := (FrT.of_below (Below.refl _ _).drew HR5.out.size).trans hf6
      have hz56 : w5.heap.size ≤ w6.heap.size := hf6.low.size
      have HD6 := hid (HD5.out.frt hrw HP.out (by omega) (by omega) hf56)
      have hxa : NdsIs w6 (fun b => (P b ∨ w.heap.size ≤ b) ∧ b ≠ w4.heap.size ∧ b ≠ w.heap.size + 2 ∧ (Value.slice (some ⟨w2.heap.size, 0, none⟩) [y, x].length 2).ownBlock ≠ some b) us ks6 := hn6.mono fun b hb _ => by
        have hb1 : w5.heap.size ≤ b := hb.1
        exact ⟨.inr (by omega), by omega, by omega, own_ne (by omega)⟩
      have HMo := hid (fun v8 w8 => HD6.out.more (w7 := w8) (v' := v8) hrw hbs (by omega) (by omega) hxa hr6)
      have hrow6 := HD6.out.row
      have hbza : w.heap.size ≤ w6.heap.size := by omega
      have HO6 := hid hown6
      refine hK.out _ _ (fun _ => (boxN_facts HD6.out.bN).1.2.2) ?_
      clear hK K hr6 hf6 hf56 hn6 hxa hown6 HD5 HR5 HLs HCe
      refine anyT_one (k := 6) (by kernel_rfl) rfl (fun K hK => ?_)
      refine step_append_row (by rfl) _ _ (by rfl) w.heap.size _ w2.heap.size 2 2 [y, x] us a6 c6 (by rfl) (by rfl) rfl hrow6 HO6.out (by omega) hln6 hbza ?_
      intro v8 w8 hown8 hg8 hob8
      obtain ⟨a8, c8, rfl, q1, q2, q3⟩ := HMo.out v8 w8 hown8 hg8 hob8
      generalize hus : [y, x] ++ us = vs at *
      generalize hkk : [kd, nm] ++ ks6 = kk at *
      have hvl : vs.length ≤ 2000002 := by rw [← hus]; simp; omega
      have HQ2 := hid q2
      have HQ3 := hid q3
      obtain ⟨⟨t0, t1, t2⟩, f0, f1, f2⟩ := boxN_facts q1
      refine hK.out _ _ (fun _ => t2) ?_
      clear hK K hown8 hg8 hob8 q2 q3 HMo hrow6 HO6 hus
      refine anyT_one (k := 7) (by kernel_rfl) rfl (fun K hK => ?_)
      go_simp
      refine hK.out _ _ (fun _ => t2) ?_
      clear hK K
      refine anyT_one (k := 8) (by kernel_rfl) rfl (fun K hK => ?_)
      go_simp
      refine hK.out _ _ (fun hno => absurd rfl (hno _ rfl ⟨1, .phase⟩ (by simp) (by rfl))) ?_
      clear hK K t0 t1 t2 f0 f1 f2 q1
      refine anyT_done (by kernel_rfl) ?_
      generalize hW9 : World.setCell w8 _ _ = w9 at *
      clear hW9
      have HCe := hid (fun W (hb : Below w9.heap.size w9 W) => (boxN_facts ((hb.block _ (lt_of_block HQ2.out.bN)).trans HQ2.out.bN)).1.2.2)
      have hob9 : ∀ b, (Value.slice a8 vs.length c8).ownBlock = some b → b < w9.heap.size := fun b e => by obtain ⟨_, cur, k2⟩ := rowA_of HQ2.out.row e; exact lt_of_block k2
      have hzn9 := lt_of_block HQ2.out.bN
      go_wp2_with fail
      refine wp_region_any (by kernel_rfl) ?_
      refine wpAny_take (i := 0) (v := .pointer (some ⟨w4.heap.size, 2, none⟩)) rfl (by kernel_rfl) (by kernel_rfl) (by kernel_rfl) (fun _ _ _ h => h) (Or.inl ⟨by rfl, ?_⟩) ?_
      · intro W
        go_simp
      refine wpAny_take (i := 2) (v := .pointer (some ⟨r, 0, none⟩)) rfl (by kernel_rfl) (by kernel_rfl) (by kernel_rfl) (fun _ _ _ h => h) (Or.inl ⟨by rfl, ?_⟩) ?_
      · intro W
        go_simp
      refine takeT (C := fun W => W.cell? ⟨w4.heap.size, 2, none⟩ = some (.slice a8 vs.length c8)) (i := 1) (v := .slice a8 vs.length c8) rfl (by kernel_rfl) (by kernel_rfl) (by kernel_rfl) (fun _ _ _ h => h) (Or.inl ⟨by rfl, ?_⟩) (HCe.out _ (Below.refl _ _).drew) ?_
      · intro W hSw
        try dsimp only at hSw
        go_simp
      refine anyT_one (k := 3) (by kernel_rfl) rfl (fun K hK => ?_)
      go_simp
      cases hs5 : stF L F G 1 0 d env6 j6 [] with
      | none => rw [hs5] at hR; cases hR
      | some R5 =>
        have HS5 := hid (fun W (hW : RdAt W base r la lc L j6 env6 d) => (st_all hs hE G G (Nat.le_refl _)).2.1 d env6 j6 [] R5 hne6 (by have := HL6.out; omega) hs5 W hW)
        unfold StPost at HS5
        rw [hs5] at hR
        cases R5 with
        | error y7 =>
          dsimp only at hR HS5
          injection hR with hR
          subst hR
          rw [thrown_chain] at HS5
          go_wp2_with (go_at_call 47; refine (HS5.out _ (HQ3.out.below (Below.refl _ _).drew)).mono ?_; rintro e wa ⟨rfl, hpa, hfa⟩)
          obtain ⟨e7, hl7, hp7⟩ := hpa
          exact .inr ⟨_, _, rfl, .inr <| .inr ⟨rfl, e7, by rw [hl7]; exact HL6.out, hp7⟩, fun W' hp' hf' => ⟨rfl, hp', ((HQ2.out.fr.trans (FrT.of_below (Below.refl _ _).drew HQ3.out.size)).trans hfa).trans hf'⟩⟩
        | ok y7 =>
          obtain ⟨n7, j7, env7⟩ := y7
          have hl7 := (st_ok L F G _ _ _ _ _ _ _ _ _ hs5 hne6).2
          obtain ⟨e7, g7, rfl, hl7'⟩ := snoc_of_len (n := env.length) (by rw [hl7]; exact HL6.out)
          dsimp only at hR HS5
          rw [List.dropLast_concat] at hR
          injection hR with hR
          subst hR
          have he7 : e7.length ≤ 1000 := by omega
          clear hl7 hl7'
          unfold aggN at HS5
          go_wp2_with (go_at_call 47; refine (HS5.out _ (HQ3.out.below (Below.refl _ _).drew)).mono ?_; rintro e wa ⟨xa, rfl, hxa, hra, hfa⟩)
          have hf9a : FrT base r w9 wa := (FrT.of_below (Below.refl _ _).drew HQ3.out.size).trans hfa
          have hz9a : w9.heap.size ≤ wa.heap.size := hfa.low.size
          have HDa := hid (HQ2.out.frt hrw HP.out (by omega) (by omega) hf9a)
          have hbb := below_new wa (boxN xa)
          have HDb := hid (HDa.out.frt hrw HP.out (by omega) (by omega) (FrT.of_below hbb hra.size))
          have hrb := hra.below hbb
          have hxb := (hxa.mono (Q := fun b => (P b ∨ w.heap.size ≤ b) ∧ b ≠ w4.heap.size ∧ b ≠ w.heap.size + 2 ∧ (Value.slice a8 vs.length c8).ownBlock ≠ some b) fun b hb _ => by have hb' : w9.heap.size ≤ b := hb; exact ⟨.inr (by omega), by omega, by omega, fun e => by have := hob9 b e; omega⟩).kept fun b _ hlt => hbb.block b hlt
          have HMo := hid (fun v8 w8 => HDb.out.more (w7 := w8) (v' := v8) hrw hbs (by omega) (by omega) (NdsIs.one hxb) hrb)
          have hrow7 := new_row wa [xa] (by simp)
          have hrowb := HDb.out.row
          have hbza : w.heap.size ≤ (wa.alloc (boxN xa)).heap.size := by have := lt_of_block HDb.out.bZ; omega
          refine hK.out _ _ (fun _ => (boxN_facts HDa.out.bN).1.2.2) ?_
          clear hK K hxa hra hfa hbb hrb hxb hf9a
          refine anyT_one (k := 4) (by kernel_rfl) rfl (fun K hK => ?_)
          go_simp
          refine hK.out _ _ (fun _ => (boxN_facts HDb.out.bN).1.2.2) ?_
          clear hK K
          refine anyT_one (k := 5) (by kernel_rfl) rfl (fun K hK => ?_)
          refine step_append_rowA (by rfl) _ _ (by rfl) w.heap.size _ vs.length c8 a8 vs [xa] wa.heap.size 1 (by rfl) (by rfl) rfl hrowb hrow7 (by omega) (by simp) hbza ?_
          intro vc wc hownc hgc hobc
          obtain ⟨ac, cc, rfl, q1, q2, q3⟩ := HMo.out vc wc hownc hgc hobc
          have hle6 : (vs ++ [xa]).length = vs.length + 1 := by simp
          have HQ4 := hid q2
          have HG := hid (give_stB (B := w.heap.size + 2) (u := zeroN) (x := ⟨3, -1, ac, (vs ++ [xa]).length, cc⟩) (n := .mk 3 (-1) (kk ++ [n7])) (P := fun b => (P b ∨ w.heap.size ≤ b) ∧ b ≠ w.heap.size + 2) (Q := fun b => P b ∨ w.heap.size ≤ b) hrw hbs (by omega) q2.bZ ⟨rfl, rfl, KidsAt.of_row q2.row (q2.nds.mono fun b hb _ => ⟨hb.1, hb.2.2.1⟩) (fun b e => ⟨.inr (rowA_of q2.row e).1, fun e' => q2.ne2 (e' ▸ e)⟩)⟩ (fun b hb => hb.2) q3 q2.fr (fun b hb => hb.1))
          rw [hle6] at HQ4 HG ⊢
          obtain ⟨⟨t0, t1, t2⟩, f0, f1, f2⟩ := boxN_facts q1
          refine hK.out _ _ (fun _ => t2) ?_
          clear hK K hownc hgc hobc q2 q3 HMo hrowb hrow7
          refine anyT_one (k := 6) (by kernel_rfl) rfl (fun K hK => ?_)
          go_simp
          refine hK.out _ _ (fun _ => t2) ?_
          clear hK K
          refine anyT_one (k := 7) (by kernel_rfl) rfl (fun K hK => ?_)
          go_simp
          refine hK.out _ _ (fun hno => absurd rfl (hno _ rfl ⟨1, .phase⟩ (by simp) (by rfl))) ?_
          clear hK K t0 t1 t2 f0 f1 f2 q1
          refine anyT_done (by kernel_rfl) ?_
          have hNd := HQ4.out.bN
          rw [hle6] at hNd
          obtain ⟨⟨t0, t1, t2⟩, _⟩ := boxN_facts hNd
          obtain ⟨⟨y0, y1, y2⟩, z0, z1, z2⟩ := boxN_facts (x := zeroN) HQ4.out.bZ
          dsimp only [zeroN] at t0 t1 t2 y0 y1 y2
          unfold putN at HG
          dsimp only at HG
          go_wp2_with fail
          have hkk' : kd :: nm :: (ks6 ++ [n7]) = kk ++ [n7] := by rw [← hkk]; rfl
          refine leavesO_back he7 HG.out.2.2.1 fun W' hc' hf' => ⟨_, node_ret Try.results32 (g := w.heap.size + 2) (x := ⟨3, -1, ac, vs.length + 1, cc⟩) (boxN_frt HG.out.1 hf' (by omega)) _ rfl, ?_⟩
          rw [hkk']
          exact ⟨_, rfl, HG.out.2.1.frt hf' fun b hb => hb.elim (HP.out b) (fun h => by omega), hc', HG.out.2.2.2.trans hf'⟩
  · rw [if_neg hq] at hR
    simp only [if_neg hq] at HMu
    injection hR with hR
    subst hR
    rw [thrown_chain] at HMu
    refine HMu.out.mono ?_
    rintro e w2 ⟨rfl, hp2, hf2⟩
    obtain ⟨e7, hl7, hp7⟩ := hp2
    exact .inr ⟨_, _, rfl, .inr <| .inr ⟨rfl, e7, by rw [hl7]; simp, hp7⟩, fun W' hp' hf' => ⟨rfl, hp', (HM1.out.fr.trans hf2).trans hf'⟩⟩
end
section
open Go.RowKit Go.Shelf

set_option maxRecDepth 100000 in
set_option maxHeartbeats 4000000 in
theorem outer_any {base r : Nat} {la : Option Addr} {lc : Nat} {L : List Tk} {i : Nat} {env : Env0} {d F G : Nat} (hs : Short L) (hE : Enough L F) (hne : env ≠ []) (hl : env.length ≤ d + 1) (w : World) (h : RdAt w base r la lc L i env d) (R : Got (Nd × Nat × Env0)) (hR : outT L F G d env i = some R) :
    Calls Try.prog 22 #[.pointer (some ⟨r, 0, none⟩)] w (StPost base r la lc L env d R w) := by
  have hbs := h.size
  have hd30 := h.low
  have hrw : r < w.heap.size := by obtain ⟨lo, hbr, vn, ms, hc, hn⟩ := h; exact hc.lt
  have hb0 := below_new w (boxN zeroN)
  have HR0 := hid (h.below hb0)
  have HF0 := hid (FrT.of_below (r := r) hb0 hbs)
  have HB0 := hid (heap_alloc_new w (boxN zeroN))
  have HWd := hid (fun (j : Nat) (env' : Env0) (W : World) (hW : RdAt W base r la lc L j env' d) => by obtain ⟨lo, hbr, vn, ms, hc, hn⟩ := hW; exact word_any W hc)
  have hwb : (wrdB L i).toList = wordT L i := by rw [toList_data, wrdB_is]
  have HW0 := hid (HWd.out _ _ _ HR0.out)
  dsimp only [boxN, zeroN] at HR0 HF0 HB0 HW0
  unfold outT at hR
  unfold StPost
  clear h hb0
  go_enter Try.func22, Try.ntmps22
  go_wp2_with fail
  generalize w.alloc (.cells #[.int .i64 0, .int .i64 0, .slice none 0 0] 27) = w0 at *
  refine HW0.out.mono ?_
  rintro e w1 ⟨rfl, n1, rfl⟩
  have hbd := dN_below (Below.refl w0.heap.size w0) n1
  have HR1 := hid (HR0.out.below hbd)
  have HF1 := hid (HF0.out.trans (FrT.of_below hbd HR0.out.size))
  have HB1 : Hid (_ = some (boxN zeroN)) := (dN_heap w0 w.heap.size n1).trans HB0.out
  have hz1 := lt_of_block HB1.out
  generalize hw1 : w0.drewN n1 = w1 at *
  clear hw1 hbd HR0 HF0 HB0 HW0
  by_cases hq : wordT L i = [116, 121, 112, 101, 100, 101, 102]
  · rw [if_pos hq] at hR
    rw [hq] at hwb
    injection hR with hR
    have HX := hid (declaration_any hs hE hne (by omega) w1 HR1.out)
    rw [hR] at HX
    unfold StPost at HX
    go_wp2_with fail
    cases R with
    | error y =>
      dsimp only at HX
      rw [thrown_chain] at HX
      refine HX.out.mono ?_
      rintro e w2 ⟨rfl, hp2, hf2⟩
      exact ⟨rfl, rfl, hp2, HF1.out.trans hf2⟩
    | ok y =>
      obtain ⟨n5, j5, env5⟩ := y
      dsimp only at HX
      unfold aggN at HX
      refine HX.out.mono ?_
      rintro e w7 ⟨x7, rfl, hx7, hr7, hf7⟩
      have hB7 := boxN_frt (b := w.heap.size) (x := zeroN) HB1.out hf7 (by omega)
      have HG := hid (give_stB (B := w.heap.size) (u := zeroN) (x := x7) (P := fun b => w.heap.size < b) (Q := fun b => w.heap.size ≤ b) hrw hbs (Nat.le_refl _) hB7 (hx7.mono fun b hb _ => by have hb' : w1.heap.size ≤ b := hb; omega) (fun b hb => by omega) hr7 (HF1.out.trans hf7) (fun b hb => Nat.le_of_lt hb))
      obtain ⟨⟨y0, y1, y2⟩, z0, z1, z2⟩ := boxN_facts (x := zeroN) hB7
      dsimp only [zeroN] at y0 y1 y2
      unfold putN at HG
      clear hx7 hr7 hf7 hB7
      go_wp2_with fail
      exact bodyPost_ret (node_ret Try.results22 (g := w.heap.size) (x := x7) HG.out.1 _ rfl) rfl ⟨_, rfl, HG.out.2⟩
  · rw [if_neg hq] at hR
    have hq' : (wordT L i == [116, 121, 112, 101, 100, 101, 102]) = false := beq_eq_false_iff_ne.2 hq
    have HT := hid (typeName_any hs (by omega) w1 HR1.out)
    unfold StPost at HT
    go_wp2_with fail
    by_cases ht : typT L env i = true
    · rw [if_pos ht] at hR
      simp only [if_pos ht] at HT
      unfold aggN at HT
      refine HT.out.mono ?_
      rintro e w2 ⟨x1, rfl, hx1, hr2, hf2⟩
      dsimp only
      have hb23 := below_new w2 (boxN x1)
      have hz12 : w1.heap.size ≤ w2.heap.size := hf2.low.size
      have HR3 := hid (hr2.below hb23)
      have HF3 := hid ((HF1.out.trans hf2).trans (FrT.of_below hb23 hr2.size))
      have hB2 := boxN_frt HB1.out hf2 (by omega)
      have HB3 : Hid (_ = some (boxN zeroN)) := (hb23.block _ (lt_of_block hB2)).trans hB2
      have HK3 := hid (heap_alloc_new w2 (boxN x1))
      have HX3 := hid ((hx1.mono (Q := fun b => w.heap.size < b ∧ b < w2.heap.size) fun b hb hlt => ⟨by have hb' : w1.heap.size ≤ b := hb; omega, hlt⟩).kept fun b _ hlt => hb23.block b hlt)
      have hz3 : w2.heap.size < (w2.alloc (boxN x1)).heap.size := by simp
      have HDc := hid (declarator_any (F := F) hs hE 1 (by decide) hne (by omega) _ HR3.out)
      unfold DcPost at HDc
      dsimp only [boxN] at HR3 HF3 HB3 HK3 HX3 hz3 HDc
      clear hr2 hf2 hx1 hb23 hB2 HT HR1 HF1 HB1
      go_wp2_with fail
      generalize w2.alloc (.cells #[.int .i64 x1.kind, .int .i64 x1.tok, .slice x1.a x1.n x1.c] 27) = w3 at *
      cases hdc : dclT L F 1 d env (i + 1) with
      | error e5 =>
        rw [hdc] at hR HDc
        dsimp only at hR HDc
        injection hR with hR
        subst hR
        rw [thrown_chain] at HDc
        refine HDc.out.mono ?_
        rintro e w5 ⟨rfl, hp5, hf5⟩
        exact ⟨rfl, rfl, hp5, HF3.out.trans hf5⟩
      | ok y5 =>
        obtain ⟨n5, k5, env5⟩ := y5
        obtain ⟨hj5, hl5, hk5⟩ := dcl_ok hdc hne
        have HL5 := hid hl5
        have hne5 : env5 ≠ [] := ne_of_len hl5 hne
        have hl5' : env5.length ≤ d + 1 := by omega
        clear hl5
        rw [hdc] at hR HDc
        dsimp only at hR HDc
        unfold aggN at HDc
        refine HDc.out.mono ?_
        rintro e w5 ⟨x5, rfl, hq5, hx5, hr5, hf5⟩
        have HQ5 := hid hq5
        have hxl5 : x5.n = n5.kids.length := hx5.len
        have HN5 := hid hxl5
        have hb56 := below_new w5 (boxN x5)
        have hz35 : w3.heap.size ≤ w5.heap.size := hf5.low.size
        have hK5 := boxN_frt (b := w2.heap.size) (x := x1) HK3.out hf5 (by omega)
        have hB5 := boxN_frt (b := w.heap.size) (x := zeroN) HB3.out hf5 (by omega)
        have HK6 : Hid (_ = some (boxN x1)) := (hb56.block _ (lt_of_block hK5)).trans hK5
        have HB6 : Hid (_ = some (boxN zeroN)) := (hb56.block _ (lt_of_block hB5)).trans hB5
        have HM6 := hid (heap_alloc_new w5 (boxN x5))
        have HX6 := hid (((HX3.out.frt hf5 fun b hb => by omega).mono (Q := fun b => w.heap.size < b) fun b hb _ => hb.1).kept fun b _ hlt => hb56.block b hlt)
        have HY6 := hid ((hx5.mono (Q := fun b => w.heap.size < b) fun b hb _ => by have hb' : w3.heap.size ≤ b := hb; omega).kept fun b _ hlt => hb56.block b hlt)
        have HR6 := hid (hr5.below hb56)
        have HF6 := hid ((HF3.out.trans hf5).trans (FrT.of_below hb56 hr5.size))
        have hz6 : w5.heap.size < (w5.alloc (boxN x5)).heap.size := by simp
        dsimp only [boxN] at HK6 HB6 HM6 HX6 HY6 HR6 HF6 hz6
        clear hq5 hx5 hr5 hf5 hb56 hK5 hB5 HDc HR3 HF3 HB3 HK3 HX3 hxl5
        obtain ⟨⟨s0, s1, s2⟩, _⟩ := boxN_facts (x := x5) HM6.out
        obtain ⟨⟨t0, t1, t2⟩, _⟩ := boxN_facts (x := x1) HK6.out
        have hx5l : x5.n ≤ 1000 := by have := HN5.out; omega
        by_cases hkl : n5.kids.length = 0
        · have hx0 : ((x5.n : Int) == 0) = true := by rw [HN5.out, hkl]; rfl
          have HW6 := hid (HWd.out _ _ _ HR6.out)
          have hwb5 : (wrdB L k5).toList = wordT L k5 := by rw [toList_data, wrdB_is]
          have HKL := hid hkl
          clear hkl
          go_wp2_with fail
          refine HW6.out.mono ?_
          rintro e w7 ⟨rfl, n7, rfl⟩
          generalize w5.alloc (.cells #[.int .i64 x5.kind, .int .i64 x5.tok, .slice x5.a x5.n x5.c] 27) = w6 at *
          have hbd := dN_below (Below.refl w6.heap.size w6) n7
          have HR7 := hid (HR6.out.below hbd)
          have HF7 := hid (HF6.out.trans (FrT.of_below hbd HR6.out.size))
          have HB7 : Hid (_ = some (boxN zeroN)) := (dN_heap w6 w.heap.size n7).trans HB6.out
          have HK7 : Hid (_ = some (boxN x1)) := (dN_heap w6 w2.heap.size n7).trans HK6.out
          have HM7 : Hid (_ = some (boxN x5)) := (dN_heap w6 w5.heap.size n7).trans HM6.out
          have HX7 := hid (HX6.out.kept fun b _ hlt => hbd.block b hlt)
          have HY7 := hid (HY6.out.kept fun b _ hlt => hbd.block b hlt)
          have hz7 := lt_of_block HM7.out
          generalize hw7 : w6.drewN n7 = w7 at *
          clear hw7 hbd HR6 HF6 HB6 HK6 HM6 HX6 HY6 HW6 s0 s1 s2 t0 t1 t2
          obtain ⟨⟨s0, s1, s2⟩, _⟩ := boxN_facts (x := x5) HM7.out
          obtain ⟨⟨t0, t1, t2⟩, _⟩ := boxN_facts (x := x1) HK7.out
          by_cases hp : wordT L k5 = [40]
          · rw [if_pos ⟨HKL.out, hp⟩] at hR
            rw [hp] at hwb5
            have HX := hid (function_any hs hE hl5' x1 x5 (.mk 16 (i : Int) []) n5 (fun b => w.heap.size < b) w7 HR7.out HX7.out HY7.out (fun b hb => by omega) R hR)
            unfold StPostQ aggN at HX
            go_wp2_with fail
            cases R with
            | error y =>
              dsimp only at HX
              rw [thrown_chain] at HX
              refine HX.out.mono ?_
              rintro e w8 ⟨rfl, hp8, hf8⟩
              obtain ⟨e8, hl8, hp8⟩ := hp8
              exact ⟨rfl, rfl, ⟨e8, hl8.trans HL5.out, hp8⟩, HF7.out.trans hf8⟩
            | ok y =>
              obtain ⟨n8, j8, env8⟩ := y
              dsimp only at HX
              refine HX.out.mono ?_
              rintro e w8 ⟨x8, rfl, hx8, hr8, hf8⟩
              have hB8 := boxN_frt (b := w.heap.size) (x := zeroN) HB7.out hf8 (by omega)
              have HG := hid (give_stB (B := w.heap.size) (u := zeroN) (x := x8) (P := fun b => w.heap.size < b) (Q := fun b => w.heap.size ≤ b) hrw hbs (Nat.le_refl _) hB8 (hx8.mono fun b hb _ => hb.elim id fun h => by omega) (fun b hb => by omega) hr8 (HF7.out.trans hf8) (fun b hb => Nat.le_of_lt hb))
              obtain ⟨⟨y0, y1, y2⟩, z0, z1, z2⟩ := boxN_facts (x := zeroN) hB8
              dsimp only [zeroN] at y0 y1 y2
              unfold putN at HG
              clear hx8 hr8 hf8 hB8
              go_wp2_with fail
              exact bodyPost_ret (node_ret Try.results22 (g := w.heap.size) (x := x8) HG.out.1 _ rfl) rfl ⟨_, rfl, HG.out.2⟩
          · rw [if_neg (fun h => hp h.2)] at hR
            have hp' : (wordT L k5 == [40]) = false := beq_eq_false_iff_ne.2 hp
            injection hR with hR
            have HX := hid (declared_any hs hE 1 (by decide) hne5 (by omega) x1 x5 (.mk 16 (i : Int) []) n5 (fun b => w.heap.size < b) HQ5.out hx5l w7 HR7.out HX7.out HY7.out (fun b hb => by omega))
            rw [hR] at HX
            unfold StPostQ aggN at HX
            go_wp2_with fail
            cases R with
            | error y =>
              dsimp only at HX
              rw [thrown_chain] at HX
              refine HX.out.mono ?_
              rintro e w8 ⟨rfl, hp8, hf8⟩
              obtain ⟨e8, hl8, hp8⟩ := hp8
              exact ⟨rfl, rfl, ⟨e8, hl8.trans HL5.out, hp8⟩, HF7.out.trans hf8⟩
            | ok y =>
              obtain ⟨n8, j8, env8⟩ := y
              dsimp only at HX
              refine HX.out.mono ?_
              rintro e w8 ⟨x8, rfl, hx8, hr8, hf8⟩
              have hB8 := boxN_frt (b := w.heap.size) (x := zeroN) HB7.out hf8 (by omega)
              have HG := hid (give_stB (B := w.heap.size) (u := zeroN) (x := x8) (P := fun b => w.heap.size < b) (Q := fun b => w.heap.size ≤ b) hrw hbs (Nat.le_refl _) hB8 (hx8.mono fun b hb _ => hb.elim id fun h => by omega) (fun b hb => by omega) hr8 (HF7.out.trans hf8) (fun b hb => Nat.le_of_lt hb))
              obtain ⟨⟨y0, y1, y2⟩, z0, z1, z2⟩ := boxN_facts (x := zeroN) hB8
              dsimp only [zeroN] at y0 y1 y2
              unfold putN at HG
              clear hx8 hr8 hf8 hB8
              go_wp2_with fail
              exact bodyPost_ret (node_ret Try.results22 (g := w.heap.size) (x := x8) HG.out.1 _ rfl) rfl ⟨_, rfl, HG.out.2⟩
        · rw [if_neg (fun h => hkl h.1)] at hR
          have hx0 : ((x5.n : Int) == 0) = false := by
            have := HN5.out
            rw [beq_eq_false_iff_ne]
            omega
          injection hR with hR
          clear hkl
          have HX := hid (declared_any hs hE 1 (by decide) hne5 (by omega) x1 x5 (.mk 16 (i : Int) []) n5 (fun b => w.heap.size < b) HQ5.out hx5l _ HR6.out HX6.out HY6.out (fun b hb => by omega))
          rw [hR] at HX
          unfold StPostQ aggN at HX
          have HB7 := HB6
          have HF7 := HF6
          have hz7 := hz6
          go_wp2_with fail
          generalize w5.alloc (.cells #[.int .i64 x5.kind, .int .i64 x5.tok, .slice x5.a x5.n x5.c] 27) = w7 at *
          cases R with
          | error y =>
            dsimp only at HX
            rw [thrown_chain] at HX
            refine HX.out.mono ?_
            rintro e w8 ⟨rfl, hp8, hf8⟩
            obtain ⟨e8, hl8, hp8⟩ := hp8
            exact ⟨rfl, rfl, ⟨e8, hl8.trans HL5.out, hp8⟩, HF7.out.trans hf8⟩
          | ok y =>
            obtain ⟨n8, j8, env8⟩ := y
            dsimp only at HX
            refine HX.out.mono ?_
            rintro e w8 ⟨x8, rfl, hx8, hr8, hf8⟩
            have hB8 := boxN_frt (b := w.heap.size) (x := zeroN) HB7.out hf8 (by omega)
            have HG := hid (give_stB (B := w.heap.size) (u := zeroN) (x := x8) (P := fun b => w.heap.size < b) (Q := fun b => w.heap.size ≤ b) hrw hbs (Nat.le_refl _) hB8 (hx8.mono fun b hb _ => hb.elim id fun h => by omega) (fun b hb => by omega) hr8 (HF7.out.trans hf8) (fun b hb => Nat.le_of_lt hb))
            obtain ⟨⟨y0, y1, y2⟩, z0, z1, z2⟩ := boxN_facts (x := zeroN) hB8
            dsimp only [zeroN] at y0 y1 y2
            unfold putN at HG
            clear hx8 hr8 hf8 hB8
            go_wp2_with fail
            exact bodyPost_ret (node_ret Try.results22 (g := w.heap.size) (x := x8) HG.out.1 _ rfl) rfl ⟨_, rfl, HG.out.2⟩
    · rw [if_neg ht] at hR
      simp only [if_neg ht] at HT
      injection hR with hR
      subst hR
      rw [thrown_chain] at HT
      refine HT.out.mono ?_
      rintro e w2 ⟨rfl, hp2, hf2⟩
      exact ⟨rfl, rfl, hp2, HF1.out.trans hf2⟩
end
section
open Go.RowKit Go.Shelf

theorem fun_ok {L : List Tk} {F G d : Nat} {env : Env0} {kd nm : Nd} {i : Nat} {n : Nd} {j : Nat} {env' : Env0} (h : funT L F G d env kd nm i = some (.ok (n, j, env'))) : i < j ∧ env'.length = env.length := by
  unfold funT at h
  split at h
  · split at h
    · cases h
    · rename_i ks k env2 hp
      obtain ⟨h1, h2⟩ := lps_ok hp (by simp)
      split at h
      · cases h
      · cases h
      · rename_i b k2 env3 hb
        obtain ⟨h3, h4⟩ := st_ok L F G _ _ _ _ _ _ _ _ _ hb (ne_of_len h2 (by simp))
        cases h
        refine ⟨by omega, ?_⟩
        simp only [List.length_dropLast, h4, h2]
        simp
  · cases h
theorem out_ok {L : List Tk} {F G d : Nat} {env : Env0} {i : Nat} {n : Nd} {j : Nat} {env' : Env0} (h : outT L F G d env i = some (.ok (n, j, env'))) (hne : env ≠ []) : i < j ∧ env'.length = env.length := by
  unfold outT at h
  split at h
  · injection h with h
    exact dco_ok h hne
  · split at h
    · split at h
      · cases h
      · rename_i n1 k1 env1 hd
        obtain ⟨h1, h2, _⟩ := dcl_ok hd hne
        split at h
        · obtain ⟨h3, h4⟩ := fun_ok h
          exact ⟨by omega, h4.trans h2⟩
        · injection h with h
          obtain ⟨h3, h4⟩ := ded_ok h (ne_of_len h2 hne)
          exact ⟨by omega, h4.trans h2⟩
    · cases h
/-- What unit tells, or throws. -/
def UnPost (base r : Nat) (L : List Tk) (R : Got Nd) (w : World) (e : Ending) (w' : World) : Prop := match R with
  | .ok n => ∃ x, e = .returned (aggN x) ∧ NdIs w' (w.heap.size ≤ ·) x n ∧ FrT base r w w'
  | .error x => e = thrownT x.1 (placeT L x.2) ∧ FrT base r w w'
/-- Ahead of a round. -/
def UnSt (base r : Nat) (la : Option Addr) (lc : Nat) (L : List Tk) (F G : Nat) (R : Got Nd) (w : World) (Bn g : Nat) (wr : World) : Prop :=
  ∃ (ks : List Nd) (nvs : List Nv) (a : Option Addr) (c j : Nat) (env' : Env0), uniF L F G g env' j ks = some R ∧ env' ≠ [] ∧ env'.length = 1 ∧ nvs.length ≤ j ∧ RdAt wr base r la lc L j env' 0 ∧ BkRow base r (fun _ => False) w 1 Bn w.heap.size ks nvs a c wr

set_option maxRecDepth 100000 in
set_option maxHeartbeats 2000000 in
theorem unit_any {base r : Nat} {la : Option Addr} {lc : Nat} {L : List Tk} {F G : Nat} (hs : Short L) (hE : Enough L F) (f : Nat) (w : World) (h : RdAt w base r la lc L 0 [] 0) (R : Got Nd) (hR : uniF L F G f [fun _ => 0] 0 [] = some R) :
    Calls Try.prog 14 #[.pointer (some ⟨r, 0, none⟩)] w (UnPost base r L R w) := by
  have hbs := h.size
  have hrw : r < w.heap.size := by obtain ⟨lo, hbr, vn, ms, hc, hn⟩ := h; exact hc.lt
  have hb0 := below_new w (boxN zeroN)
  have HR0 := hid (h.below hb0)
  have HF0 := hid (FrT.of_below (r := r) hb0 hbs)
  have HB0 := hid (heap_alloc_new w (boxN zeroN))
  have HO := hid (open_any _ HR0.out (by simp))
  dsimp only [boxN, zeroN] at HR0 HF0 HB0 HO
  unfold UnPost
  clear h hb0
  go_enter Try.func14, Try.ntmps14
  go_wp2_with fail
  generalize w.alloc (.cells #[.int .i64 0, .int .i64 0, .slice none 0 0] 27) = w0 at *
  refine HO.out.mono ?_
  rintro e w3 ⟨rfl, hr3, hf3⟩
  have HR3 : Hid (RdAt w3 base r la lc L 0 [fun _ => 0] 0) := hr3
  have HF3 := hid (HF0.out.trans hf3)
  have HB3 : Hid (_ = some (boxN zeroN)) := boxN_frt HB0.out hf3 (by omega)
  clear hr3 hf3 HO HR0 HF0 HB0
  go_wp2_with fail
  refine (node_any 1 none 0 0 _).mono ?_
  rintro e w4 ⟨rfl, hb4⟩
  have hz4 := lt_of_block HB3.out
  have hz4' := hb4.size
  have hb45 := below_new w4 (boxN ⟨1, -1, none, 0, 0⟩)
  have hR4 := HR3.out.below hb4
  have hB4 : w4.heap[w.heap.size]? = some (boxN zeroN) := (hb4.block _ (lt_of_block HB3.out)).trans HB3.out
  have hSt : UnSt base r la lc L F G R w w4.heap.size f (w4.alloc (boxN ⟨1, -1, none, 0, 0⟩)) := ⟨[], [], none, 0, 0, [fun _ => 0], hR, by simp, rfl, Nat.zero_le _, hR4.below hb45, bk_start (heap_alloc_new w4 (boxN ⟨1, -1, none, 0, 0⟩)) ((hb45.block _ (lt_of_block hB4)).trans hB4) ((HF3.out.trans (FrT.of_below hb4 HR3.out.size)).trans (FrT.of_below hb45 hR4.size))⟩
  have HSt := hid hSt
  have hBn : w.heap.size < w4.heap.size := by omega
  dsimp only [boxN] at HSt
  clear hb4 hb45 hR4 hB4 hSt HR3 HF3 HB3 hR
  unfold aggN
  dsimp only
  go_wp2_with fail
  generalize w4.alloc (.cells #[.int .i64 1, .int .i64 (-1), .slice none 0 0] 27) = w5 at *
  generalize w4.heap.size = Bn at *
  go_loopg [] f (fun g wr => Hid (UnSt base r la lc L F G R w Bn g wr))
  case atStart => exact HSt
  case round =>
    obtain ⟨ks', nvs, a, c, j, env', hR', hne', hle', hnj, hr', hd'⟩ := hrel.out
    have hjl : j ≤ L.length ∧ L.length ≤ 6000 := by obtain ⟨lo, hbr, vn, ms, hc, hn⟩ := hr'; exact ⟨hc.le, hc.few⟩
    obtain ⟨g, rfl⟩ : ∃ g, gk = g + 1 := by
      cases gk with
      | zero => unfold uniF at hR'; cases hR'
      | succ g => exact ⟨g, rfl⟩
    rw [uniF] at hR'
    have HSk := hid (by obtain ⟨lo, hbr, vn, ms, hc, hn⟩ := hr'; exact ended_any wr hc)
    have HRr := hid hr'
    have HDr := hid hd'
    have HLe := hid hle'
    clear hr' hd' hrel HSt hle'
    by_cases hq2 : L.length ≤ j
    · rw [if_pos hq2] at hR'
      injection hR' with hR'
      subst hR'
      rw [decide_eq_true hq2] at HSk
      go_wp2_with fail
      refine HSk.out.mono ?_
      rintro e w6 ⟨rfl, n6, rfl⟩
      have hbd := dN_below (Below.refl wr.heap.size wr) n6
      have hr6 := HRr.out.below hbd
      have HD6 := hid (HDr.out.frt hrw (fun _ h => h.elim) (by omega) (Nat.le_refl _) (FrT.of_below hbd HRr.out.size))
      have hzn := lt_of_block HD6.out.bN
      have HG := hid (give_stB (B := w.heap.size) (u := zeroN) (x := ⟨1, -1, a, nvs.length, c⟩) (n := .mk 1 (-1) ks') (P := fun b => w.heap.size < b) (Q := fun b => w.heap.size < b) hrw hbs (Nat.le_refl _) HD6.out.bZ ⟨rfl, rfl, KidsAt.of_row HD6.out.row (HD6.out.nds.mono fun b hb _ => by have := hb.1.elim (fun h => h.elim) id; omega) (fun b e => by have h1 := (rowA_of HD6.out.row e).1; have h2 := HD6.out.ne2; have h3 : b ≠ w.heap.size := fun e' => h2 (e' ▸ e); omega)⟩ (fun b hb => by omega) hr6 HD6.out.fr (fun b hb => hb))
      obtain ⟨⟨x0, x1, x2⟩, _⟩ := boxN_facts HD6.out.bN
      obtain ⟨⟨y0, y1, y2⟩, z0, z1, z2⟩ := boxN_facts (x := zeroN) HD6.out.bZ
      dsimp only [zeroN] at x0 x1 x2 y0 y1 y2
      unfold putN at HG
      dsimp only at HG
      clear hr6 hbd HSk HRr HDr
      generalize wr.drewN n6 = w6 at *
      go_wp2_with fail
      exact bodyPost_ret (node_ret Try.results14 (g := w.heap.size) (x := ⟨1, -1, a, nvs.length, c⟩) HG.out.1 _ rfl) rfl ⟨_, rfl, HG.out.2.1.mono fun b hb _ => Nat.le_of_lt hb, HG.out.2.2.2⟩
    · rw [if_neg hq2] at hR'
      rw [decide_eq_false hq2] at HSk
      go_wp2_with fail
      refine HSk.out.mono ?_
      rintro e w6 ⟨rfl, n6, rfl⟩
      have hbd := dN_below (Below.refl wr.heap.size wr) n6
      have HR6 := hid (HRr.out.below hbd)
      have HD6 := hid (HDr.out.frt hrw (fun _ h => h.elim) (by omega) (Nat.le_refl _) (FrT.of_below hbd HRr.out.size))
      generalize hw6 : wr.drewN n6 = w6 at *
      clear hw6 hbd HSk HRr HDr
      have hzn := lt_of_block HD6.out.bN
      have hzz := lt_of_block HD6.out.bZ
      have HCe := hid (fun W (hb : Below w6.heap.size w6 W) => (boxN_facts (x := ⟨1, -1, a, nvs.length, c⟩) ((hb.block _ (lt_of_block HD6.out.bN)).trans HD6.out.bN)).1.2.2)
      have hob : ∀ b, (Value.slice a nvs.length c).ownBlock = some b → b < w6.heap.size := fun b e => by obtain ⟨_, cur, k2⟩ := rowA_of HD6.out.row e; exact lt_of_block k2
      go_wp2_with fail
      refine wp_region_any (by kernel_rfl) ?_
      refine wpAny_take (i := 0) (v := .pointer (some ⟨Bn, 2, none⟩)) rfl (by kernel_rfl) (by kernel_rfl) (by kernel_rfl) (fun _ _ _ h => h) (Or.inl ⟨by rfl, ?_⟩) ?_
      · intro W
        go_simp
      refine wpAny_take (i := 2) (v := .pointer (some ⟨r, 0, none⟩)) rfl (by kernel_rfl) (by kernel_rfl) (by kernel_rfl) (fun _ _ _ h => h) (Or.inl ⟨by rfl, ?_⟩) ?_
      · intro W
        go_simp
      refine takeT (C := fun W => W.cell? ⟨Bn, 2, none⟩ = some (.slice a nvs.length c)) (i := 1) (v := .slice a nvs.length c) rfl (by kernel_rfl) (by kernel_rfl) (by kernel_rfl) (fun _ _ _ h => h) (Or.inl ⟨by rfl, ?_⟩) (HCe.out _ (Below.refl _ _).drew) ?_
      · intro W hSw
        try dsimp only at hSw
        go_simp
      refine anyT_one (k := 3) (by kernel_rfl) rfl (fun K hK => ?_)
      go_simp
      cases hs5 : outT L F G 0 env' j with
      | none => rw [hs5] at hR'; cases hR'
      | some R5 =>
        have HS5 := hid (fun W (hW : RdAt W base r la lc L j env' 0) => outer_any hs hE hne' (by have := HLe.out; omega) W hW R5 hs5)
        unfold StPost at HS5
        rw [hs5] at hR'
        cases R5 with
        | error y =>
          dsimp only at hR' HS5
          injection hR' with hR'
          subst hR'
          rw [thrown_chain] at HS5
          go_wp2_with (go_at_call 22; refine (HS5.out _ (HR6.out.below (Below.refl _ _).drew)).mono ?_; rintro e w7 ⟨rfl, hp7, hf7⟩)
          exact ⟨rfl, rfl, (HD6.out.fr.trans (FrT.of_below (Below.refl _ _).drew HR6.out.size)).trans hf7⟩
        | ok y =>
          obtain ⟨n5, j5, env5⟩ := y
          obtain ⟨hj5, hl5⟩ := out_ok hs5 hne'
          have HL5 := hid hl5
          have hne5 := ne_of_len hl5 hne'
          clear hl5
          dsimp only at hR' HS5
          unfold aggN at HS5
          go_wp2_with (go_at_call 22; refine (HS5.out _ (HR6.out.below (Below.refl _ _).drew)).mono ?_; rintro e w7 ⟨x7, rfl, hx7, hr7, hf7⟩)
          have hf67 : FrT base r w6 w7 := (FrT.of_below (Below.refl _ _).drew HR6.out.size).trans hf7
          have hz67 : w6.heap.size ≤ w7.heap.size := hf7.low.size
          have HD7 := hid (HD6.out.frt hrw (fun _ h => h.elim) (by omega) (Nat.le_refl _) hf67)
          have hba := below_new w7 (boxN x7)
          have HDa := hid (HD7.out.frt hrw (fun _ h => h.elim) (by omega) (Nat.le_refl _) (FrT.of_below hba hr7.size))
          have hra := hr7.below hba
          have hxa := (hx7.mono (Q := fun b => (False ∨ w.heap.size ≤ b) ∧ b ≠ Bn ∧ b ≠ w.heap.size ∧ (Value.slice a nvs.length c).ownBlock ≠ some b) fun b hb _ => by have hb' : w6.heap.size ≤ b := hb; exact ⟨.inr (by omega), by omega, by omega, fun e => by have := hob b e; omega⟩).kept fun b _ hlt => hba.block b hlt
          have HMo := hid (fun v8 w8 => HDa.out.more (w7 := w8) (v' := v8) hrw hbs (by omega) (by omega) (NdsIs.one hxa) hra)
          have hrow7 := new_row w7 [x7] (by simp)
          have hrowa := HDa.out.row
          have hbza : w.heap.size ≤ (w7.alloc (boxN x7)).heap.size := by have := lt_of_block HDa.out.bZ; omega
          refine hK.out _ _ (fun _ => (boxN_facts HD7.out.bN).1.2.2) ?_
          clear hK K hx7 hr7 hf7 hba hra hxa hf67
          refine anyT_one (k := 4) (by kernel_rfl) rfl (fun K hK => ?_)
          go_simp
          refine hK.out _ _ (fun _ => (boxN_facts HDa.out.bN).1.2.2) ?_
          clear hK K
          refine anyT_one (k := 5) (by kernel_rfl) rfl (fun K hK => ?_)
          refine step_append_rowA (by rfl) _ _ (by rfl) w.heap.size _ nvs.length c a nvs [x7] w7.heap.size 1 (by rfl) (by rfl) rfl hrowa hrow7 (by omega) (by simp) hbza ?_
          intro v8 w8 hown8 hg8 hob8
          obtain ⟨a8, c8, rfl, q1, q2, q3⟩ := HMo.out v8 w8 hown8 hg8 hob8
          have hl6 : (nvs ++ [x7]).length = nvs.length + 1 := by simp
          rw [hl6] at q2 q3 ⊢
          have HQ2 := hid q2
          have HQ3 := hid q3
          obtain ⟨⟨t0, t1, t2⟩, f0, f1, f2⟩ := boxN_facts q1
          refine hK.out _ _ (fun _ => t2) ?_
          clear hK K hown8 hg8 hob8 q2 q3 HMo hrowa hrow7
          refine anyT_one (k := 6) (by kernel_rfl) rfl (fun K hK => ?_)
          go_simp
          refine hK.out _ _ (fun _ => t2) ?_
          clear hK K
          refine anyT_one (k := 7) (by kernel_rfl) rfl (fun K hK => ?_)
          go_simp
          refine hK.out _ _ (fun hno => absurd rfl (hno _ rfl ⟨1, .phase⟩ (by simp) (by rfl))) ?_
          clear hK K t0 t1 t2 f0 f1 f2 q1
          refine anyT_done (by kernel_rfl) ?_
          go_wp2_with fail
          go_roundg g
          case rel => exact ⟨ks' ++ [n5], nvs ++ [x7], a8, c8, j5, env5, hR', hne5, HL5.out.trans HLe.out, by rw [hl6]; omega, HQ3.out, HQ2.out⟩
          case measure => omega
end
section
open Go.RowKit Go.Shelf

theorem assertT_none (T : TypeId) (w : World) : (Instr.typeAssert .nilIface T 46 true).run Try.prog w = .ok (.tuple #[.agg #[.int .i64 0, .int .i64 0, .int .i64 0], .bool false]) w := by kernel_rfl
theorem assertT_stop (T : TypeId) (v : Value) (w : World) : (Instr.typeAssert (.iface 46 v) T 46 true).run Try.prog w = .ok (.tuple #[v, .bool true]) w := by kernel_rfl

set_option maxRecDepth 100000 in
set_option maxHeartbeats 1000000 in
theorem catchT_idle (p q : Addr) (w : World) :
    CallsD Try.prog 13 #[.pointer (some p), .pointer (some q)] .returning w fun e u' w' => e = .returned (.tuple #[]) ∧ u' = .returning ∧ Below w.heap.size w w' := by
  refine callsD_of_wpS Try.func13 rfl fun c₀ cs hu => ?_
  apply wpS_seq
  apply wpS_region
  simp [wpOpsS, go_sem, recoverD, hu, Try.ntmps13, Exit.thenS, assertT_none, Array.replicate]
  refine wpS_of_wp ?_
  go_wp2_with fail
  have HB := hid (below_new w (.cells #[.int .i64 0, .int .i64 0, .int .i64 0] 46))
  generalize w.alloc (.cells #[.int .i64 0, .int .i64 0, .int .i64 0] 46) = w2 at HB ⊢
  cases c₀
  simp_all [bodyPostS, results, Try.results13]
  exact HB.out

/-- A fault, laid into its block. -/
def putF (W : World) (q : Nat) (e f a : Int) : World := ((W.setCell ⟨q, 0, none⟩ (.int .i64 e)).setCell ⟨q, 1, none⟩ (.int .i64 f)).setCell ⟨q, 2, none⟩ (.int .i64 a)
theorem putF_block {W : World} {q : Nat} {x0 x1 x2 : Value} {T : TypeId} (e f a : Int) (hq : W.heap[q]? = some (.cells #[x0, x1, x2] T)) : (putF W q e f a).heap[q]? = some (.cells #[.int .i64 e, .int .i64 f, .int .i64 a] T) := by
  have h1 := Go.Joins.block_setCell (i := 0) hq (.int .i64 e)
  have h2 := Go.Joins.block_setCell (i := 1) h1 (.int .i64 f)
  have h3 := Go.Joins.block_setCell (i := 2) h2 (.int .i64 a)
  unfold putF
  rw [h3]
  rfl
theorem putF_other (W : World) (q : Nat) (e f a : Int) (b : Nat) (hb : b ≠ q) : (putF W q e f a).heap[b]? = W.heap[b]? := by
  unfold putF
  rw [Below.heap_setCell _ _ _ b hb, Below.heap_setCell _ _ _ b hb, Below.heap_setCell _ _ _ b hb]
theorem putF_size (W : World) (q : Nat) (e f a : Int) : (putF W q e f a).heap.size = W.heap.size := by unfold putF; simp
theorem putF_below {B q : Nat} {w W : World} (h : Below B w W) (hq : B ≤ q) (e f a : Int) : Below B w (putF W q e f a) :=
  ((h.setCell (p := ⟨q, 0, none⟩) hq _).setCell (p := ⟨q, 1, none⟩) hq _).setCell (p := ⟨q, 2, none⟩) hq _
theorem putN_below {B q : Nat} {w W : World} (h : Below B w W) (hq : B ≤ q) (x : Nv) : Below B w (putN W q x) :=
  ((h.setCell (p := ⟨q, 0, none⟩) hq _).setCell (p := ⟨q, 1, none⟩) hq _).setCell (p := ⟨q, 2, none⟩) hq _
theorem faultF {W : World} {q : Nat} {e f a : Value} (h : W.heap[q]? = some (.cells #[e, f, a] 30)) : (W.cell? ⟨q, 0, none⟩ = some e ∧ W.cell? ⟨q, 1, none⟩ = some f ∧ W.cell? ⟨q, 2, none⟩ = some a) ∧ W.frozen? ⟨q, 0, none⟩ = false ∧ W.frozen? ⟨q, 1, none⟩ = false ∧ W.frozen? ⟨q, 2, none⟩ = false := by
  simp [World.cell?, World.frozen?, h]
set_option maxRecDepth 100000 in
set_option maxHeartbeats 2000000 in
theorem catchT_stop (B p q : Nat) (u : Nv) (y0 y1 y2 : Value) (e f a : Int) (older : List PanicEntry) (w : World) (hp : w.heap[p]? = some (boxN u)) (hq : w.heap[q]? = some (.cells #[y0, y1, y2] 30)) (hpq : p ≠ q) (hBp : B ≤ p) (hBq : B ≤ q) :
    CallsD Try.prog 13 #[.pointer (some ⟨p, 0, none⟩), .pointer (some ⟨q, 0, none⟩)] (.panicking ({ v := .iface 46 (.agg #[.int .i64 e, .int .i64 f, .int .i64 a]), recovered := false } :: older)) w fun e' u' w' =>
      e' = .returned (.tuple #[]) ∧ u' = .panicking ({ v := .iface 46 (.agg #[.int .i64 e, .int .i64 f, .int .i64 a]), recovered := true } :: older) ∧ w'.heap[p]? = some (boxN zeroN) ∧ w'.heap[q]? = some (.cells #[.int .i64 e, .int .i64 f, .int .i64 a] 30) ∧ Below B w w' := by
  refine callsD_of_wpS Try.func13 rfl fun c₀ cs hu => ?_
  apply wpS_seq
  apply wpS_region
  simp [wpOpsS, go_sem, recoverD, hu, Try.ntmps13, Exit.thenS, assertT_stop, Array.replicate]
  refine wpS_of_wp ?_
  have hpl := lt_of_block hp
  have hql := lt_of_block hq
  have n0 : (w.alloc (.cells #[.int .i64 e, .int .i64 f, .int .i64 a] 46)).heap[w.heap.size]? = some (.cells #[.int .i64 e, .int .i64 f, .int .i64 a] 46) := by first | exact heap_alloc_new w _ | exact Array.getElem?_push_size
  have p0 := ((below_new w (.cells #[.int .i64 e, .int .i64 f, .int .i64 a] 46)).block p hpl).trans hp
  have q0 := ((below_new w (.cells #[.int .i64 e, .int .i64 f, .int .i64 a] 46)).block q hql).trans hq
  have HB := hid ((below_new w (.cells #[.int .i64 e, .int .i64 f, .int .i64 a] 46)).mono (show B ≤ w.heap.size by omega))
  obtain ⟨N, hN⟩ : ∃ N, N = w.heap.size := ⟨_, rfl⟩
  rw [← hN] at n0 ⊢
  generalize w.alloc (.cells #[.int .i64 e, .int .i64 f, .int .i64 a] 46) = w2 at n0 p0 q0 HB ⊢
  have hpN : p ≠ N := by omega
  have hqN : q ≠ N := by omega
  have HP := hid p0
  have HQ := hid q0
  obtain ⟨⟨k0, k1, k2⟩, _⟩ : (w2.cell? ⟨N, 0, none⟩ = some (.int .i64 e) ∧ w2.cell? ⟨N, 1, none⟩ = some (.int .i64 f) ∧ w2.cell? ⟨N, 2, none⟩ = some (.int .i64 a)) ∧ True := by simp [World.cell?, n0]
  obtain ⟨⟨m0, m1, m2⟩, g0, g1, g2⟩ := boxN_facts p0
  obtain ⟨⟨q1, q2, q3⟩, r1, r2, r3⟩ := faultF q0
  clear hN hp hq hpl hql p0 q0
  go_wp2_with fail
  have HNb := hid n0
  clear n0
  refine wp_region_held_drew (S := fun W => W.cell? ⟨N, 0, none⟩ = some (.int .i64 e) ∧ W.cell? ⟨N, 1, none⟩ = some (.int .i64 f) ∧ W.cell? ⟨N, 2, none⟩ = some (.int .i64 a)) (by kernel_rfl) ⟨k0, k1, k2⟩ (fun hHeld => ?_)
  refine wpAnyH_take (i := 0) (v := .agg #[.int .i64 0, .int .i64 0, .slice none 0 0]) rfl (by kernel_rfl) (by kernel_rfl) (by kernel_rfl) (fun _ _ _ h => h) (Or.inl ⟨by rfl, ?_⟩) hHeld ?_
  · intro W hSw
    go_simp
  refine wpAnyH_take (i := 1) (v := .pointer (some ⟨N, 0, none⟩)) rfl (by kernel_rfl) (by kernel_rfl) (by kernel_rfl) (fun _ _ _ h => h) (Or.inl ⟨by rfl, ?_⟩) hHeld ?_
  · intro W hSw
    go_simp
  refine wpAnyH_take (i := 2) (v := .agg #[.int .i64 e, .int .i64 f, .int .i64 a]) rfl (by kernel_rfl) (by kernel_rfl) (by kernel_rfl) (fun _ _ _ h => h) (Or.inl ⟨by rfl, ?_⟩) hHeld ?_
  · intro W hSw
    try dsimp only at hSw
    go_simp
  refine wpAnyH_ready (rs := [3]) (by kernel_rfl) (by simp) (AllReadyH.cons rfl (fun K hK => ?_) AllReadyH.nil)
  go_simp
  have HB3 : Hid (Below B w (putN w2 p zeroN).drew) := (putN_below HB.out hBp zeroN).drew
  have HP3 : Hid ((putN w2 p zeroN).drew.heap[p]? = some (boxN zeroN)) := putN_block zeroN HP.out
  have HQ3 : Hid ((putN w2 p zeroN).drew.heap[q]? = some (.cells #[y0, y1, y2] 30)) := (putN_other w2 p zeroN q (Ne.symm hpq)).trans HQ.out
  have HN3 : Hid ((putN w2 p zeroN).drew.heap[N]? = some (.cells #[.int .i64 e, .int .i64 f, .int .i64 a] 46)) := (putN_other w2 p zeroN N (Ne.symm hpN)).trans HNb.out
  unfold putN at HB3 HP3 HQ3 HN3
  dsimp only [zeroN] at HB3 HP3 HQ3 HN3
  have hc3 : ∀ W : World, W.heap[N]? = some (.cells #[.int .i64 e, .int .i64 f, .int .i64 a] 46) → W.cell? ⟨N, 0, none⟩ = some (.int .i64 e) ∧ W.cell? ⟨N, 1, none⟩ = some (.int .i64 f) ∧ W.cell? ⟨N, 2, none⟩ = some (.int .i64 a) := fun W h => by simp [World.cell?, h]
  refine hK.out _ _ (hc3 _ HN3.out) (fun hHeld => ?_)
  clear hK K HB HP HQ HNb m0 m1 m2 g0 g1 g2 q1 q2 q3 r1 r2 r3 k0 k1 k2
  generalize (((w2.setCell ⟨p, 0, none⟩ (.int .i64 0)).setCell ⟨p, 1, none⟩ (.int .i64 0)).setCell ⟨p, 2, none⟩ (.slice none 0 0)).drew = w3 at *
  obtain ⟨⟨q1, q2, q3⟩, r1, r2, r3⟩ := faultF HQ3.out
  refine wpAnyH_ready (rs := [4]) (by kernel_rfl) (by simp) (AllReadyH.cons rfl (fun K hK => ?_) AllReadyH.nil)
  have HB4 := hid (putF_below HB3.out hBq e f a)
  have HP4 : Hid (_ = some (boxN zeroN)) := (putF_other w3 q e f a p hpq).trans HP3.out
  have HQ4 := hid (putF_block e f a HQ3.out)
  have HN4 := hid ((putF_other w3 q e f a N (Ne.symm hqN)).trans HN3.out)
  unfold putF at HB4 HP4 HQ4 HN4
  go_simp
  refine hK.out _ _ (hc3 _ HN4.out) (fun hHeld => ?_)
  clear hK K
  refine wpAnyH_done (by kernel_rfl) ?_ _
  generalize ((w3.setCell ⟨q, 0, none⟩ (.int .i64 e)).setCell ⟨q, 1, none⟩ (.int .i64 f)).setCell ⟨q, 2, none⟩ (.int .i64 a) = w5 at *
  go_wp2_with fail
  simp [bodyPostS, results, Try.results13]
  exact ⟨HP4.out, HQ4.out, HB4.out⟩
end
section
open Go.RowKit Go.Shelf

theorem out_some {L : List Tk} {F G d : Nat} {env : Env0} {i : Nat} (hG : 4 * L.length + 1 ≤ G) : outT L F G d env i ≠ none := by
  unfold outT
  split
  · simp
  · split
    · split
      · simp
      · rename_i n k env1 hd
        split
        · unfold funT
          split
          · split
            · simp
            · rename_i ks j env2 hp
              have h2 := (lps_ok hp (by simp)).2
              split
              · rename_i h4
                exact absurd h4 (st_some L F G 1 0 _ _ _ _ (by omega) (ne_of_len h2 (by simp)) (by show 4 * _ + 1 ≤ G; omega))
              · simp
              · simp
          · simp
        · simp
    · simp
theorem uni_some {L : List Tk} {F G : Nat} (hG : 4 * L.length + 1 ≤ G) : ∀ (f : Nat) (env : Env0) (i : Nat) (ks : List Nd), env ≠ [] → L.length - i + 1 ≤ f → uniF L F G f env i ks ≠ none
  | 0, env, i, ks, hne, hf => by omega
  | f + 1, env, i, ks, hne, hf => by
    unfold uniF
    split
    · simp
    · rename_i hil
      split
      · rename_i h
        exact absurd h (out_some hG)
      · simp
      · rename_i n j env1 h
        obtain ⟨h1, h2⟩ := out_ok h hne
        exact uni_some hG f env1 j _ (ne_of_len h2 hne) (by omega)
/-- The tree of tokens, or what is wrong. -/
def parsL (L : List Tk) : Got Nd := match uniF L (4 * L.length + 2) (4 * L.length + 3) (L.length + 1) [fun _ => 0] 0 [] with
  | some R => R
  | none => .error (0, 0)
theorem pars_is (L : List Tk) : uniF L (4 * L.length + 2) (4 * L.length + 3) (L.length + 1) [fun _ => 0] 0 [] = some (parsL L) := by
  unfold parsL
  cases h : uniF L (4 * L.length + 2) (4 * L.length + 3) (L.length + 1) [fun _ => 0] 0 [] with
  | none => exact absurd h (uni_some (by omega) _ _ _ _ (by simp) (by omega))
  | some R => rfl
/-- What Parse answers. -/
def PrPost (L : List Tk) (w : World) (e : Ending) (w' : World) : Prop := Below w.heap.size w w' ∧ match parsL L with
  | .ok n => ∃ x, e = .returned (.tuple #[aggN x, .agg #[.int .i64 0, .int .i64 (-1), .int .i64 0]]) ∧ NdIs w' (w.heap.size ≤ ·) x n
  | .error x => e = .returned (.tuple #[aggN zeroN, .agg #[.int .i64 x.1, .int .i64 (placeT L x.2).1, .int .i64 (placeT L x.2).2]])

/-- The world in which reading begins: both results, and the reader. -/
def beginT (la : Option Addr) (lc n : Nat) (w : World) : World := ((w.alloc (boxN zeroN)).alloc (.cells #[.int .i64 0, .int .i64 0, .int .i64 0] 30)).alloc (boxR la n lc 0 (.slice none 0 0) 0)
theorem begin_rd {la : Option Addr} {lc : Nat} {L : List Tk} {w : World} (hT : TAt w la L) (hl : L.length ≤ 6000) : (beginT la lc L.length w).heap[w.heap.size]? = some (boxN zeroN) ∧ (beginT la lc L.length w).heap[w.heap.size + 1]? = some (.cells #[.int .i64 0, .int .i64 0, .int .i64 0] 30) ∧ Below w.heap.size w (beginT la lc L.length w) ∧ RdAt (beginT la lc L.length w) (w.heap.size + 2) (w.heap.size + 2) la lc L 0 [] 0 := by
  unfold beginT
  have b1 := below_new w (boxN zeroN)
  have b2 := below_new (w.alloc (boxN zeroN)) (.cells #[.int .i64 0, .int .i64 0, .int .i64 0] 30)
  have b3 := below_new ((w.alloc (boxN zeroN)).alloc (.cells #[.int .i64 0, .int .i64 0, .int .i64 0] 30)) (boxR la L.length lc 0 (.slice none 0 0) 0)
  have hb := b1.trans ((b2.trans (b3.mono (by simp))).mono (by simp))
  have hla : ∀ b off, la = some ⟨b, off, none⟩ → L ≠ [] → b < w.heap.size := fun b off e hL => by
    rcases hT with h | ⟨b', off', e', hlt, _⟩
    · exact absurd h hL
    · rw [e] at e'
      cases e'
      exact hlt
  refine ⟨?_, ?_, hb, ⟨fun b off e hL => by have := hla b off e hL; omega, Nat.le_refl _, .slice none 0 0, [], ⟨?_, hT.below hb, ?_, Nat.zero_le _, hl, Nat.zero_le _⟩, ⟨rfl, World.ownsRow_nil _ _ _ _, fun j b g h => by simp at h, fun j g h => by simp at h, fun i j b h => by simp at h⟩⟩⟩
  · rw [b3.block _ (by simp; omega), b2.block _ (by simp)]; exact heap_alloc_new w _
  · rw [b3.block _ (by simp)]
    have := heap_alloc_new (w.alloc (boxN zeroN)) (.cells #[.int .i64 0, .int .i64 0, .int .i64 0] 30)
    rwa [World.size_alloc] at this
  · have := heap_alloc_new ((w.alloc (boxN zeroN)).alloc (.cells #[.int .i64 0, .int .i64 0, .int .i64 0] 30)) (boxR la L.length lc 0 (.slice none 0 0) 0)
    rwa [World.size_alloc, World.size_alloc] at this
  · intro b off e hL
    have := hla b off e hL
    omega

set_option maxRecDepth 100000 in
set_option maxHeartbeats 2000000 in
theorem Parse_any (la : Option Addr) (lc : Nat) (L : List Tk) (w : World) (hT : TAt w la L) (hl : L.length ≤ 6000) (hs : Short L) :
    Calls Try.prog 7 #[.slice la L.length lc] w (PrPost L w) := by
  have hmf : ∀ (fn : Fn) (first cap : Array Value) (w : World), (Instr.makeFunc fn first cap).run Try.prog w = .ok (.func fn first cap) w := fun _ _ _ _ => rfl
  obtain ⟨h1, h2, h3, h4⟩ := begin_rd (lc := lc) hT hl
  have HU := hid (unit_any hs (enough_of L hl) (L.length + 1) _ h4 (parsL L) (pars_is L))
  unfold UnPost at HU
  unfold PrPost
  unfold beginT at h1 h2 h3 h4 HU
  have HH := hid (And.intro h1 (And.intro h2 (And.intro h3 (lt_of_block h2))))
  dsimp only [boxN, boxR, zeroN] at HU HH
  clear h1 h2 h3 h4 hT
  cases hp : parsL L with
  | error x =>
    rw [hp] at HU
    dsimp only at HU ⊢
    rw [thrown_chain] at HU
    unfold chainT at HU
    go_enter_defers Try.func7, Try.ntmps7
    go_wp2_with fail
    generalize ((w.alloc (.cells #[.int .i64 0, .int .i64 0, .slice none 0 0] 27)).alloc (.cells #[.int .i64 0, .int .i64 0, .int .i64 0] 30)).alloc (.cells #[.slice la L.length lc, .int .i64 0, .slice none 0 0, .int .i64 0] 53) = w0 at *
    refine HU.out.mono ?_
    rintro e w1 ⟨rfl, hf1⟩
    have HN1 : Hid (w1.heap[w.heap.size]? = some (boxN zeroN)) := (hf1.low.block _ (by omega)).trans HH.out.1
    have HQ1 : Hid (w1.heap[w.heap.size + 1]? = some (.cells #[.int .i64 0, .int .i64 0, .int .i64 0] 30)) := (hf1.low.block _ (by omega)).trans HH.out.2.1
    have HB1 := hid (HH.out.2.2.1.trans (hf1.low.mono (by omega)))
    clear hf1 HH HU
    go_wp2_with fail
    refine leaves_cons (f := 13) (args := #[.pointer (some ⟨w.heap.size, 0, none⟩), .pointer (some ⟨w.heap.size + 1, 0, none⟩)]) (by simp) (by simp [go_sem]) ?_
    refine (catchT_stop w.heap.size w.heap.size (w.heap.size + 1) zeroN _ _ _ _ _ _ [] w1 HN1.out HQ1.out (by omega) (Nat.le_refl _) (by omega)).mono ?_
    rintro e u' w2 ⟨rfl, rfl, g1, g2, hb2⟩
    have HB2 := hid (HB1.out.trans hb2)
    obtain ⟨⟨c0, c1, c2⟩, _⟩ := boxN_facts (x := zeroN) g1
    obtain ⟨⟨d0, d1, d2⟩, _⟩ := faultF g2
    dsimp only [zeroN] at c0 c1 c2
    simp [Leaves, settle, results, Try.results7, go_sem, c0, c1, c2, d0, d1, d2]
    exact ⟨HB2.out, rfl⟩
  | ok n =>
    rw [hp] at HU
    dsimp only at HU ⊢
    go_enter_defers Try.func7, Try.ntmps7
    go_wp2_with fail
    generalize ((w.alloc (.cells #[.int .i64 0, .int .i64 0, .slice none 0 0] 27)).alloc (.cells #[.int .i64 0, .int .i64 0, .int .i64 0] 30)).alloc (.cells #[.slice la L.length lc, .int .i64 0, .slice none 0 0, .int .i64 0] 53) = w0 at *
    unfold aggN at HU
    refine HU.out.mono ?_
    rintro e w1 ⟨x, rfl, hx1, hf1⟩
    have hN1 : w1.heap[w.heap.size]? = some (boxN zeroN) := (hf1.low.block _ (by omega)).trans HH.out.1
    have hQ1 : w1.heap[w.heap.size + 1]? = some (.cells #[.int .i64 0, .int .i64 0, .int .i64 0] 30) := (hf1.low.block _ (by omega)).trans HH.out.2.1
    have hb1 := HH.out.2.2.1.trans (hf1.low.mono (by omega))
    have hz0 : w.heap.size + 1 < w0.heap.size := HH.out.2.2.2
    obtain ⟨⟨c0, c1, c2⟩, f0, f1, f2⟩ := boxN_facts (x := zeroN) hN1
    obtain ⟨⟨d0, d1, d2⟩, g0, g1, g2⟩ := faultF hQ1
    dsimp only [zeroN] at c0 c1 c2
    have HN5 : Hid ((putF (putN w1 w.heap.size x) (w.heap.size + 1) 0 (-1) 0).heap[w.heap.size]? = some (boxN x)) := (putF_other _ _ _ _ _ _ (by omega)).trans (putN_block x hN1)
    have HQ5 : Hid ((putF (putN w1 w.heap.size x) (w.heap.size + 1) 0 (-1) 0).heap[w.heap.size + 1]? = some (.cells #[.int .i64 0, .int .i64 (-1), .int .i64 0] 30)) := putF_block _ _ _ ((putN_other w1 w.heap.size x (w.heap.size + 1) (by omega)).trans hQ1)
    have HB5 : Hid (Below w.heap.size w (putF (putN w1 w.heap.size x) (w.heap.size + 1) 0 (-1) 0)) := putF_below (putN_below hb1 (Nat.le_refl _) x) (by omega) _ _ _
    have HX5 : Hid (NdIs (putF (putN w1 w.heap.size x) (w.heap.size + 1) 0 (-1) 0) (w.heap.size ≤ ·) x n) := ((hx1.kept fun b hb _ => (putF_other _ _ _ _ _ b (by have hb' : w0.heap.size ≤ b := hb; omega)).trans (putN_other _ _ _ b (by have hb' : w0.heap.size ≤ b := hb; omega)))).mono fun b hb _ => by have hb' : w0.heap.size ≤ b := hb; omega
    unfold putF putN at HN5 HQ5 HB5 HX5
    clear hN1 hQ1 hb1 hx1 hf1 HU HH
    go_wp2_with fail
    generalize (((((w1.setCell ⟨w.heap.size, 0, none⟩ (.int .i64 x.kind)).setCell ⟨w.heap.size, 1, none⟩ (.int .i64 x.tok)).setCell ⟨w.heap.size, 2, none⟩ (.slice x.a x.n x.c)).setCell ⟨w.heap.size + 1, 0, none⟩ (.int .i64 0)).setCell ⟨w.heap.size + 1, 1, none⟩ (.int .i64 (-1))).setCell ⟨w.heap.size + 1, 2, none⟩ (.int .i64 0) = w5 at *
    refine leaves_cons (f := 13) (args := #[.pointer (some ⟨w.heap.size, 0, none⟩), .pointer (some ⟨w.heap.size + 1, 0, none⟩)]) (by simp) (by simp [go_sem]) ?_
    refine (catchT_idle ⟨w.heap.size, 0, none⟩ ⟨w.heap.size + 1, 0, none⟩ w5).mono ?_
    rintro e u' w6 ⟨rfl, rfl, hb6⟩
    have hN6 := (hb6.block _ (lt_of_block HN5.out)).trans HN5.out
    have hQ6 := (hb6.block _ (lt_of_block HQ5.out)).trans HQ5.out
    have HX6 := hid (HX5.out.kept fun b _ hlt => hb6.block b hlt)
    have HB6 := hid (HB5.out.trans (hb6.mono HB5.out.size))
    obtain ⟨⟨c0, c1, c2⟩, _⟩ := boxN_facts (x := x) hN6
    obtain ⟨⟨d0, d1, d2⟩, _⟩ := faultF hQ6
    clear hb6 hN6 hQ6
    simp [Leaves, settle, results, Try.results7, go_sem, c0, c1, c2, d0, d1, d2]
    exact ⟨HB6.out, x, rfl, HX6.out⟩
end
end Go.Proofs.Ytocklchafmlfkaa
