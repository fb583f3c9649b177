/- Walk of declaration. · Statements, plain: 0 a statement, 1 a block, 2 what stands in it, 3 if and while with what they ask. · Walk of parameter. · Walk of listed, at parameters. · Functions and units, plain. -/
import Derived.Test.YtocklchafmlfkaaTrDedW
import Derived.Test.YtocklchafmlfkaaTgD
namespace Go.Proofs.Ytocklchafmlfkaa
section
open Go.RowKit Go.Shelf

/-- A declaration whose names are made as a tells, from its type on. -/
def dctT (L : List Tk) (F : Nat) (a : Int) (d : Nat) (env : Env0) (i : Nat) : Got (Nd × Nat × Env0) :=
  if typT L env i = true then match dclT L F a d env (i + 1) with
    | .error x => .error x
    | .ok (n, k, env') => dedT L F a d env' (.mk 16 (i : Int) []) n k
  else .error (2, i)
/-- A declaration. -/
def dcoT (L : List Tk) (F d : Nat) (env : Env0) (i : Nat) : Got (Nd × Nat × Env0) := if wordT L i = [116, 121, 112, 101, 100, 101, 102] then dctT L F 2 d env (i + 1) else dctT L F 1 d env i

set_option maxRecDepth 100000 in
set_option maxHeartbeats 2000000 in
theorem declaration_any {base r : Nat} {la : Option Addr} {lc : Nat} {L : List Tk} {i : Nat} {env : Env0} {d F : Nat} (hs : Short L) (hE : Enough L F) (hne : env ≠ []) (hl : env.length ≤ 1000) (w : World) (h : RdAt w base r la lc L i env d) :
    Calls Try.prog 29 #[.pointer (some ⟨r, 0, none⟩)] w (StPost base r la lc L env d (dcoT L F d env i) w) := by
  have hbs := h.size
  have hrw : r < w.heap.size := by obtain ⟨lo, hbr, vn, ms, hc, hn⟩ := h; exact hc.lt
  have hb0 := below_new w (boxN zeroN)
  have HR0 := hid (h.below hb0)
  have HF0 := hid (FrT.of_below (r := r) hb0 hbs)
  have HB0 := hid (heap_alloc_new w (boxN zeroN))
  have HSk := hid (skip_st ⟨#[116, 121, 112, 101, 100, 101, 102]⟩ (by decide) _ HR0.out)
  rw [show (⟨#[116, 121, 112, 101, 100, 101, 102]⟩ : ByteArray).data.toList = [116, 121, 112, 101, 100, 101, 102] from rfl] at HSk
  have HTn := hid (fun (k : Nat) (W : World) (hW : RdAt W base r la lc L k env d) => typeName_any hs hl W hW)
  unfold StPost at HTn ⊢
  dsimp only [boxN, zeroN] at HR0 HF0 HB0 HSk
  clear h hb0
  obtain ⟨R, hR⟩ : ∃ R, dcoT L F d env i = R := ⟨_, rfl⟩
  rw [hR]
  unfold dcoT at hR
  by_cases hq : wordT L i = [116, 121, 112, 101, 100, 101, 102]
  · rw [if_pos hq] at hR
    simp only [if_pos hq] at HSk
    go_enter Try.func29, Try.ntmps29
    go_wp2_with fail
    refine HSk.out.mono ?_
    rintro e w1 ⟨rfl, hr1, hf1, _⟩
    have HR1 := hid hr1
    have HF1 := hid (HF0.out.trans hf1)
    have HB1 : Hid (w1.heap[w.heap.size]? = some (boxN zeroN)) := boxN_frt (b := w.heap.size) (x := zeroN) HB0.out hf1 (by omega)
    have hz1 := lt_of_block HB1.out
    clear hr1 hf1 HSk HR0 HF0 HB0
    have HT := hid (HTn.out (i + 1) w1 HR1.out)
    unfold dctT at hR
    by_cases ht : typT L env (i + 1) = true
    · rw [if_pos ht] at hR
      simp only [if_pos ht] at HT
      unfold aggN at HT
      have HDc := hid (fun (W : World) (hW : RdAt W base r la lc L (i + 1 + 1) env d) => declarator_any (F := F) hs hE 2 (by decide) hne hl W hW)
      unfold DcPost at HDc
      go_wp2_with fail
      refine HT.out.mono ?_
      rintro e w2 ⟨x1, rfl, hx1, hr2, hf2⟩
      dsimp only
      have hb23 := below_new w2 (boxN x1)
      have hz12 : w1.heap.size ≤ w2.heap.size := hf2.low.size
      have HR3 := hid (hr2.below hb23)
      have HF3 := hid ((HF1.out.trans hf2).trans (FrT.of_below hb23 hr2.size))
      have hB2 := boxN_frt HB1.out hf2 (by omega)
      have HB3 : Hid (_ = some (boxN zeroN)) := (hb23.block _ (lt_of_block hB2)).trans hB2
      have HK3 := hid (heap_alloc_new w2 (boxN x1))
      have HX3 := hid ((hx1.mono (Q := fun b => w.heap.size < b ∧ b < w2.heap.size) fun b hb hlt => ⟨by have hb' : w1.heap.size ≤ b := hb; omega, hlt⟩).kept fun b _ hlt => hb23.block b hlt)
      have hz3 : w2.heap.size < (w2.alloc (boxN x1)).heap.size := by simp
      dsimp only [boxN] at HR3 HF3 HB3 HK3 HX3 hz3
      clear hr2 hf2 hx1 hb23 hB2 HT HR1 HF1 HB1
      go_wp2_with fail
      generalize w2.alloc (.cells #[.int .i64 x1.kind, .int .i64 x1.tok, .slice x1.a x1.n x1.c] 27) = w3 at *
      have HS3 := hid (fun W (hb : Below w3.heap.size w3 W) => (boxN_facts ((hb.block _ (lt_of_block HK3.out)).trans HK3.out)).1)
      refine wp_region_held_drew (S := fun W => W.cell? ⟨w2.heap.size, 0, none⟩ = some (.int .i64 x1.kind) ∧ W.cell? ⟨w2.heap.size, 1, none⟩ = some (.int .i64 x1.tok) ∧ W.cell? ⟨w2.heap.size, 2, none⟩ = some (.slice x1.a x1.n x1.c)) (by kernel_rfl) (HS3.out _ (Below.refl _ _).drew) (fun hHeld => ?_)
      refine wpAnyH_take (i := 0) (v := .pointer (some ⟨r, 0, none⟩)) rfl (by kernel_rfl) (by kernel_rfl) (by kernel_rfl) (fun _ _ _ h => h) (Or.inl ⟨by rfl, ?_⟩) hHeld ?_
      · intro W hSw
        go_simp
      refine wpAnyH_take (i := 1) (v := .int .i64 2) rfl (by kernel_rfl) (by kernel_rfl) (by kernel_rfl) (fun _ _ _ h => h) (Or.inl ⟨by rfl, ?_⟩) hHeld ?_
      · intro W hSw
        go_simp
      refine wpAnyH_take (i := 2) (v := .agg #[.int .i64 x1.kind, .int .i64 x1.tok, .slice x1.a x1.n x1.c]) rfl (by kernel_rfl) (by kernel_rfl) (by kernel_rfl) (fun _ _ _ h => h) (Or.inl ⟨by rfl, ?_⟩) hHeld ?_
      · intro W hSw
        try dsimp only at hSw
        go_simp
      refine wpAnyH_take (i := 3) (v := .pointer (some ⟨r, 0, none⟩)) rfl (by kernel_rfl) (by kernel_rfl) (by kernel_rfl) (fun _ _ _ h => h) (Or.inl ⟨by rfl, ?_⟩) hHeld ?_
      · intro W hSw
        go_simp
      refine wpAnyH_take (i := 4) (v := .int .i64 2) rfl (by kernel_rfl) (by kernel_rfl) (by kernel_rfl) (fun _ _ _ h => h) (Or.inl ⟨by rfl, ?_⟩) hHeld ?_
      · intro W hSw
        go_simp
      refine wpAnyH_ready (rs := [5]) (by kernel_rfl) (by simp) (AllReadyH.cons rfl (fun K hK => ?_) AllReadyH.nil)
      go_simp
      cases hdc : dclT L F 2 d env (i + 1 + 1) with
      | error e5 =>
        rw [hdc] at hR HDc
        dsimp only at hR HDc
        subst hR
        rw [thrown_chain] at HDc
        go_wp2_with (go_at_call 31; refine (HDc.out _ (HR3.out.below (Below.refl _ _).drew)).mono ?_; rintro e w5 ⟨rfl, hp5, hf5⟩)
        exact ⟨rfl, rfl, hp5, (HF3.out.trans (FrT.of_below (Below.refl _ _).drew HR3.out.size)).trans hf5⟩
      | ok y5 =>
        obtain ⟨n5, k5, env5⟩ := y5
        obtain ⟨hj5, hl5, hk5⟩ := dcl_ok hdc hne
        have HL5 := hid hl5
        have hne5 : env5 ≠ [] := by intro e; rw [e] at hl5; exact hne (List.eq_nil_of_length_eq_zero hl5.symm)
        have hl5' : env5.length ≤ 1000 := by omega
        rw [hdc] at hR HDc
        dsimp only at hR HDc
        unfold aggN at HDc
        clear hl5
        go_wp2_with (go_at_call 31; refine (HDc.out _ (HR3.out.below (Below.refl _ _).drew)).mono ?_; rintro e w5 ⟨x5, rfl, hq5, hx5, hr5, hf5⟩; have HQ5 := hid hq5; clear hq5)
        have hf35 : FrT base r w3 w5 := (FrT.of_below (Below.refl _ _).drew HR3.out.size).trans hf5
        have hz35 : w3.heap.size ≤ w5.heap.size := hf5.low.size
        have HK5 := hid (boxN_frt (b := w2.heap.size) (x := x1) HK3.out hf35 (by omega))
        have HB5 := hid (boxN_frt (b := w.heap.size) (x := zeroN) HB3.out hf35 (by omega))
        have hX5 := (HX3.out.frt hf35 fun b hb => by omega).mono (Q := fun b => w.heap.size < b) fun b hb _ => hb.1
        have hY5 := hx5.mono (Q := fun b => w.heap.size < b) fun b hb _ => by have hb' : w3.heap.size ≤ b := hb; omega
        have HDd := hid (declared_any hs hE 2 (by decide) hne5 hl5' x1 x5 _ n5 (fun b => w.heap.size < b) HQ5.out (by rw [hx5.len]; omega) w5 hr5 hX5 hY5 (fun b hb => by omega))
        have HF5 := hid (HF3.out.trans hf35)
        rw [hR] at HDd
        unfold StPostQ aggN at HDd
        refine hK.out _ _ (boxN_facts HK5.out).1 (fun hHeld => ?_)
        clear hK K hx5 hr5 hf5 hf35 hX5 hY5 HQ5 HDc
        refine wpAnyH_ready (rs := [6]) (by kernel_rfl) (by simp) (AllReadyH.cons rfl (fun K hK => ?_) AllReadyH.nil)
        go_simp
        cases R with
        | error e6 =>
          dsimp only at HDd
          rw [thrown_chain] at HDd
          go_wp2_with (go_at_call 33; refine HDd.out.mono ?_; rintro e w6 ⟨rfl, hp6, hf6⟩)
          obtain ⟨e6', hl6, hp6⟩ := hp6
          exact ⟨rfl, rfl, ⟨e6', hl6.trans HL5.out, hp6⟩, HF5.out.trans hf6⟩
        | ok y6 =>
          obtain ⟨n6, j6, env6⟩ := y6
          dsimp only at HDd
          go_wp2_with (go_at_call 33; refine HDd.out.mono ?_; rintro e w6 ⟨x6, rfl, hx6, hr6, hf6⟩)
          have hK6 := boxN_frt HK5.out hf6 (by omega)
          have hB6 := boxN_frt HB5.out hf6 (by omega)
          have HG := hid (give_st (Q := (w.heap.size ≤ ·)) hrw hbs hB6 hx6 (fun b hb => by omega) hr6 (HF5.out.trans hf6) (fun b hb => by omega))
          have HK8 := hid ((putN_other w6 w.heap.size x6 w2.heap.size (by omega)).trans hK6)
          obtain ⟨⟨y0, y1, y2⟩, z0, z1, z2⟩ := boxN_facts (x := zeroN) hB6
          dsimp only [zeroN] at y0 y1 y2
          refine hK.out _ _ (boxN_facts hK6).1 (fun hHeld => ?_)
          clear hK K hx6 hr6 hf6 HDd
          unfold putN at HG HK8
          refine wpAnyH_ready (rs := [7]) (by kernel_rfl) (by simp) (AllReadyH.cons rfl (fun K hK => ?_) AllReadyH.nil)
          go_simp
          refine hK.out _ _ (boxN_facts HK8.out).1 (fun hHeld => ?_)
          clear hK K
          refine wpAnyH_done (by kernel_rfl) ?_ _
          go_wp2_with fail
          exact bodyPost_ret (node_ret Try.results29 (g := w.heap.size) (x := x6) HG.out.1 _ rfl) rfl ⟨_, rfl, HG.out.2⟩
    · rw [if_neg ht] at hR
      subst hR
      simp only [if_neg ht] at HT
      rw [thrown_chain] at HT
      go_wp2_with fail
      refine HT.out.mono ?_
      rintro e w2 ⟨rfl, hp2, hf2⟩
      exact ⟨rfl, rfl, hp2, HF1.out.trans hf2⟩
  · rw [if_neg hq] at hR
    simp only [if_neg hq] at HSk
    go_enter Try.func29, Try.ntmps29
    go_wp2_with fail
    refine HSk.out.mono ?_
    rintro e w1 ⟨rfl, n1, rfl⟩
    have hbd := dN_below (Below.refl (w.alloc (.cells #[.int .i64 0, .int .i64 0, .slice none 0 0] 27)).heap.size (w.alloc (.cells #[.int .i64 0, .int .i64 0, .slice none 0 0] 27))) n1
    have HR1 := hid (HR0.out.below hbd)
    have HF1 := hid (HF0.out.trans (FrT.of_below hbd HR0.out.size))
    have HB1 : Hid (((w.alloc (.cells #[.int .i64 0, .int .i64 0, .slice none 0 0] 27)).drewN n1).heap[w.heap.size]? = some (boxN zeroN)) := (dN_heap _ _ n1).trans HB0.out
    have hz1 := lt_of_block HB1.out
    generalize hw1 : (w.alloc (.cells #[.int .i64 0, .int .i64 0, .slice none 0 0] 27)).drewN n1 = w1 at *
    clear hw1 hbd HSk HR0 HF0 HB0
    have HT := hid (HTn.out (i) w1 HR1.out)
    unfold dctT at hR
    by_cases ht : typT L env (i) = true
    · rw [if_pos ht] at hR
      simp only [if_pos ht] at HT
      unfold aggN at HT
      have HDc := hid (fun (W : World) (hW : RdAt W base r la lc L (i + 1) env d) => declarator_any (F := F) hs hE 1 (by decide) hne hl W hW)
      unfold DcPost at HDc
      go_wp2_with fail
      refine HT.out.mono ?_
      rintro e w2 ⟨x1, rfl, hx1, hr2, hf2⟩
      dsimp only
      have hb23 := below_new w2 (boxN x1)
      have hz12 : w1.heap.size ≤ w2.heap.size := hf2.low.size
      have HR3 := hid (hr2.below hb23)
      have HF3 := hid ((HF1.out.trans hf2).trans (FrT.of_below hb23 hr2.size))
      have hB2 := boxN_frt HB1.out hf2 (by omega)
      have HB3 : Hid (_ = some (boxN zeroN)) := (hb23.block _ (lt_of_block hB2)).trans hB2
      have HK3 := hid (heap_alloc_new w2 (boxN x1))
      have HX3 := hid ((hx1.mono (Q := fun b => w.heap.size < b ∧ b < w2.heap.size) fun b hb hlt => ⟨by have hb' : w1.heap.size ≤ b := hb; omega, hlt⟩).kept fun b _ hlt => hb23.block b hlt)
      have hz3 : w2.heap.size < (w2.alloc (boxN x1)).heap.size := by simp
      dsimp only [boxN] at HR3 HF3 HB3 HK3 HX3 hz3
      clear hr2 hf2 hx1 hb23 hB2 HT HR1 HF1 HB1
      go_wp2_with fail
      generalize w2.alloc (.cells #[.int .i64 x1.kind, .int .i64 x1.tok, .slice x1.a x1.n x1.c] 27) = w3 at *
      have HS3 := hid (fun W (hb : Below w3.heap.size w3 W) => (boxN_facts ((hb.block _ (lt_of_block HK3.out)).trans HK3.out)).1)
      refine wp_region_held_drew (S := fun W => W.cell? ⟨w2.heap.size, 0, none⟩ = some (.int .i64 x1.kind) ∧ W.cell? ⟨w2.heap.size, 1, none⟩ = some (.int .i64 x1.tok) ∧ W.cell? ⟨w2.heap.size, 2, none⟩ = some (.slice x1.a x1.n x1.c)) (by kernel_rfl) (HS3.out _ (Below.refl _ _).drew) (fun hHeld => ?_)
      refine wpAnyH_take (i := 0) (v := .pointer (some ⟨r, 0, none⟩)) rfl (by kernel_rfl) (by kernel_rfl) (by kernel_rfl) (fun _ _ _ h => h) (Or.inl ⟨by rfl, ?_⟩) hHeld ?_
      · intro W hSw
        go_simp
      refine wpAnyH_take (i := 1) (v := .int .i64 1) rfl (by kernel_rfl) (by kernel_rfl) (by kernel_rfl) (fun _ _ _ h => h) (Or.inl ⟨by rfl, ?_⟩) hHeld ?_
      · intro W hSw
        go_simp
      refine wpAnyH_take (i := 2) (v := .agg #[.int .i64 x1.kind, .int .i64 x1.tok, .slice x1.a x1.n x1.c]) rfl (by kernel_rfl) (by kernel_rfl) (by kernel_rfl) (fun _ _ _ h => h) (Or.inl ⟨by rfl, ?_⟩) hHeld ?_
      · intro W hSw
        try dsimp only at hSw
        go_simp
      refine wpAnyH_take (i := 3) (v := .pointer (some ⟨r, 0, none⟩)) rfl (by kernel_rfl) (by kernel_rfl) (by kernel_rfl) (fun _ _ _ h => h) (Or.inl ⟨by rfl, ?_⟩) hHeld ?_
      · intro W hSw
        go_simp
      refine wpAnyH_take (i := 4) (v := .int .i64 1) rfl (by kernel_rfl) (by kernel_rfl) (by kernel_rfl) (fun _ _ _ h => h) (Or.inl ⟨by rfl, ?_⟩) hHeld ?_
      · intro W hSw
        go_simp
      refine wpAnyH_ready (rs := [5]) (by kernel_rfl) (by simp) (AllReadyH.cons rfl (fun K hK => ?_) AllReadyH.nil)
      go_simp
      cases hdc : dclT L F 1 d env (i + 1) with
      | error e5 =>
        rw [hdc] at hR HDc
        dsimp only at hR HDc
        subst hR
        rw [thrown_chain] at HDc
        go_wp2_with (go_at_call 31; refine (HDc.out _ (HR3.out.below (Below.refl _ _).drew)).mono ?_; rintro e w5 ⟨rfl, hp5, hf5⟩)
        exact ⟨rfl, rfl, hp5, (HF3.out.trans (FrT.of_below (Below.refl _ _).drew HR3.out.size)).trans hf5⟩
      | ok y5 =>
        obtain ⟨n5, k5, env5⟩ := y5
        obtain ⟨hj5, hl5, hk5⟩ := dcl_ok hdc hne
        have HL5 := hid hl5
        have hne5 : env5 ≠ [] := by intro e; rw [e] at hl5; exact hne (List.eq_nil_of_length_eq_zero hl5.symm)
        have hl5' : env5.length ≤ 1000 := by omega
        rw [hdc] at hR HDc
        dsimp only at hR HDc
        unfold aggN at HDc
        clear hl5
        go_wp2_with (go_at_call 31; refine (HDc.out _ (HR3.out.below (Below.refl _ _).drew)).mono ?_; rintro e w5 ⟨x5, rfl, hq5, hx5, hr5, hf5⟩; have HQ5 := hid hq5; clear hq5)
        have hf35 : FrT base r w3 w5 := (FrT.of_below (Below.refl _ _).drew HR3.out.size).trans hf5
        have hz35 : w3.heap.size ≤ w5.heap.size := hf5.low.size
        have HK5 := hid (boxN_frt (b := w2.heap.size) (x := x1) HK3.out hf35 (by omega))
        have HB5 := hid (boxN_frt (b := w.heap.size) (x := zeroN) HB3.out hf35 (by omega))
        have hX5 := (HX3.out.frt hf35 fun b hb => by omega).mono (Q := fun b => w.heap.size < b) fun b hb _ => hb.1
        have hY5 := hx5.mono (Q := fun b => w.heap.size < b) fun b hb _ => by have hb' : w3.heap.size ≤ b := hb; omega
        have HDd := hid (declared_any hs hE 1 (by decide) hne5 hl5' x1 x5 _ n5 (fun b => w.heap.size < b) HQ5.out (by rw [hx5.len]; omega) w5 hr5 hX5 hY5 (fun b hb => by omega))
        have HF5 := hid (HF3.out.trans hf35)
        rw [hR] at HDd
        unfold StPostQ aggN at HDd
        refine hK.out _ _ (boxN_facts HK5.out).1 (fun hHeld => ?_)
        clear hK K hx5 hr5 hf5 hf35 hX5 hY5 HQ5 HDc
        refine wpAnyH_ready (rs := [6]) (by kernel_rfl) (by simp) (AllReadyH.cons rfl (fun K hK => ?_) AllReadyH.nil)
        go_simp
        cases R with
        | error e6 =>
          dsimp only at HDd
          rw [thrown_chain] at HDd
          go_wp2_with (go_at_call 33; refine HDd.out.mono ?_; rintro e w6 ⟨rfl, hp6, hf6⟩)
          obtain ⟨e6', hl6, hp6⟩ := hp6
          exact ⟨rfl, rfl, ⟨e6', hl6.trans HL5.out, hp6⟩, HF5.out.trans hf6⟩
        | ok y6 =>
          obtain ⟨n6, j6, env6⟩ := y6
          dsimp only at HDd
          go_wp2_with (go_at_call 33; refine HDd.out.mono ?_; rintro e w6 ⟨x6, rfl, hx6, hr6, hf6⟩)
          have hK6 := boxN_frt HK5.out hf6 (by omega)
          have hB6 := boxN_frt HB5.out hf6 (by omega)
          have HG := hid (give_st (Q := (w.heap.size ≤ ·)) hrw hbs hB6 hx6 (fun b hb => by omega) hr6 (HF5.out.trans hf6) (fun b hb => by omega))
          have HK8 := hid ((putN_other w6 w.heap.size x6 w2.heap.size (by omega)).trans hK6)
          obtain ⟨⟨y0, y1, y2⟩, z0, z1, z2⟩ := boxN_facts (x := zeroN) hB6
          dsimp only [zeroN] at y0 y1 y2
          refine hK.out _ _ (boxN_facts hK6).1 (fun hHeld => ?_)
          clear hK K hx6 hr6 hf6 HDd
          unfold putN at HG HK8
          refine wpAnyH_ready (rs := [7]) (by kernel_rfl) (by simp) (AllReadyH.cons rfl (fun K hK => ?_) AllReadyH.nil)
          go_simp
          refine hK.out _ _ (boxN_facts HK8.out).1 (fun hHeld => ?_)
          clear hK K
          refine wpAnyH_done (by kernel_rfl) ?_ _
          go_wp2_with fail
          exact bodyPost_ret (node_ret Try.results29 (g := w.heap.size) (x := x6) HG.out.1 _ rfl) rfl ⟨_, rfl, HG.out.2⟩
    · rw [if_neg ht] at hR
      subst hR
      simp only [if_neg ht] at HT
      rw [thrown_chain] at HT
      go_wp2_with fail
      refine HT.out.mono ?_
      rintro e w2 ⟨rfl, hp2, hf2⟩
      exact ⟨rfl, rfl, hp2, HF1.out.trans hf2⟩
end
section
section
variable (L : List Tk) (F : Nat)
/-- What is read, with fuel, by modes; k is the kind of 3, ks what a block has so far. -/
def stF : Nat → Nat → Int → Nat → Env0 → Nat → List Nd → Option (Got (Nd × Nat × Env0))
  | 0, _, _, _, _, _, _ => none
  | f + 1, 0, _, d, env, i, ks => match stopT L (stnT L env i) d i with
    | some x => some (.error x)
    | none =>
      if wordT L i = [123] then match stF f 1 0 (d + 1) (List.append env [(fun _ => (0 : Int) : List UInt8 → Int)]) i ks with
        | none => none
        | some (.error x) => some (.error x)
        | some (.ok (n, j, env')) => some (.ok (n, j, List.dropLast env'))
      else if wordT L i = [105, 102] then match stF f 3 6 (d + 1) env i ks with
        | none => none
        | some (.error x) => some (.error x)
        | some (.ok (n, j, env')) =>
          if wordT L j = [101, 108, 115, 101] then match stF f 0 0 (d + 1) env' (j + 1) ks with
            | none => none
            | some (.error x) => some (.error x)
            | some (.ok (m, j2, env2)) => some (.ok (.mk n.kind n.tok (n.kids ++ [m]), j2, env2))
          else some (.ok (n, j, env'))
      else if wordT L i = [119, 104, 105, 108, 101] then stF f 3 7 (d + 1) env i ks
      else if wordT L i = [114, 101, 116, 117, 114, 110] then some (plnT L F 8 (d + 1) env (i + 1))
      else if dcnT L env i = true then some (dcoT L F (d + 1) env i)
      else some (plnT L F 9 (d + 1) env i)
  | f + 1, 1, _, d, env, i, _ =>
    if wordT L i = [123] then match stopT L true d i with
      | some x => some (.error x)
      | none => stF f 2 0 (d + 1) env (i + 1) []
    else some (.error (2, i))
  | f + 1, 2, _, d, env, i, ks =>
    if wordT L i = [125] then some (.ok (.mk 5 (-1) ks, i + 1, env))
    else match stF f 0 0 d env i ks with
      | none => none
      | some (.error x) => some (.error x)
      | some (.ok (n, j, env')) => stF f 2 0 d env' j (ks ++ [n])
  | f + 1, 3, k, d, env, i, ks =>
    if wordT L (i + 1) = [40] then match rdX L F 1 d (i + 2) with
      | .error x => some (.error x)
      | .ok (m, j) =>
        if wordT L j = [41] then match stF f 0 0 d env (j + 1) ks with
          | none => none
          | some (.error x) => some (.error x)
          | some (.ok (n, j2, env2)) => some (.ok (.mk k (-1) [m, n], j2, env2))
        else some (.error (2, j))
    else some (.error (2, i + 1))
  | _ + 1, _ + 4, _, _, _, _, _ => none
end
end
section
open Go.RowKit Go.Shelf

/-- A parameter. -/
def parT (L : List Tk) (F d : Nat) (env : Env0) (i : Nat) : Got (Nd × Nat × Env0) :=
  if typT L env i = true then match dclT L F 1 d env (i + 1) with
    | .error x => .error x
    | .ok (n, k, env') => .ok (.mk 2 (-1) [.mk 16 (i : Int) [], n], k, env')
  else .error (2, i)

set_option maxRecDepth 100000 in
set_option maxHeartbeats 2000000 in
theorem parameter_any {base r : Nat} {la : Option Addr} {lc : Nat} {L : List Tk} {i : Nat} {env : Env0} {d F : Nat} (hs : Short L) (hE : Enough L F) (hne : env ≠ []) (hl : env.length ≤ 1000) (w : World) (h : RdAt w base r la lc L i env d) :
    Calls Try.prog 46 #[.pointer (some ⟨r, 0, none⟩)] w (StPost base r la lc L env d (parT L F d env i) w) := by
  have hbs := h.size
  have hb0 := below_new w (boxN zeroN)
  have HR0 := hid (h.below hb0)
  have HTn := hid (typeName_any hs hl _ HR0.out)
  have HDc := hid (fun W (hW : RdAt W base r la lc L (i + 1) env d) => declarator_any (F := F) hs hE 1 (.inl rfl) hne hl W hW)
  obtain ⟨R, hR⟩ : ∃ R, parT L F d env i = R := ⟨_, rfl⟩
  rw [hR]
  unfold parT at hR
  unfold StPost at HTn ⊢
  unfold DcPost at HDc
  dsimp only [boxN, zeroN] at HR0 HTn
  have HF0 := hid (FrT.of_below (r := r) hb0 hbs)
  have hrw : r < w.heap.size := by obtain ⟨lo, hbr, vn, ms, hc, hn⟩ := h; exact hc.lt
  have HB0 := hid (heap_alloc_new w (boxN zeroN))
  dsimp only [boxN, zeroN] at HF0 HB0
  clear h hb0
  by_cases ht : typT L env i = true
  · rw [if_pos ht] at hR
    simp only [if_pos ht] at HTn
    unfold aggN at HTn
    cases hd : dclT L F 1 d env (i + 1) with
    | error y =>
      rw [hd] at hR HDc
      dsimp only at hR HDc
      subst hR
      dsimp only
      rw [thrown_chain] at HDc ⊢
      go_enter Try.func46, Try.ntmps46
      go_wp2_with fail
      refine HTn.out.mono ?_
      rintro e w1 ⟨x1, rfl, hx1, hr1, hf1⟩
      dsimp only
      have hb12 := below_new w1 (boxN x1)
      have hz1 := hf1.low.size
      have HR2 := hid (hr1.below hb12)
      have HF2 := hid ((HF0.out.trans hf1).trans (FrT.of_below hb12 hr1.size))
      have HB2 := hid (boxN_frt (b := w.heap.size) (x := zeroN) (boxN_frt (b := w.heap.size) (x := zeroN) HB0.out hf1 (by omega)) (FrT.of_below (r := r) hb12 hr1.size) (by omega))
      have HK2 := hid (heap_alloc_new w1 (boxN x1))
      have HX2 := hid ((hx1.mono (Q := fun b => w.heap.size < b ∧ b < w1.heap.size) fun b hb hlt => ⟨by have hb' : (w.alloc (.cells #[.int .i64 0, .int .i64 0, .slice none 0 0] 27)).heap.size ≤ b := hb; rw [World.size_alloc] at hb'; omega, hlt⟩).kept fun b _ hlt => hb12.block b hlt)
      have hz2 : (w1.alloc (boxN x1)).heap.size = w1.heap.size + 1 := by simp
      rw [World.size_alloc] at hz1
      dsimp only [boxN] at HR2 HF2 HB2 HK2 HX2 hz2
      clear hr1 hf1 hx1 hb12
      go_wp2_with fail
      generalize w1.alloc (.cells #[.int .i64 x1.kind, .int .i64 x1.tok, .slice x1.a x1.n x1.c] 27) = w2 at *
      have HS2 := hid (fun W (hb : Below w2.heap.size w2 W) => (boxN_facts ((hb.block _ (lt_of_block HK2.out)).trans HK2.out)).1)
      refine wp_region_held_drew (S := fun W => W.cell? ⟨w1.heap.size, 0, none⟩ = some (.int .i64 x1.kind) ∧ W.cell? ⟨w1.heap.size, 1, none⟩ = some (.int .i64 x1.tok) ∧ W.cell? ⟨w1.heap.size, 2, none⟩ = some (.slice x1.a x1.n x1.c)) (by kernel_rfl) (HS2.out _ (Below.refl _ _).drew) (fun hHeld => ?_)
      refine wpAnyH_take (i := 0) (v := .agg #[.int .i64 x1.kind, .int .i64 x1.tok, .slice x1.a x1.n x1.c]) rfl (by kernel_rfl) (by kernel_rfl) (by kernel_rfl) (fun _ _ _ h => h) (Or.inl ⟨by rfl, ?_⟩) hHeld ?_
      · intro W hSw
        try dsimp only at hSw
        go_simp
      refine wpAnyH_take (i := 1) (v := .pointer (some ⟨r, 0, none⟩)) rfl (by kernel_rfl) (by kernel_rfl) (by kernel_rfl) (fun _ _ _ h => h) (Or.inl ⟨by rfl, ?_⟩) hHeld ?_
      · intro W hSw
        go_simp
      refine wpAnyH_ready (rs := [2]) (by kernel_rfl) (by simp) (AllReadyH.cons rfl (fun K hK => ?_) AllReadyH.nil)
      go_simp
      go_wp2_with (go_at_call 31; refine (HDc.out _ (HR2.out.below (Below.refl _ _).drew)).mono ?_; rintro e w5 ⟨rfl, hp5, hf5⟩)
      exact ⟨rfl, rfl, hp5, (HF2.out.trans (FrT.of_below (Below.refl _ _).drew (by omega))).trans hf5⟩
    | ok y =>
      obtain ⟨n5, k5, env5⟩ := y
      rw [hd] at hR HDc
      dsimp only at hR HDc
      subst hR
      dsimp only
      unfold aggN at HDc
      go_enter Try.func46, Try.ntmps46
      go_wp2_with fail
      refine HTn.out.mono ?_
      rintro e w1 ⟨x1, rfl, hx1, hr1, hf1⟩
      dsimp only
      have hb12 := below_new w1 (boxN x1)
      have hz1 := hf1.low.size
      have HR2 := hid (hr1.below hb12)
      have HF2 := hid ((HF0.out.trans hf1).trans (FrT.of_below hb12 hr1.size))
      have HB2 := hid (boxN_frt (b := w.heap.size) (x := zeroN) (boxN_frt (b := w.heap.size) (x := zeroN) HB0.out hf1 (by omega)) (FrT.of_below (r := r) hb12 hr1.size) (by omega))
      have HK2 := hid (heap_alloc_new w1 (boxN x1))
      have HX2 := hid ((hx1.mono (Q := fun b => w.heap.size < b ∧ b < w1.heap.size) fun b hb hlt => ⟨by have hb' : (w.alloc (.cells #[.int .i64 0, .int .i64 0, .slice none 0 0] 27)).heap.size ≤ b := hb; rw [World.size_alloc] at hb'; omega, hlt⟩).kept fun b _ hlt => hb12.block b hlt)
      have hz2 : (w1.alloc (boxN x1)).heap.size = w1.heap.size + 1 := by simp
      rw [World.size_alloc] at hz1
      dsimp only [boxN] at HR2 HF2 HB2 HK2 HX2 hz2
      clear hr1 hf1 hx1 hb12
      go_wp2_with fail
      generalize w1.alloc (.cells #[.int .i64 x1.kind, .int .i64 x1.tok, .slice x1.a x1.n x1.c] 27) = w2 at *
      have HS2 := hid (fun W (hb : Below w2.heap.size w2 W) => (boxN_facts ((hb.block _ (lt_of_block HK2.out)).trans HK2.out)).1)
      refine wp_region_held_drew (S := fun W => W.cell? ⟨w1.heap.size, 0, none⟩ = some (.int .i64 x1.kind) ∧ W.cell? ⟨w1.heap.size, 1, none⟩ = some (.int .i64 x1.tok) ∧ W.cell? ⟨w1.heap.size, 2, none⟩ = some (.slice x1.a x1.n x1.c)) (by kernel_rfl) (HS2.out _ (Below.refl _ _).drew) (fun hHeld => ?_)
      refine wpAnyH_take (i := 0) (v := .agg #[.int .i64 x1.kind, .int .i64 x1.tok, .slice x1.a x1.n x1.c]) rfl (by kernel_rfl) (by kernel_rfl) (by kernel_rfl) (fun _ _ _ h => h) (Or.inl ⟨by rfl, ?_⟩) hHeld ?_
      · intro W hSw
        try dsimp only at hSw
        go_simp
      refine wpAnyH_take (i := 1) (v := .pointer (some ⟨r, 0, none⟩)) rfl (by kernel_rfl) (by kernel_rfl) (by kernel_rfl) (fun _ _ _ h => h) (Or.inl ⟨by rfl, ?_⟩) hHeld ?_
      · intro W hSw
        go_simp
      refine wpAnyH_ready (rs := [2]) (by kernel_rfl) (by simp) (AllReadyH.cons rfl (fun K hK => ?_) AllReadyH.nil)
      go_simp
      go_wp2_with (go_at_call 31; refine (HDc.out _ (HR2.out.below (Below.refl _ _).drew)).mono ?_; rintro e w5 ⟨x5, rfl, hq5, hx5, hr5, hf5⟩; clear hq5)
      have hf25 : FrT base r w2 w5 := (FrT.of_below (Below.refl _ _).drew (by omega)).trans hf5
      have hK5 := boxN_frt HK2.out hf25 (by omega)
      have hB5 := boxN_frt HB2.out hf25 (by omega)
      have hz5 := hf25.low.size
      have hb56 := below_new w5 (.cells (cellsN [x1, x5]).toArray 27)
      have hX5 : NdIs w5 (fun b => w.heap.size < b) x1 (.mk 16 (i : Int) []) := (HX2.out.frt hf25 fun b hb => by omega).mono fun b hb _ => hb.1
      have hY5 : NdIs w5 (fun b => w.heap.size < b) x5 n5 := hx5.mono fun b hb _ => by have hb' : w2.heap.size ≤ b := hb; omega
      have hkid := kids_new (NdsIs.two hX5 hY5) (by simp) (Q := fun b => w.heap.size < b) (fun b hb _ => hb) (by omega)
      have HG := hid (fun w7 (hb : Below (w5.alloc (.cells (cellsN [x1, x5]).toArray 27)).heap.size (w5.alloc (.cells (cellsN [x1, x5]).toArray 27)) w7) =>
        give_st (x := ⟨2, -1, some ⟨w5.heap.size, 0, none⟩, 2, 2⟩) (n := .mk 2 (-1) [.mk 16 (i : Int) [], n5]) (u := zeroN) (Q := (w.heap.size ≤ ·)) hrw hbs ((hb.block _ (lt_of_block ((hb56.block _ (lt_of_block hB5)).trans hB5))).trans ((hb56.block _ (lt_of_block hB5)).trans hB5)) ⟨rfl, rfl, hkid.kept fun b _ hlt => hb.block b hlt⟩ (fun b hb => by omega) ((hr5.below hb56).below hb) (((HF2.out.trans hf25).trans (FrT.of_below hb56 hr5.size)).trans (FrT.of_below hb (hr5.below hb56).size)) (fun b hb => by omega))
      have HB7 := hid (fun w7 (hb : Below (w5.alloc (.cells (cellsN [x1, x5]).toArray 27)).heap.size (w5.alloc (.cells (cellsN [x1, x5]).toArray 27)) w7) => boxN_facts (x := zeroN) ((hb.block _ (lt_of_block ((hb56.block _ (lt_of_block hB5)).trans hB5))).trans ((hb56.block _ (lt_of_block hB5)).trans hB5)))
      have HK7 := hid (fun w7 (hb : Below (w5.alloc (.cells (cellsN [x1, x5]).toArray 27)).heap.size (w5.alloc (.cells (cellsN [x1, x5]).toArray 27)) w7) => ((hb.block _ (lt_of_block ((hb56.block _ (lt_of_block hK5)).trans hK5))).trans ((hb56.block _ (lt_of_block hK5)).trans hK5)))
      have hK6 := (hb56.block _ (lt_of_block hK5)).trans hK5
      refine hK.out _ _ (boxN_facts hK5).1 (fun hHeld => ?_)
      clear hK K
      refine wpAnyH_ready (rs := [3]) (by kernel_rfl) (by simp) (AllReadyH.cons rfl (fun K hK => ?_) AllReadyH.nil)
      go_simp
      refine hK.out _ _ (boxN_facts hK6).1 (fun hHeld => ?_)
      clear hK K hr5 hf5 hx5 hX5 hY5 hkid hb56 hK5 hB5 hK6 hf25
      refine wpAnyH_ready (rs := [4]) (by kernel_rfl) (by simp) (AllReadyH.cons rfl (fun K hK => ?_) AllReadyH.nil)
      go_simp
      go_wp2_with (go_at_call 20; refine (node_any 2 _ 2 2 _).mono ?_; rintro e w7 ⟨rfl, hb7⟩)
      have HG7 := hid (HG.out w7 hb7)
      have hK7 := HK7.out w7 hb7
      obtain ⟨⟨y0, y1, y2⟩, z0, z1, z2⟩ := HB7.out w7 hb7
      dsimp only [zeroN] at y0 y1 y2
      refine hK.out _ _ (boxN_facts hK7).1 (fun hHeld => ?_)
      clear hK K HG HK7 HB7
      have HK8 := hid ((putN_other w7 w.heap.size ⟨2, -1, some ⟨w5.heap.size, 0, none⟩, 2, 2⟩ w1.heap.size (by omega)).trans hK7)
      unfold putN at HG7 HK8
      unfold aggN
      dsimp only at HG7 HK8 ⊢
      refine wpAnyH_ready (rs := [5]) (by kernel_rfl) (by simp) (AllReadyH.cons rfl (fun K hK => ?_) AllReadyH.nil)
      go_simp
      refine hK.out _ _ (boxN_facts HK8.out).1 (fun hHeld => ?_)
      clear hK K
      refine wpAnyH_done (by kernel_rfl) ?_ _
      go_wp2_with fail
      exact bodyPost_ret (node_ret Try.results46 (g := w.heap.size) (x := ⟨2, -1, some ⟨w5.heap.size, 0, none⟩, 2, 2⟩) HG7.out.1 _ rfl) rfl ⟨_, rfl, HG7.out.2⟩
  · rw [if_neg ht] at hR
    simp only [if_neg ht] at HTn
    subst hR
    dsimp only
    rw [thrown_chain] at HTn ⊢
    go_enter Try.func46, Try.ntmps46
    go_wp2_with fail
    refine HTn.out.mono ?_
    rintro e w1 ⟨rfl, hp1, hf1⟩
    exact ⟨rfl, rfl, hp1, HF0.out.trans hf1⟩
end
section
open Go.RowKit Go.Shelf

/-- Parameters behind the first. -/
def lplT (L : List Tk) (F d : Nat) : Nat → Env0 → List Nd → Nat → Got (List Nd × Nat × Env0)
  | 0, _, _, j => .error (2, j)
  | f + 1, env, ks, j =>
    if wordT L j = [44] then match parT L F d env (j + 1) with
      | .error x => .error x
      | .ok (n2, j2, env2) => lplT L F d f env2 (ks ++ [n2]) j2
    else if wordT L j = [41] then .ok (ks, j + 1, env) else .error (2, j)
/-- Parameters, behind the ( ahead of them. -/
def lpsT (L : List Tk) (F d : Nat) (env : Env0) (i : Nat) : Got (List Nd × Nat × Env0) :=
  if wordT L i = [41] then .ok ([], i + 1, env) else match parT L F d env i with
    | .error x => .error x
    | .ok (n, k, env') => lplT L F d (L.length + 1) env' [n] k
theorem par_ok {L : List Tk} {F d : Nat} {env : Env0} {i : Nat} {n : Nd} {k : Nat} {env' : Env0} (h : parT L F d env i = .ok (n, k, env')) (hne : env ≠ []) : i < k ∧ env'.length = env.length ∧ env' ≠ [] := by
  unfold parT at h
  split at h
  · split at h
    · cases h
    · rename_i n2 k2 e2 hd
      obtain ⟨h1, h2, _⟩ := dcl_ok hd hne
      cases h
      refine ⟨by omega, h2, fun e => ?_⟩
      rw [e] at h2
      exact hne (List.eq_nil_of_length_eq_zero h2.symm)
  · cases h
/-- What listed tells, or throws. -/
def LpPost (base r : Nat) (la : Option Addr) (lc : Nat) (L : List Tk) (env : Env0) (d : Nat) (R : Got (List Nd × Nat × Env0)) (w : World) (e : Ending) (w' : World) : Prop := match R with
  | .ok (ks, j, env') => ∃ a c nvs, nvs.length ≤ 2000000 ∧ e = .returned (.slice a nvs.length c) ∧ w'.ownsRow w.heap.size 27 3 (.slice a nvs.length c) nvs.length (cellsN nvs) ∧ NdsIs w' (fun b => w.heap.size ≤ b ∧ (Value.slice a nvs.length c).ownBlock ≠ some b) nvs ks ∧ RdAt w' base r la lc L j env' d ∧ FrT base r w w'
  | .error x => e = thrownT x.1 (placeT L x.2) ∧ (∃ env', env'.length = env.length ∧ RdP w' base r la lc L env' d) ∧ FrT base r w w'
/-- Ahead of a round. -/
def LpSt (base r : Nat) (la : Option Addr) (lc : Nat) (L : List Tk) (F d : Nat) (env : Env0) (R : Got (List Nd × Nat × Env0)) (w : World) (g : Nat) (v : Value) (wr : World) : Prop :=
  ∃ (ks : List Nd) (nvs : List Nv) (a : Option Addr) (c j : Nat) (env' : Env0), v = .slice a nvs.length c ∧ nvs.length + g ≤ L.length + 2 ∧ L.length + 1 ≤ g + j ∧ lplT L F d g env' ks j = R ∧ env' ≠ [] ∧ Hid (env'.length = env.length) ∧ wr.ownsRow w.heap.size 27 3 v nvs.length (cellsN nvs) ∧ NdsIs wr (fun b => w.heap.size ≤ b ∧ v.ownBlock ≠ some b) nvs ks ∧ RdAt wr base r la lc L j env' d ∧ FrT base r w wr
theorem row_frt {base r B n : Nat} {W W' : World} {v : Value} {xs : List Value} (h : W.ownsRow B 27 3 v n xs) (hf : FrT base r W W') (hr : r < B) : W'.ownsRow B 27 3 v n xs := by
  refine row_same h fun b hb _ => ?_
  rcases h.2 with ⟨e, _⟩ | ⟨g, cap, cur, e, hg, hh, _⟩
  · rw [e] at hb; cases hb
  · rw [e] at hb
    have hgb : g = b := by simpa [Value.ownBlock] using hb
    subst hgb
    exact hf.cells g cur _ _ hh (by decide) (by omega)
theorem nds_frt {base r : Nat} {W W' : World} {Q : Nat → Prop} {nvs : List Nv} {ks : List Nd} (h : NdsIs W Q nvs ks) (hf : FrT base r W W') (hQ : ∀ b, Q b → b ≠ r) : NdsIs W' Q nvs ks := ⟨h.1, fun j x k hx hk => (h.2 j x k hx hk).frt hf hQ⟩
/-- One more node behind a row. -/
theorem row_nextF {base r : Nat} {la : Option Addr} {lc : Nat} {L : List Tk} {env : Env0} {d j : Nat} {w W w4 : World} {v v' : Value} {nvs : List Nv} {ks : List Nd} {x : Nv} {m : Nd} (hrw : r < w.heap.size) (hbs : base ≤ w.heap.size) (hsz : w.heap.size ≤ W.heap.size)
    (hown : W.ownsRow w.heap.size 27 3 v nvs.length (cellsN nvs)) (hn : NdsIs W (fun b => w.heap.size ≤ b ∧ v.ownBlock ≠ some b) nvs ks) (hx : NdIs W (fun b => w.heap.size ≤ b ∧ v.ownBlock ≠ some b) x m) (hr : RdAt W base r la lc L j env d) (hf : FrT base r w W)
    (hown4 : w4.ownsRow w.heap.size 27 3 v' (nvs.length + 1) (cellsN nvs ++ encN x)) (hg : W.grownBy w4 v.ownBlock) (hob : v'.ownBlock = v.ownBlock ∨ v'.ownBlock = some W.heap.size) :
    ∃ a c, v' = .slice a (nvs ++ [x]).length c ∧ w4.ownsRow w.heap.size 27 3 v' (nvs ++ [x]).length (cellsN (nvs ++ [x])) ∧ NdsIs w4 (fun b => w.heap.size ≤ b ∧ v'.ownBlock ≠ some b) (nvs ++ [x]) (ks ++ [m]) ∧ RdAt w4 base r la lc L j env d ∧ FrT base r w w4 := by
  have hl : (nvs ++ [x]).length = nvs.length + 1 := by simp
  obtain ⟨a, c, e⟩ := row_val hown4
  have key : ∀ b, b < w.heap.size → w4.heap[b]? = W.heap[b]? := fun b hb => hg.block b (by omega) fun e => by have := (hown.lt b e.symm).1; omega
  refine ⟨a, c, by rw [hl]; exact e, ?_, grow_nds hg hob (hn.snoc hx), ?_, ?_⟩
  · rw [hl, cellsN_append, cellsN_one]
    exact hown4
  · obtain ⟨lo, hbr, vn, ms, hc, hnm⟩ := hr
    have kind : ∀ b, v.ownBlock = some b → ∃ cur, W.heap[b]? = some (.cells cur 27) := fun b hb => by
      rcases hown.2 with ⟨e, _⟩ | ⟨g, cap, cur, e, hg, hh, _⟩
      · rw [e] at hb; cases hb
      · rw [e] at hb
        have hgb : g = b := by simpa [Value.ownBlock] using hb
        subst hgb
        exact ⟨cur, hh⟩
    refine ⟨lo, hbr, vn, ms, hc.other (B := w.heap.size) hrw (fun b off e hL => Nat.lt_of_lt_of_le (lo b off e hL) hbs) hg.size key, hnm.same (fun b c hb _ => hg.block b (lt_of_block hb) fun e => ?_) (fun b es cl hb _ => hg.block b (lt_of_block hb) fun e => ?_)⟩
    · obtain ⟨cur, k2⟩ := kind b e.symm
      rw [k2] at hb
      injection hb with hb
      injection hb with _ hb
      revert hb
      decide
    · obtain ⟨cur, k2⟩ := kind b e.symm
      rw [k2] at hb
      cases hb
  · have hlw := hf.low
    refine ⟨⟨hg.os.trans hlw.os, hg.tape.trans hlw.tape, hg.output.trans hlw.output, Nat.le_trans hlw.size hg.size, fun b hb => (key b (by omega)).trans (hlw.block b hb)⟩, fun b c T fz hb hT hne => ?_⟩
    have := lt_of_block hb
    exact (key b this).trans (hf.cells b c T fz hb hT hne)

set_option maxRecDepth 100000 in
set_option maxHeartbeats 2000000 in
theorem listedP_any {base r : Nat} {la : Option Addr} {lc : Nat} {L : List Tk} {i : Nat} {env : Env0} {d F : Nat} (hs : Short L) (hE : Enough L F) (hne : env ≠ []) (hl : env.length ≤ 1000) (w : World) (h : RdAt w base r la lc L i env d) :
    Calls Try.prog 45 #[.pointer (some ⟨r, 0, none⟩), .func (.func 46) #[.pointer (some ⟨r, 0, none⟩)] #[]] w (LpPost base r la lc L env d (lpsT L F d env i) w) := by
  obtain ⟨i0, hi, hz0, hz1, hz2⟩ := info_parts info_node
  have hbs := h.size
  have hrw : r < w.heap.size := by obtain ⟨lo, hbr, vn, ms, hc, hn⟩ := h; exact hc.lt
  have HS := hid (skip_st ⟨#[41]⟩ (by decide) w h)
  rw [show (⟨#[41]⟩ : ByteArray).data.toList = [41] from rfl] at HS
  have hmf : ∀ (fn : Fn) (first cap : Array Value) (w : World), (Instr.makeFunc fn first cap).run Try.prog w = .ok (.func fn first cap) w := fun _ _ _ _ => rfl
  obtain ⟨R, hR⟩ : ∃ R, lpsT L F d env i = R := ⟨_, rfl⟩
  rw [hR]
  unfold lpsT at hR
  unfold LpPost
  by_cases hp : wordT L i = [41]
  · rw [if_pos hp] at hR
    subst hR
    simp only [if_pos hp] at HS
    dsimp only
    clear h
    go_enter Try.func45, Try.ntmps45
    go_wp2_with (go_at_call 36; refine HS.out.mono ?_; rintro e w1 ⟨rfl, hr1, hf1, _⟩; have HR1 := hid hr1; have HF1 := hid hf1; clear hr1 hf1)
    go_ret
    exact ⟨none, 0, [], by simp, rfl, World.ownsRow_nil _ _ _ _, NdsIs.nil, HR1.out, HF1.out⟩
  · rw [if_neg hp] at hR
    simp only [if_neg hp] at HS
    have HE := hid (fun m => parameter_any (F := F) hs hE hne hl (w.drewN m) (h.below (dN_below (Below.refl _ _) m)))
    have HBd := hid (fun n => dN_below (Below.refl w.heap.size w) n)
    have HFd := hid (fun n => FrT.of_below (r := r) (dN_below (Below.refl w.heap.size w) n) hbs)
    unfold StPost at HE
    clear h
    cases he : parT L F d env i with
    | error x =>
      rw [he] at hR HE
      dsimp only at hR HE
      subst hR
      rw [thrown_chain] at HE
      dsimp only
      rw [thrown_chain]
      go_enter Try.func45, Try.ntmps45
      go_wp2_with (first | (go_at_call 36; refine HS.out.mono ?_; rintro e w1 ⟨rfl, n1, rfl⟩) | (go_at_call 46; refine (HE.out _).mono ?_; rintro e w2 ⟨rfl, hp2, hf2⟩))
      exact ⟨rfl, rfl, hp2, (HFd.out _).trans hf2⟩
    | ok y =>
      obtain ⟨m, j, env1⟩ := y
      obtain ⟨hj, hl1, hne1⟩ := par_ok he hne
      have HL1 := hid hl1
      clear hl1
      rw [he] at hR HE
      dsimp only at HE hR
      unfold aggN at HE
      go_enter Try.func45, Try.ntmps45
      go_wp2_with (first | (go_at_call 36; refine HS.out.mono ?_; rintro e w1 ⟨rfl, n1, rfl⟩) | (go_at_call 46; refine (HE.out _).mono ?_; rintro e w2 ⟨x, rfl, hx2, hr2, hf2⟩))
      have HSt : Hid (LpSt base r la lc L F d env R w (L.length + 1) (.slice (some ⟨w2.heap.size, 0, none⟩) 1 1) (w2.alloc (boxN x))) := by
        have hz2 := hf2.low.size
        rw [dN_size] at hz2
        refine ⟨[m], [x], _, _, j, env1, rfl, by simp; omega, by omega, hR, hne1, HL1, row_base (new_row w2 [x] (by simp)) hz2, ?_, hr2.below (below_new _ _), ((HFd.out _).trans hf2).trans (FrT.of_below (below_new _ _) hr2.size)⟩
        refine (NdsIs.one (hx2.mono (Q := fun b => w.heap.size ≤ b ∧ (Value.slice (some ⟨w2.heap.size, 0, none⟩) 1 1).ownBlock ≠ some b) fun b hb hlt => ⟨by have hb' : (w.drewN n1).heap.size ≤ b := hb; rw [dN_size] at hb'; exact hb', fun e => ?_⟩)).kept fun b _ hlt => (below_new _ _).block b hlt
        have e' : w2.heap.size = b := by simpa [Value.ownBlock] using e
        omega
      have hzw : w.heap.size ≤ (w2.alloc (boxN x)).heap.size := by have := hf2.low.size; rw [dN_size] at this; simp; omega
      clear hx2 hr2 hf2 HE HS hR
      dsimp only [boxN] at HSt hzw
      generalize w2.alloc (.cells #[.int .i64 x.kind, .int .i64 x.tok, .slice x.a x.n x.c] 27) = w3 at HSt hzw ⊢
      go_loopg [5] (L.length + 1) (fun g v wr => Hid (LpSt base r la lc L F d env R w g v wr))
      case atStart => exact HSt
      case round =>
        obtain ⟨ks', nvs, a', c', j', env', rfl, hln, hgj, hR', hne', HLe, hown, hnds, hr', hf'⟩ := hrel.out
        have hjl : j' ≤ L.length ∧ L.length ≤ 6000 := by obtain ⟨lo, hbr, vn, ms, hc, hn⟩ := hr'; exact ⟨hc.le, hc.few⟩
        have hlr : env'.length ≤ 1000 := by have := HLe.out; omega
        have hzr : w.heap.size ≤ wr.heap.size := hf'.low.size
        obtain ⟨g, rfl⟩ : ∃ g, gk = g + 1 := ⟨gk - 1, by omega⟩
        rw [lplT] at hR'
        have HS' := hid (skip_st ⟨#[44]⟩ (by decide) wr hr')
        rw [show (⟨#[44]⟩ : ByteArray).data.toList = [44] from rfl] at HS'
        have HO := hid hown
        have HN := hid hnds
        have HFr := hid hf'
        have HRr := hid hr'
        clear hown hnds hf' hr' hrel
        by_cases hq : wordT L j' = [44]
        · rw [if_pos hq] at hR'
          simp only [if_pos hq] at HS'
          have HE := hid (fun (W : World) (hW : RdAt W base r la lc L (j' + 1) env' d) => parameter_any (F := F) hs hE hne' hlr W hW)
          unfold StPost at HE
          cases he : parT L F d env' (j' + 1) with
          | error y =>
            rw [he] at hR' HE
            dsimp only at hR' HE
            subst hR'
            rw [thrown_chain] at HE
            go_wp2_with (first | (go_at_call 36; refine HS'.out.mono ?_; rintro e w5 ⟨rfl, hr5, hf5, _⟩; have HR5 := hid hr5; have HF5 := hid hf5; clear hr5 hf5) | (go_at_call 46; refine (HE.out _ HR5.out).mono ?_; rintro e w6 ⟨rfl, hp6, hf6⟩))
            obtain ⟨e6, hl6, hp6⟩ := hp6
            exact ⟨rfl, rfl, ⟨e6, hl6.trans HLe.out, hp6⟩, (HFr.out.trans HF5.out).trans hf6⟩
          | ok y =>
            obtain ⟨m2, j2, env2⟩ := y
            obtain ⟨hj2, hl2, hne2⟩ := par_ok he hne'
            have HL2 := hid (hl2.trans HLe.out)
            clear hl2
            rw [he] at hR' HE
            dsimp only at HE hR'
            unfold aggN at HE
            go_wp2_with (first | (go_at_call 36; refine HS'.out.mono ?_; rintro e w5 ⟨rfl, hr5, hf5, _⟩; have HR5 := hid hr5; have HF5 := hid hf5; have hz5 : wr.heap.size ≤ w5.heap.size := (by obtain ⟨q1, q2⟩ := hf5; exact q1.size); clear hr5 hf5) | (go_at_call 46; refine (HE.out _ HR5.out).mono ?_; rintro e w6 ⟨x6, rfl, hx6, hr6, hf6⟩; have HF6 := hid (HF5.out.trans hf6); have hown6 := row_frt HO.out HF6.out hrw; have HO6 := hid hown6; have HN6 := hid (nds_frt HN.out HF6.out fun b hb => by omega); have HX6 := hid (hx6.mono (Q := fun b => w.heap.size ≤ b ∧ (Value.slice a' nvs.length c').ownBlock ≠ some b) fun b hb _ => ⟨by omega, fun e => by have := (HO.out.lt b e).2; omega⟩); have HR6 := hid hr6; have hz6 : w5.heap.size ≤ w6.heap.size := (by obtain ⟨q1, q2⟩ := hf6; exact q1.size); clear hx6 hr6 hf6) | (at_builtin; refine wpList_append_own_at _ rfl _ _ 25 rfl w.heap.size 27 i0 _ 3 40 Try.underlying25 hi hz0 hz1 hz2 rfl (by decide) _ _ _ rfl (hown6.alloc _) ⟨w6.heap.size, 0, none⟩ 1 1 (encN x6) rfl rfl (n3_new w6 x6 _) (n3_one x6) (by unfold maxLen; omega) (by omega) (by simp; omega) ?_))
            intro v' w7 hown7 hg7 _ hob7
            have HB6 := hid (below_new w6 (boxN x6))
            obtain ⟨a7, c7, e7, q1, q2, q3, q4⟩ := row_nextF (x := x6) (m := m2) hrw hbs (by simp; omega) (HO6.out.alloc (boxN x6)) (HN6.out.kept fun b _ hlt => HB6.out.block b hlt) (HX6.out.kept fun b _ hlt => HB6.out.block b hlt) (HR6.out.below HB6.out) ((HFr.out.trans HF6.out).trans (FrT.of_below HB6.out HR6.out.size)) hown7 hg7 (by rw [World.size_alloc]; exact hob7)
            subst e7
            have HQ : Hid (LpSt base r la lc L F d env R w g (.slice a7 (nvs ++ [x6]).length c7) w7) := ⟨ks' ++ [m2], nvs ++ [x6], a7, c7, j2, env2, rfl, by simp; omega, by omega, hR', hne2, HL2, q1, q2, q3, q4⟩
            clear q1 q2 q3 q4 hown7 hg7 hob7 hown6
            go_wp2_with fail
            go_roundg g
            case rel => exact HQ
            case measure => omega
        · rw [if_neg hq] at hR'
          simp only [if_neg hq] at HS'
          have HM := hid (fun n => must_st ⟨#[41]⟩ (by decide) _ (HRr.out.below (dN_below (Below.refl wr.heap.size wr) n)))
          rw [show (⟨#[41]⟩ : ByteArray).data.toList = [41] from rfl] at HM
          have HFw := hid (fun n => FrT.of_below (r := r) (dN_below (Below.refl wr.heap.size wr) n) HRr.out.size)
          by_cases hq2 : wordT L j' = [41]
          · rw [if_pos hq2] at hR'
            simp only [if_pos hq2] at HM
            subst hR'
            go_wp2_with (first | (go_at_call 36; refine HS'.out.mono ?_; rintro e w5 ⟨rfl, n5, rfl⟩) | (go_at_call 42; refine (HM.out _).mono ?_; rintro e w6 ⟨rfl, hr6, hf6, _⟩; have HR6 := hid hr6; have HF6 := hid hf6; clear hr6 hf6))
            go_ret
            have hkd := (HFw.out n5).trans HF6.out
            exact ⟨a', c', nvs, by omega, rfl, row_frt HO.out hkd hrw, nds_frt HN.out hkd (fun b hb => by omega), HR6.out, HFr.out.trans hkd⟩
          · rw [if_neg hq2] at hR'
            simp only [if_neg hq2] at HM
            subst hR'
            rw [thrown_chain] at HM
            go_wp2_with (first | (go_at_call 36; refine HS'.out.mono ?_; rintro e w5 ⟨rfl, n5, rfl⟩) | (go_at_call 42; refine (HM.out _).mono ?_; rintro e w6 ⟨rfl, hp6, hf6⟩))
            obtain ⟨e6, hl6, hp6⟩ := hp6
            exact ⟨rfl, rfl, ⟨e6, hl6.trans HLe.out, hp6⟩, (HFr.out.trans (HFw.out n5)).trans hf6⟩
end
section
section
variable (L : List Tk) (F G : Nat)
/-- What stands behind a function's name: G steps for its block. -/
def funT (d : Nat) (env : Env0) (kd nm : Nd) (i : Nat) : Option (Got (Nd × Nat × Env0)) :=
  if wordT L i = [40] then match lpsT L F d (List.append env [(fun _ => (0 : Int) : List UInt8 → Int)]) (i + 1) with
    | .error x => some (.error x)
    | .ok (ks, j, env2) => match stF L F G 1 0 d env2 j [] with
      | none => none
      | some (.error x) => some (.error x)
      | some (.ok (b, k, env3)) => some (.ok (.mk 3 (-1) (kd :: nm :: ks ++ [b]), k, List.dropLast env3))
  else some (.error (2, i))
/-- A declaration, or a function. -/
def outT (d : Nat) (env : Env0) (i : Nat) : Option (Got (Nd × Nat × Env0)) :=
  if wordT L i = [116, 121, 112, 101, 100, 101, 102] then some (dcoT L F d env i)
  else if typT L env i = true then match dclT L F 1 d env (i + 1) with
    | .error x => some (.error x)
    | .ok (n, k, env') => if n.kids.length = 0 ∧ wordT L k = [40] then funT L F G d env' (.mk 16 (i : Int) []) n k else some (dedT L F 1 d env' (.mk 16 (i : Int) []) n k)
  else some (.error (2, i))
/-- All of it, from i on. -/
def uniF : Nat → Env0 → Nat → List Nd → Option (Got Nd)
  | 0, _, _, _ => none
  | f + 1, env, i, ks =>
    if L.length ≤ i then some (.ok (.mk 1 (-1) ks))
    else match outT L F G 0 env i with
      | none => none
      | some (.error x) => some (.error x)
      | some (.ok (n, j, env')) => uniF f env' j (ks ++ [n])
end
end
end Go.Proofs.Ytocklchafmlfkaa
