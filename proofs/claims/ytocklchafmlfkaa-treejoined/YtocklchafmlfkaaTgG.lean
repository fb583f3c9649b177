/- Walk of asked: if and while, with what they ask, and the statement that hangs on it. · Walk of choice: an if, perhaps with an else. · Walk of block. · Walk of statement. · All that reads statements, whatever the steps. -/
import Derived.Test.YtocklchafmlfkaaTgE
import Derived.Test.YtocklchafmlfkaaTgF
namespace Go.Proofs.Ytocklchafmlfkaa
section
open Go.RowKit Go.Shelf

/-- A statement is read as it should, with f steps. -/
def OkS (base r : Nat) (la : Option Addr) (lc : Nat) (L : List Tk) (F f : Nat) : Prop := ∀ (d : Nat) (env : Env0) (i : Nat) (ks : List Nd) (R : Got (Nd × Nat × Env0)), env ≠ [] → env.length ≤ d + 2 → stF L F f 0 0 d env i ks = some R → ∀ w, RdAt w base r la lc L i env d → Calls Try.prog 53 #[.pointer (some ⟨r, 0, none⟩)] w (StPost base r la lc L env d R w)
/-- if, or while. -/
def OkK (base r : Nat) (la : Option Addr) (lc : Nat) (L : List Tk) (F f : Nat) : Prop := ∀ (k : Int) (d : Nat) (env : Env0) (i : Nat) (ks : List Nd) (R : Got (Nd × Nat × Env0)), env ≠ [] → env.length ≤ d + 2 → i < L.length → stF L F f 3 k d env i ks = some R → ∀ w, RdAt w base r la lc L i env d → Calls Try.prog 61 #[.pointer (some ⟨r, 0, none⟩), .int .i64 k] w (DcPost base r la lc L env d R w)
/-- A block. -/
def OkB (base r : Nat) (la : Option Addr) (lc : Nat) (L : List Tk) (F f : Nat) : Prop := ∀ (d : Nat) (env : Env0) (i : Nat) (ks : List Nd) (R : Got (Nd × Nat × Env0)), env ≠ [] → env.length ≤ d + 2 → stF L F f 1 0 d env i ks = some R → ∀ w, RdAt w base r la lc L i env d → Calls Try.prog 47 #[.pointer (some ⟨r, 0, none⟩)] w (StPost base r la lc L env d R w)

theorem RdAt.low {w : World} {base r : Nat} {la : Option Addr} {lc : Nat} {L : List Tk} {i : Nat} {env : Env0} {d : Nat} (h : RdAt w base r la lc L i env d) : d ≤ 30 := by
  obtain ⟨lo, hbr, vn, ms, hc, hn⟩ := h
  exact hc.low
/-- One token on. -/
theorem RdAt.goes {w w' : World} {base r : Nat} {la : Option Addr} {lc : Nat} {L : List Tk} {i : Nat} {env : Env0} {d : Nat} (h : RdAt w base r la lc L i env d) (hb : Below w.heap.size w w') (hi : i < L.length) : RdAt (w'.setCell ⟨r, 1, none⟩ (.int .i64 ((i : Int) + 1))) base r la lc L (i + 1) env d ∧ FrT base r w (w'.setCell ⟨r, 1, none⟩ (.int .i64 ((i : Int) + 1))) := by
  have hbs := h.size
  obtain ⟨lo, hbr, vn, ms, hc, hn⟩ := h
  have hg := hc.goes hb (i + 1) hi
  exact ⟨RdAt.of_cr lo hbr hc hn hg.1 hg.2 (by omega), FrT.of_kept hg.2 hbr hbs⟩

set_option maxRecDepth 100000 in
set_option maxHeartbeats 2000000 in
theorem asked_step {base r : Nat} {la : Option Addr} {lc : Nat} {L : List Tk} {F : Nat} (hE : Enough L F) (f : Nat) (hS : OkS base r la lc L F f) : OkK base r la lc L F (f + 1) := by
  intro k d env i ks R hne hel hil hR w h
  have hbs := h.size
  have hd30 := h.low
  have hrw : r < w.heap.size := by obtain ⟨lo, hbr, vn, ms, hc, hn⟩ := h; exact hc.lt
  obtain ⟨hr0, hf0⟩ := h.goes (Below.refl _ _) hil
  have hb1 := below_new (w.setCell ⟨r, 1, none⟩ (.int .i64 ((i : Int) + 1))) (boxN zeroN)
  have HR1 := hid (hr0.below hb1)
  have HF1 := hid (hf0.trans (FrT.of_below hb1 hr0.size))
  have HB1 : Hid (((w.setCell ⟨r, 1, none⟩ (.int .i64 ((i : Int) + 1))).alloc (boxN zeroN)).heap[w.heap.size]? = some (boxN zeroN)) := new_at (by simp) _
  have HM := hid (fun (j : Nat) (W : World) (hW : RdAt W base r la lc L j env d) => must_st ⟨#[40]⟩ (by decide) W hW)
  have HN := hid (fun (j : Nat) (W : World) (hW : RdAt W base r la lc L j env d) => must_st ⟨#[41]⟩ (by decide) W hW)
  rw [show (⟨#[40]⟩ : ByteArray).data.toList = [40] from rfl] at HM
  rw [show (⟨#[41]⟩ : ByteArray).data.toList = [41] from rfl] at HN
  have HX := hid (fun (j : Nat) (W : World) (hW : RdAt W base r la lc L j env d) => expr_st hE W hW)
  have hw1 : IntKind.i64.wrap ((i : Int) + 1) = (i : Int) + 1 := by
    obtain ⟨lo, hbr, vn, ms, hc, hn⟩ := h
    have := hc.few
    rw [IntKind.wrap_i64]; omega
  obtain ⟨vn0, hfc⟩ : ∃ vn, (w.cell? ⟨r, 1, none⟩ = some (.int .i64 (i : Int)) ∧ w.frozen? ⟨r, 1, none⟩ = false) ∧ vn = vn := by
    obtain ⟨lo, hbr, vn, ms, hc, hn⟩ := h
    exact ⟨vn, ⟨hc.facts.1.2.1, hc.facts.2.1⟩, rfl⟩
  obtain ⟨⟨b1, q1⟩, _⟩ := hfc
  rw [stF] at hR
  unfold DcPost
  unfold StPost at HX
  dsimp only [boxN, zeroN] at HR1 HF1 HB1
  clear h hb1 hr0 hf0
  go_enter Try.func61, Try.ntmps61
  go_wp2_with fail
  have HM1 := hid (HM.out _ _ HR1.out)
  generalize (w.setCell ⟨r, 1, none⟩ (.int .i64 ((i : Int) + 1))).alloc (.cells #[.int .i64 0, .int .i64 0, .slice none 0 0] 27) = w1 at *
  have hz1 := lt_of_block HB1.out
  clear b1 q1 hw1 HM
  by_cases hq : wordT L (i + 1) = [40]
  · rw [if_pos hq] at hR
    simp only [if_pos hq] at HM1
    refine HM1.out.mono ?_
    rintro e w2 ⟨rfl, hr2, hf2, _⟩
    have HF2 := hid (HF1.out.trans hf2)
    have HB2 : Hid (_ = some (boxN zeroN)) := boxN_frt HB1.out hf2 (by omega)
    have hz2 := lt_of_block HB2.out
    have HX2 := hid (HX.out _ _ hr2)
    clear HM1 HF1 HB1 HR1 hr2 hf2 HX
    go_wp2_with fail
    cases hrd : rdX L F 1 d (i + 1 + 1) with
    | error y =>
      rw [hrd] at HX2
      rw [show i + 2 = i + 1 + 1 from rfl, hrd] at hR
      dsimp only [withE] at hR HX2
      injection hR with hR
      subst hR
      rw [thrown_chain] at HX2
      refine HX2.out.mono ?_
      rintro e w3 ⟨rfl, hp3, hf3⟩
      exact ⟨rfl, rfl, hp3, HF2.out.trans hf3⟩
    | ok y =>
      obtain ⟨m3, j3⟩ := y
      rw [hrd] at HX2
      rw [show i + 2 = i + 1 + 1 from rfl, hrd] at hR
      dsimp only [withE] at hR HX2
      unfold aggN at HX2
      refine HX2.out.mono ?_
      rintro e w3 ⟨x1, rfl, hx1, hr3, hf3⟩
      dsimp only
      have hb34 := below_new w3 (boxN x1)
      have hB3 : w3.heap[w.heap.size]? = some (boxN zeroN) := boxN_frt HB2.out hf3 (by omega)
      have hz3 : w2.heap.size ≤ w3.heap.size := hf3.low.size
      have HR4 := hid (hr3.below hb34)
      have HF4 := hid ((HF2.out.trans hf3).trans (FrT.of_below hb34 hr3.size))
      have HB4 : Hid (_ = some (boxN zeroN)) := (hb34.block _ (lt_of_block hB3)).trans hB3
      have HK4 := hid (heap_alloc_new w3 (boxN x1))
      have HX4 := hid ((hx1.mono (Q := fun b => w.heap.size < b ∧ b < w3.heap.size) fun b hb hlt => ⟨by have hb' : w2.heap.size ≤ b := hb; omega, hlt⟩).kept fun b _ hlt => hb34.block b hlt)
      have hz4 : w3.heap.size < (w3.alloc (boxN x1)).heap.size := by simp
      have HN4 := hid (HN.out _ _ HR4.out)
      dsimp only [boxN] at HR4 HF4 HB4 HK4 HX4 hz4 HN4
      clear hr3 hf3 hx1 hb34 hB3 HX2 HF2 HB2 HN
      go_wp2_with fail
      generalize w3.alloc (.cells #[.int .i64 x1.kind, .int .i64 x1.tok, .slice x1.a x1.n x1.c] 27) = w4 at *
      by_cases hq4 : wordT L j3 = [41]
      · rw [if_pos hq4] at hR
        simp only [if_pos hq4] at HN4
        refine HN4.out.mono ?_
        rintro e w5 ⟨rfl, hr5, hf5, _⟩
        have HR5 := hid hr5
        have HF5 := hid (HF4.out.trans hf5)
        have HB5 : Hid (_ = some (boxN zeroN)) := boxN_frt HB4.out hf5 (by omega)
        have HK5 : Hid (_ = some (boxN x1)) := boxN_frt (x := x1) HK4.out hf5 (by omega)
        have HX5 := hid (HX4.out.frt hf5 fun b hb => by omega)
        have hz5 := lt_of_block HK5.out
        clear hr5 hf5 HN4 HR4 HF4 HB4 HK4 HX4
        go_wp2_with fail
        have HS5 := hid (fun W (hb : Below w5.heap.size w5 W) => (boxN_facts ((hb.block _ (lt_of_block HK5.out)).trans HK5.out)).1)
        refine wp_region_held_drew (S := fun W => W.cell? ⟨w3.heap.size, 0, none⟩ = some (.int .i64 x1.kind) ∧ W.cell? ⟨w3.heap.size, 1, none⟩ = some (.int .i64 x1.tok) ∧ W.cell? ⟨w3.heap.size, 2, none⟩ = some (.slice x1.a x1.n x1.c)) (by kernel_rfl) (HS5.out _ (Below.refl _ _).drew) (fun hHeld => ?_)
        refine wpAnyH_take (i := 0) (v := .int .i64 k) rfl (by kernel_rfl) (by kernel_rfl) (by kernel_rfl) (fun _ _ _ h => h) (Or.inl ⟨by rfl, ?_⟩) hHeld ?_
        · intro W hSw
          go_simp
        refine wpAnyH_take (i := 1) (v := .agg #[.int .i64 x1.kind, .int .i64 x1.tok, .slice x1.a x1.n x1.c]) rfl (by kernel_rfl) (by kernel_rfl) (by kernel_rfl) (fun _ _ _ h => h) (Or.inl ⟨by rfl, ?_⟩) hHeld ?_
        · intro W hSw
          try dsimp only at hSw
          go_simp
        refine wpAnyH_take (i := 2) (v := .pointer (some ⟨r, 0, none⟩)) rfl (by kernel_rfl) (by kernel_rfl) (by kernel_rfl) (fun _ _ _ h => h) (Or.inl ⟨by rfl, ?_⟩) hHeld ?_
        · intro W hSw
          go_simp
        refine wpAnyH_ready (rs := [3]) (by kernel_rfl) (by simp) (AllReadyH.cons rfl (fun K hK => ?_) AllReadyH.nil)
        go_simp
        cases hst : stF L F f 0 0 d env (j3 + 1) ks with
        | none => rw [hst] at hR; cases hR
        | some R5 =>
          have HS6 := hid (fun W (hW : RdAt W base r la lc L (j3 + 1) env d) => hS d env (j3 + 1) ks R5 hne hel hst W hW)
          unfold StPost at HS6
          rw [hst] at hR
          cases R5 with
          | error y =>
            dsimp only at hR HS6
            injection hR with hR
            subst hR
            rw [thrown_chain] at HS6
            go_wp2_with (go_at_call 53; refine (HS6.out _ (HR5.out.below (Below.refl _ _).drew)).mono ?_; rintro e w6 ⟨rfl, hp6, hf6⟩)
            exact ⟨rfl, rfl, hp6, (HF5.out.trans (FrT.of_below (Below.refl _ _).drew HR5.out.size)).trans hf6⟩
          | ok y =>
            obtain ⟨n5, k5, env5⟩ := y
            dsimp only at hR HS6
            injection hR with hR
            subst hR
            unfold aggN at HS6
            go_wp2_with (go_at_call 53; refine (HS6.out _ (HR5.out.below (Below.refl _ _).drew)).mono ?_; rintro e w6 ⟨x5, rfl, hx5, hr5, hf5⟩)
            have hf56 : FrT base r w5 w6 := (FrT.of_below (Below.refl _ _).drew HR5.out.size).trans hf5
            have hz56 : w5.heap.size ≤ w6.heap.size := hf5.low.size
            have hK5 := boxN_frt HK5.out hf56 (by omega)
            have hB5 := boxN_frt HB5.out hf56 (by omega)
            have hb67 := below_new w6 (.cells (cellsN [x1, x5]).toArray 27)
            have hX5 : NdIs w6 (fun b => w.heap.size < b) x1 m3 := (HX5.out.frt hf56 fun b hb => by omega).mono fun b hb _ => hb.1
            have hY5 : NdIs w6 (fun b => w.heap.size < b) x5 n5 := hx5.mono fun b hb _ => by have hb' : w5.heap.size ≤ b := hb; omega
            have hkid := kids_new (NdsIs.two hX5 hY5) (by simp) (Q := fun b => w.heap.size < b) (fun b hb _ => hb) (by omega)
            have HG := hid (fun w8 (hb : Below (w6.alloc (.cells (cellsN [x1, x5]).toArray 27)).heap.size (w6.alloc (.cells (cellsN [x1, x5]).toArray 27)) w8) =>
              give_st (x := ⟨k, -1, some ⟨w6.heap.size, 0, none⟩, 2, 2⟩) (n := .mk k (-1) [m3, n5]) (u := zeroN) (Q := (w.heap.size ≤ ·)) hrw hbs ((hb.block _ (lt_of_block ((hb67.block _ (lt_of_block hB5)).trans hB5))).trans ((hb67.block _ (lt_of_block hB5)).trans hB5)) ⟨rfl, rfl, hkid.kept fun b _ hlt => hb.block b hlt⟩ (fun b hb => by omega) ((hr5.below hb67).below hb) (((HF5.out.trans hf56).trans (FrT.of_below hb67 hr5.size)).trans (FrT.of_below hb (hr5.below hb67).size)) (fun b hb => by omega))
            have HB7 := hid (fun w8 (hb : Below (w6.alloc (.cells (cellsN [x1, x5]).toArray 27)).heap.size (w6.alloc (.cells (cellsN [x1, x5]).toArray 27)) w8) => boxN_facts (x := zeroN) ((hb.block _ (lt_of_block ((hb67.block _ (lt_of_block hB5)).trans hB5))).trans ((hb67.block _ (lt_of_block hB5)).trans hB5)))
            have HK7 := hid (fun w8 (hb : Below (w6.alloc (.cells (cellsN [x1, x5]).toArray 27)).heap.size (w6.alloc (.cells (cellsN [x1, x5]).toArray 27)) w8) => ((hb.block _ (lt_of_block ((hb67.block _ (lt_of_block hK5)).trans hK5))).trans ((hb67.block _ (lt_of_block hK5)).trans hK5)))
            have hK6 := (hb67.block _ (lt_of_block hK5)).trans hK5
            refine hK.out _ _ (boxN_facts hK5).1 (fun hHeld => ?_)
            clear hK K
            refine wpAnyH_ready (rs := [4]) (by kernel_rfl) (by simp) (AllReadyH.cons rfl (fun K hK => ?_) AllReadyH.nil)
            go_simp
            refine hK.out _ _ (boxN_facts hK6).1 (fun hHeld => ?_)
            clear hK K hr5 hf5 hx5 hX5 hY5 hkid hb67 hK5 hB5 hK6 hf56
            refine wpAnyH_ready (rs := [5]) (by kernel_rfl) (by simp) (AllReadyH.cons rfl (fun K hK => ?_) AllReadyH.nil)
            go_simp
            go_wp2_with (go_at_call 20; refine (node_any k _ 2 2 _).mono ?_; rintro e w8 ⟨rfl, hb8⟩)
            have HG8 := hid (HG.out w8 hb8)
            have hK8 := HK7.out w8 hb8
            obtain ⟨⟨y0, y1, y2⟩, z0, z1, z2⟩ := HB7.out w8 hb8
            dsimp only [zeroN] at y0 y1 y2
            refine hK.out _ _ (boxN_facts hK8).1 (fun hHeld => ?_)
            clear hK K HG HK7 HB7
            have HK9 := hid ((putN_other w8 w.heap.size ⟨k, -1, some ⟨w6.heap.size, 0, none⟩, 2, 2⟩ w3.heap.size (by omega)).trans hK8)
            unfold putN at HG8 HK9
            unfold aggN
            dsimp only at HG8 HK9 ⊢
            refine wpAnyH_ready (rs := [6]) (by kernel_rfl) (by simp) (AllReadyH.cons rfl (fun K hK => ?_) AllReadyH.nil)
            go_simp
            refine hK.out _ _ (boxN_facts HK9.out).1 (fun hHeld => ?_)
            clear hK K
            refine wpAnyH_done (by kernel_rfl) ?_ _
            go_wp2_with fail
            exact bodyPost_ret (node_ret Try.results61 (g := w.heap.size) (x := ⟨k, -1, some ⟨w6.heap.size, 0, none⟩, 2, 2⟩) HG8.out.1 _ rfl) rfl ⟨_, rfl, rfl, HG8.out.2⟩
      · rw [if_neg hq4] at hR
        simp only [if_neg hq4] at HN4
        injection hR with hR
        subst hR
        rw [thrown_chain] at HN4
        refine HN4.out.mono ?_
        rintro e w5 ⟨rfl, hp5, hf5⟩
        exact ⟨rfl, rfl, hp5, HF4.out.trans hf5⟩
  · rw [if_neg hq] at hR
    simp only [if_neg hq] at HM1
    injection hR with hR
    subst hR
    rw [thrown_chain] at HM1
    refine HM1.out.mono ?_
    rintro e w2 ⟨rfl, hp2, hf2⟩
    exact ⟨rfl, rfl, hp2, HF1.out.trans hf2⟩
end
section
open Go.RowKit Go.Shelf

/-- A full row has grown by one, and is laid into its node: at a statement's level. -/
theorem grow_put {base r : Nat} {la : Option Addr} {lc : Nat} {L : List Tk} {env : Env0} {d j Bn : Nat} {w w6 w7 : World} {x x5 : Nv} {n m5 : Nd} {v' : Value} {nvs : List Nv} (hrw : r < w.heap.size) (hbs : base ≤ w.heap.size) (hBn : w.heap.size < Bn)
    (hB : w6.heap[Bn]? = some (boxN x)) (hR : w6.heap[w.heap.size]? = some (boxN zeroN)) (hX : NdIs w6 (fun b => w.heap.size < b ∧ b ≠ Bn) x n) (hnds : NdsIs w6 (fun b => w.heap.size < b ∧ b ≠ Bn) nvs n.kids) (hY : NdIs w6 (fun b => w.heap.size < b ∧ b ≠ Bn) x5 m5)
    (hc : RdAt w6 base r la lc L j env d) (hk : FrT base r w w6) (hl : nvs.length = x.n)
    (hown : w7.ownsRow w6.heap.size 27 3 v' (x.n + 1) (cellsN nvs ++ cellsN [x5])) (hg : w6.grownBy w7 none) :
    ∃ a c, v' = .slice a (x.n + 1) c ∧ w7.heap[Bn]? = some (boxN x) ∧ (w7.setCell ⟨Bn, 2, none⟩ v').heap[Bn]? = some (boxN ⟨x.kind, x.tok, a, x.n + 1, c⟩) ∧ (w7.setCell ⟨Bn, 2, none⟩ v').heap[w.heap.size]? = some (boxN zeroN) ∧
      NdIs (w7.setCell ⟨Bn, 2, none⟩ v') (fun b => w.heap.size < b ∧ b ≠ Bn) ⟨x.kind, x.tok, a, x.n + 1, c⟩ (.mk n.kind n.tok (n.kids ++ [m5])) ∧ RdAt (w7.setCell ⟨Bn, 2, none⟩ v') base r la lc L j env d ∧ FrT base r w (w7.setCell ⟨Bn, 2, none⟩ v') := by
  obtain ⟨a, c, rfl⟩ := row_val hown
  have hb67 : Below w6.heap.size w6 w7 := ⟨hg.os, hg.tape, hg.output, hg.size, fun b hb => hg.block b hb (by simp)⟩
  have hz := lt_of_block hR
  have hzB := lt_of_block hB
  have hB7 := (hb67.block _ (lt_of_block hB)).trans hB
  have hR7 := (hb67.block _ (lt_of_block hR)).trans hR
  have hbs7 := Go.Joins.block_setCell (i := 2) hB7 (.slice a (x.n + 1) c)
  have hso : ∀ b, b ≠ Bn → (w7.setCell ⟨Bn, 2, none⟩ (.slice a (x.n + 1) c)).heap[b]? = w7.heap[b]? := fun b hb => Below.heap_setCell _ _ _ _ hb
  obtain ⟨hR8, hF8⟩ := set_st hrw hbs (B := Bn) (by omega) hB7 (hc.below hb67) (hk.trans (FrT.of_below hb67 hc.size)) (.slice a (x.n + 1) c)
  refine ⟨a, c, rfl, hB7, hbs7.trans rfl, (hso _ (by omega)).trans hR7, ⟨hX.kind, hX.tok, ?_⟩, hR8, hF8⟩
  have h2 := (hnds.snoc hY).kept (w' := w7) fun b _ hlt => hb67.block b hlt
  have hown' : w7.ownsRow w6.heap.size 27 3 (.slice a (x.n + 1) c) (nvs ++ [x5]).length (cellsN (nvs ++ [x5])) := by
    rw [List.length_append, hl, cellsN_append]
    exact hown
  refine (KidsAt.of_row hown' h2 fun b e => ?_).kept fun b hb _ => hso b hb.2
  have := (hown.lt b e).1
  exact ⟨by omega, by omega⟩

theorem st3_kids {L : List Tk} {F f : Nat} {k : Int} {d : Nat} {env : Env0} {i : Nat} {ks : List Nd} {n : Nd} {j : Nat} {env' : Env0} (h : stF L F f 3 k d env i ks = some (.ok (n, j, env'))) : n.kids.length = 2 := by
  cases f with
  | zero => unfold stF at h; cases h
  | succ f =>
    rw [stF] at h
    split at h
    · split at h
      · cases h
      · split at h
        · split at h
          · cases h
          · cases h
          · cases h
            rfl
        · cases h
    · cases h
set_option maxRecDepth 100000 in
set_option maxHeartbeats 2000000 in
theorem choice_step {base r : Nat} {la : Option Addr} {lc : Nat} {L : List Tk} {F : Nat} (f : Nat) (hK0 : OkK base r la lc L F f) (hS : OkS base r la lc L F f) (d : Nat) (env : Env0) (i : Nat) (ks : List Nd) (R : Got (Nd × Nat × Env0)) (hne : env ≠ []) (hel : env.length ≤ d + 2) (hil : i < L.length)
    (hR : (match stF L F f 3 6 d env i ks with
        | none => none
        | some (.error x) => some (.error x)
        | some (.ok (n, j, env')) =>
          if wordT L j = [101, 108, 115, 101] then match stF L F f 0 0 d env' (j + 1) ks with
            | none => none
            | some (.error x) => some (.error x)
            | some (.ok (m, j2, env2)) => some (.ok (.mk n.kind n.tok (n.kids ++ [m]), j2, env2))
          else some (.ok (n, j, env'))) = some R) (w : World) (h : RdAt w base r la lc L i env d) :
    Calls Try.prog 60 #[.pointer (some ⟨r, 0, none⟩)] w (StPost base r la lc L env d R w) := by
  have hbs := h.size
  have hrw : r < w.heap.size := by obtain ⟨lo, hbr, vn, ms, hc, hn⟩ := h; exact hc.lt
  have hb0 := below_new w (boxN zeroN)
  have HR0 := hid (h.below hb0)
  have HF0 := hid (FrT.of_below (r := r) hb0 hbs)
  have HB0 := hid (heap_alloc_new w (boxN zeroN))
  have hz0 : w.heap.size < (w.alloc (boxN zeroN)).heap.size := by simp
  dsimp only [boxN, zeroN] at HR0 HF0 HB0 hz0
  unfold StPost
  cases hst : stF L F f 3 6 d env i ks with
  | none => rw [hst] at hR; cases hR
  | some R1 =>
    have HK1 := hid (hK0 6 d env i ks R1 hne hel hil hst _ HR0.out)
    rw [hst] at hR
    unfold DcPost at HK1
    clear h hb0
    cases R1 with
    | error y =>
      dsimp only at hR HK1
      injection hR with hR
      subst hR
      rw [thrown_chain] at HK1
      go_enter Try.func60, Try.ntmps60
      go_wp2_with fail
      refine HK1.out.mono ?_
      rintro e w1 ⟨rfl, hp1, hf1⟩
      exact ⟨rfl, rfl, hp1, HF0.out.trans hf1⟩
    | ok y =>
      obtain ⟨n1, j1, env1⟩ := y
      have hlen1 := (st_ok L F f _ _ _ _ _ _ _ _ _ hst hne).2
      have HLe := hid hlen1
      have hne1 := ne_of_len hlen1 hne
      have hel1 : env1.length ≤ d + 2 := by omega
      clear hlen1
      dsimp only at hR HK1
      unfold aggN at HK1
      go_enter Try.func60, Try.ntmps60
      go_wp2_with fail
      refine HK1.out.mono ?_
      rintro e w1 ⟨x, rfl, hxc, hx1, hr1, hf1⟩
      have HXc := hid hxc
      dsimp only
      have hb12 := below_new w1 (boxN x)
      have hB1 := boxN_frt (b := w.heap.size) (x := zeroN) HB0.out hf1 (by omega)
      have hz1 : w.heap.size < w1.heap.size := lt_of_block hB1
      have HR2 := hid (hr1.below hb12)
      have HF2 := hid ((HF0.out.trans hf1).trans (FrT.of_below hb12 hr1.size))
      have HB2 : Hid (_ = some (boxN zeroN)) := (hb12.block _ (lt_of_block hB1)).trans hB1
      have HN2 := hid (heap_alloc_new w1 (boxN x))
      have HX2 := hid ((hx1.mono (Q := fun b => w.heap.size < b ∧ b ≠ w1.heap.size) fun b hb hlt => ⟨by have hb' : (w.alloc (.cells #[.int .i64 0, .int .i64 0, .slice none 0 0] 27)).heap.size ≤ b := hb; omega, by omega⟩).kept fun b _ hlt => hb12.block b hlt)
      have hz2 : w1.heap.size < (w1.alloc (boxN x)).heap.size := by simp
      have HSk := hid (skip_st ⟨#[101, 108, 115, 101]⟩ (by decide) _ HR2.out)
      rw [show (⟨#[101, 108, 115, 101]⟩ : ByteArray).data.toList = [101, 108, 115, 101] from rfl] at HSk
      dsimp only [boxN] at HR2 HF2 HB2 HN2 HX2 hz2 HSk
      clear hxc hx1 hr1 hf1 hb12 hB1 HK1 HR0 HF0 HB0 hz0
      go_wp2_with fail
      generalize w1.alloc (.cells #[.int .i64 x.kind, .int .i64 x.tok, .slice x.a x.n x.c] 27) = w2 at *
      by_cases hq : wordT L j1 = [101, 108, 115, 101]
      · rw [if_pos hq] at hR
        simp only [if_pos hq] at HSk
        refine HSk.out.mono ?_
        rintro e w3 ⟨rfl, hr3, hf3, _⟩
        have HR3 := hid hr3
        have HF3 := hid (HF2.out.trans hf3)
        have HB3 : Hid (_ = some (boxN zeroN)) := boxN_frt HB2.out hf3 (by omega)
        have HN3 : Hid (_ = some (boxN x)) := boxN_frt (x := x) HN2.out hf3 (by omega)
        have HX3 := hid (HX2.out.frt hf3 fun b hb => by omega)
        have hz3 := lt_of_block HN3.out
        have HCe := hid (fun W (hb : Below w3.heap.size w3 W) => (boxN_facts ((hb.block _ (lt_of_block HN3.out)).trans HN3.out)).1.2.2)
        clear hr3 hf3 HSk HR2 HF2 HB2 HN2 HX2
        go_wp2_with fail
        refine wp_region_any (by kernel_rfl) ?_
        refine wpAny_take (i := 0) (v := .pointer (some ⟨w1.heap.size, 2, none⟩)) rfl (by kernel_rfl) (by kernel_rfl) (by kernel_rfl) (fun _ _ _ h => h) (Or.inl ⟨by rfl, ?_⟩) ?_
        · intro W
          go_simp
        refine wpAny_take (i := 2) (v := .pointer (some ⟨r, 0, none⟩)) rfl (by kernel_rfl) (by kernel_rfl) (by kernel_rfl) (fun _ _ _ h => h) (Or.inl ⟨by rfl, ?_⟩) ?_
        · intro W
          go_simp
        refine takeT (C := fun W => W.cell? ⟨w1.heap.size, 2, none⟩ = some (.slice x.a x.n x.c)) (i := 1) (v := .slice x.a x.n x.c) rfl (by kernel_rfl) (by kernel_rfl) (by kernel_rfl) (fun _ _ _ h => h) (Or.inl ⟨by rfl, ?_⟩) (HCe.out _ (Below.refl _ _).drew) ?_
        · intro W hSw
          try dsimp only at hSw
          go_simp
        refine anyT_one (k := 3) (by kernel_rfl) rfl (fun K hK => ?_)
        go_simp
        cases hs5 : stF L F f 0 0 d env1 (j1 + 1) ks with
        | none => rw [hs5] at hR; cases hR
        | some R5 =>
          have HS5 := hid (fun W (hW : RdAt W base r la lc L (j1 + 1) env1 d) => hS d env1 (j1 + 1) ks R5 hne1 hel1 hs5 W hW)
          unfold StPost at HS5
          rw [hs5] at hR
          cases R5 with
          | error y =>
            dsimp only at hR HS5
            injection hR with hR
            subst hR
            rw [thrown_chain] at HS5
            go_wp2_with (go_at_call 53; refine (HS5.out _ (HR3.out.below (Below.refl _ _).drew)).mono ?_; rintro e w5 ⟨rfl, hp5, hf5⟩)
            obtain ⟨e5, hl5, hp5⟩ := hp5
            exact ⟨rfl, rfl, ⟨e5, hl5.trans HLe.out, hp5⟩, (HF3.out.trans (FrT.of_below (Below.refl _ _).drew HR3.out.size)).trans hf5⟩
          | ok y =>
            obtain ⟨m5, j5, env5⟩ := y
            dsimp only at hR HS5
            injection hR with hR
            subst hR
            unfold aggN at HS5
            obtain ⟨i0, hi, hzi0, hzz1, hzz2⟩ := info_parts info_node
            go_wp2_with (go_at_call 53; refine (HS5.out _ (HR3.out.below (Below.refl _ _).drew)).mono ?_; rintro e w5 ⟨x5, rfl, hx5, hr5, hf5⟩)
            have hf35 : FrT base r w3 w5 := (FrT.of_below (Below.refl _ _).drew HR3.out.size).trans hf5
            have hz35 : w3.heap.size ≤ w5.heap.size := hf5.low.size
            have hb56 := below_new w5 (boxN x5)
            have hN5 := boxN_frt HN3.out hf35 (by omega)
            have hB5 := boxN_frt HB3.out hf35 (by omega)
            have HN6 := hid ((hb56.block _ (lt_of_block hN5)).trans hN5)
            have HB6 := hid ((hb56.block _ (lt_of_block hB5)).trans hB5)
            have HX6 := hid ((HX3.out.frt hf35 fun b hb => by omega).kept fun b _ hlt => hb56.block b hlt)
            have HY6 := hid ((hx5.mono (Q := fun b => w.heap.size < b ∧ b ≠ w1.heap.size) fun b hb _ => by have hb' : w3.heap.size ≤ b := hb; omega).kept fun b _ hlt => hb56.block b hlt)
            have HR6 := hid (hr5.below hb56)
            have HF6 := hid ((HF3.out.trans hf35).trans (FrT.of_below hb56 hr5.size))
            refine hK.out _ _ (fun _ => (boxN_facts hN5).1.2.2) ?_
            clear hK K hx5 hr5 hf5 hf35 hb56 hB5 hN5
            refine anyT_one (k := 4) (by kernel_rfl) rfl (fun K hK => ?_)
            go_simp
            refine hK.out _ _ (fun _ => (boxN_facts HN6.out).1.2.2) ?_
            clear hK K
            obtain ⟨nvs, hrow, hnds, hown⟩ := HX6.out.kids.row
            have hnl : nvs.length = x.n ∧ (x.a = none → x.n = 0 ∧ x.c = 0) := by
              rcases hrow.2 with ⟨e, h0⟩ | ⟨g, cap, cur, e, _⟩
              · injection e with e1 e2 e3
                exact ⟨by omega, fun _ => ⟨e2, e3⟩⟩
              · injection e with e1 e2 e3
                exact ⟨e2.symm, fun h => by rw [e1] at h; cases h⟩
            have hxl : x.n ≤ 1000000 := by rw [HX6.out.len, st3_kids hst]; omega
            have HSp := hid (fun v' w7 => grow_put (v' := v') (w7 := w7) hrw hbs hz1 HN6.out HB6.out HX6.out hnds HY6.out HR6.out HF6.out hnl.1)
            have holds : ∀ b, x.a = some b → ∀ j u, (cellsN nvs)[j]? = some u → (w5.alloc (boxN x5)).cell? (b.add j) = some u := by
              intro b hb
              rcases hrow.2 with ⟨e, h0⟩ | ⟨g, cap, cur, e, _⟩
              · injection e with e1 e2 e3
                rw [hb] at e1; cases e1
              · injection e with e1 e2 e3
                rw [hb] at e1
                cases e1
                have hrow' : (w5.alloc (boxN x5)).ownsRow 0 27 3 (.slice x.a x.n x.c) nvs.length (cellsN nvs) := hrow
                rw [hb] at hrow'
                exact row_cells hrow'
            have hnews : ∀ j u, (cellsN [x5])[j]? = some u → (w5.alloc (boxN x5)).cell? ((⟨w5.heap.size, 0, none⟩ : Addr).add j) = some u := row_cells (new_row w5 [x5] (by simp))
            have Hfull := hid (show x.c < x.n + 1 by have := HXc.out; omega)
            have Hl3 := hid (show (cellsN nvs).length = x.n * 3 by rw [cellsN_length, hnl.1])
            have Hl4 := hid (show (cellsN [x5]).length = 1 * 3 from rfl)
            dsimp only [boxN] at holds hnews
            refine anyT_one (k := 5) (by kernel_rfl) rfl (fun K hK => ?_)
            refine step_append_grows (by rfl) _ _ 25 (by rfl) 27 i0 _ 3 40 Try.underlying25 hi hzi0 hzz1 hzz2 (by rfl) (by decide) x.a x.n x.c (cellsN nvs) (by rfl) hnl.2 Hl3.out holds ⟨w5.heap.size, 0, none⟩ 1 1 (cellsN [x5]) (by rfl) Hl4.out hnews (cellsN_one_cell _) Hfull.out (by unfold maxLen; omega) (by omega) ?_
            intro v7 w7 hown7 hg7
            obtain ⟨a7, c7, rfl, q1, q2, q3, q4, q5, q6⟩ := HSp.out v7 w7 hown7 hg7
            have HQ2 := hid q2
            have HQ3 := hid q3
            have HG := hid (give_stB (B := w.heap.size) (u := zeroN) (x := ⟨x.kind, x.tok, a7, x.n + 1, c7⟩) hrw hbs (Nat.le_refl _) q3 q4 (fun b hb => by omega) q5 q6 (Q := fun b => w.heap.size ≤ b) (fun b hb => by omega))
            obtain ⟨⟨t0, t1, t2⟩, f0, f1, f2⟩ := boxN_facts q1
            refine hK.out _ _ (fun _ => t2) ?_
            clear hK K hown7 hg7 q2 q3 q4 q5 q6 HSp holds hnews
            refine anyT_one (k := 6) (by kernel_rfl) rfl (fun K hK => ?_)
            go_simp
            refine hK.out _ _ (fun _ => t2) ?_
            clear hK K
            refine anyT_one (k := 7) (by kernel_rfl) rfl (fun K hK => ?_)
            go_simp
            refine hK.out _ _ (fun hno => absurd rfl (hno _ rfl ⟨1, .phase⟩ (by simp) (by rfl))) ?_
            clear hK K t0 t1 t2 f0 f1 f2 q1
            refine anyT_done (by kernel_rfl) ?_
            obtain ⟨⟨t0, t1, t2⟩, _⟩ := boxN_facts (x := ⟨x.kind, x.tok, a7, x.n + 1, c7⟩) HQ2.out
            obtain ⟨⟨y0, y1, y2⟩, z0, z1, z2⟩ := boxN_facts (x := zeroN) HQ3.out
            dsimp only [zeroN] at t0 t1 t2 y0 y1 y2
            unfold putN at HG
            dsimp only at HG
            go_wp2_with fail
            exact bodyPost_ret (node_ret Try.results60 (g := w.heap.size) (x := ⟨x.kind, x.tok, a7, x.n + 1, c7⟩) HG.out.1 _ rfl) rfl ⟨_, rfl, HG.out.2⟩
      · rw [if_neg hq] at hR
        simp only [if_neg hq] at HSk
        injection hR with hR
        subst hR
        refine HSk.out.mono ?_
        rintro e w3 ⟨rfl, n3, rfl⟩
        have hbd := dN_below (Below.refl w2.heap.size w2) n3
        have hBt : (w2.drewN n3).heap[w1.heap.size]? = some (boxN x) := (dN_heap w2 _ n3).trans HN2.out
        have hRt : (w2.drewN n3).heap[w.heap.size]? = some (boxN zeroN) := (dN_heap w2 _ n3).trans HB2.out
        have HG := hid (give_stB (B := w.heap.size) (u := zeroN) (x := x) hrw hbs (Nat.le_refl _) hRt (HX2.out.kept (w' := w2.drewN n3) fun b _ _ => dN_heap w2 b n3) (fun b hb => by omega) (HR2.out.below hbd) (HF2.out.trans (FrT.of_below hbd HR2.out.size)) (Q := fun b => w.heap.size ≤ b) (fun b hb => by omega))
        obtain ⟨⟨t0, t1, t2⟩, _⟩ := boxN_facts (x := x) hBt
        obtain ⟨⟨y0, y1, y2⟩, z0, z1, z2⟩ := boxN_facts (x := zeroN) hRt
        dsimp only [zeroN] at t0 t1 t2 y0 y1 y2
        unfold putN at HG
        clear hBt hRt hbd HSk HR2 HF2 HB2 HN2 HX2
        generalize w2.drewN n3 = w3 at *
        go_wp2_with fail
        exact bodyPost_ret (node_ret Try.results60 (g := w.heap.size) (x := x) HG.out.1 _ rfl) rfl ⟨_, rfl, HG.out.2⟩
end
section
open Go.RowKit Go.Shelf

theorem enter_st {base r : Nat} {la : Option Addr} {lc : Nat} {L : List Tk} {i : Nat} {env : Env0} {d : Nat} (b : Bool) (w : World) (h : RdAt w base r la lc L i env d) :
    Calls Try.prog 51 #[.pointer (some ⟨r, 0, none⟩), .bool b] w fun e w' => match stopT L b d i with
      | some x => e = thrownT x.1 (placeT L x.2) ∧ RdAt w' base r la lc L i env d ∧ FrT base r w w'
      | none => e = .returned (.tuple #[]) ∧ RdAt w' base r la lc L i env (d + 1) ∧ FrT base r w w' := by
  have hbs := h.size
  have h' := h
  obtain ⟨lo, hbr, vn, ms, hc, hn⟩ := h
  refine (enter_any b w hc).mono ?_
  intro e w' hp
  unfold EnterPost at hp
  cases hst : stopT L b d i with
  | some x =>
    rw [hst] at hp
    exact ⟨hp.1, h'.below hp.2, FrT.of_below hp.2 hbs⟩
  | none =>
    rw [hst] at hp
    exact ⟨hp.1, ⟨lo, hbr, vn, ms, hp.2.1, hn.kept hc.box hp.2.2⟩, FrT.of_kept hp.2.2 hbr hbs⟩
theorem fail_st {base r : Nat} {la : Option Addr} {lc : Nat} {L : List Tk} {i : Nat} {env : Env0} {d : Nat} (c : Int) (w : World) (h : RdAt w base r la lc L i env d) :
    Calls Try.prog 38 #[.pointer (some ⟨r, 0, none⟩), .int .i64 c] w fun e w' => e = thrownT c (placeT L i) ∧ RdAt w' base r la lc L i env d ∧ FrT base r w w' := by
  have hbs := h.size
  have h' := h
  obtain ⟨lo, hbr, vn, ms, hc, hn⟩ := h
  refine (fail_any c w hc).mono ?_
  rintro e w' ⟨h1, h2⟩
  exact ⟨h1, h'.below h2, FrT.of_below h2 hbs⟩
/-- Ahead of a round. -/
def BkSt (base r : Nat) (la : Option Addr) (lc : Nat) (L : List Tk) (F d : Nat) (env : Env0) (R : Got (Nd × Nat × Env0)) (w : World) (Bn g : Nat) (wr : World) : Prop :=
  ∃ (ks : List Nd) (nvs : List Nv) (a : Option Addr) (c j : Nat) (env' : Env0), stF L F g 2 0 (d + 1) env' j ks = some R ∧ env' ≠ [] ∧ env'.length = env.length ∧ nvs.length ≤ j ∧ RdAt wr base r la lc L j env' (d + 1) ∧ BkRow base r (fun _ => False) w 5 Bn w.heap.size ks nvs a c wr
theorem bk_start {base r : Nat} {k : Int} {w W : World} {Bn : Nat} (hN : W.heap[Bn]? = some (boxN ⟨k, -1, none, 0, 0⟩)) (hZ : W.heap[w.heap.size]? = some (boxN zeroN)) (hf : FrT base r w W) : BkRow base r (fun _ => False) w k Bn w.heap.size [] [] none 0 W := by
  exact ⟨hN, hZ, World.ownsRow_nil _ _ _ _, NdsIs.nil, by simp [Value.ownBlock], by simp [Value.ownBlock], hf⟩

set_option maxRecDepth 100000 in
set_option maxHeartbeats 2000000 in
theorem block_step {base r : Nat} {la : Option Addr} {lc : Nat} {L : List Tk} {F : Nat} (f : Nat) (hS : ∀ g, g ≤ f → OkS base r la lc L F g) : OkB base r la lc L F (f + 1) := by
  intro d env i ks R hne hel hR w h
  have hbs := h.size
  have hd30 := h.low
  have hrw : r < w.heap.size := by obtain ⟨lo, hbr, vn, ms, hc, hn⟩ := h; exact hc.lt
  have hb0 := below_new w (boxN zeroN)
  have HR0 := hid (h.below hb0)
  have HF0 := hid (FrT.of_below (r := r) hb0 hbs)
  have HB0 := hid (heap_alloc_new w (boxN zeroN))
  have HWd := hid (fun (W : World) (hW : RdAt W base r la lc L i env d) => by obtain ⟨lo, hbr, vn, ms, hc, hn⟩ := hW; exact word_any W hc)
  have hwb : (wrdB L i).toList = wordT L i := by rw [toList_data, wrdB_is]
  have HW0 := hid (HWd.out _ HR0.out)
  dsimp only [boxN, zeroN] at HR0 HF0 HB0 HW0
  rw [stF] at hR
  unfold StPost
  clear h hb0
  by_cases hq : wordT L i = [123]
  · rw [if_pos hq] at hR
    rw [hq] at hwb
    go_enter_defers Try.func47, Try.ntmps47
    refine Code.wp_mono (postS_imp (base := base) (r := r) (la := la) (lc := lc) (L := L) (m := env.length) (d := d) (by omega)) ?_
    go_wp2_with fail
    generalize w.alloc (.cells #[.int .i64 0, .int .i64 0, .slice none 0 0] 27) = w0 at *
    refine HW0.out.mono ?_
    rintro e w1 ⟨rfl, n1, rfl⟩
    have hbd := dN_below (Below.refl w0.heap.size w0) n1
    have HR1 := hid (HR0.out.below hbd)
    have HF1 := hid (HF0.out.trans (FrT.of_below hbd HR0.out.size))
    have HB1 : Hid (_ = some (boxN zeroN)) := (dN_heap w0 w.heap.size n1).trans HB0.out
    have hz1 := lt_of_block HB1.out
    generalize hw1 : w0.drewN n1 = w1 at *
    clear hw1 hbd HR0 HF0 HB0 HW0 HWd
    have HE := hid (enter_st true w1 HR1.out)
    go_wp2_with fail
    cases hst : stopT L true d i with
    | some x =>
      rw [hst] at hR HE
      injection hR with hR
      subst hR
      dsimp only at HE
      rw [thrown_chain] at HE
      refine HE.out.mono ?_
      rintro e w2 ⟨rfl, hr2, hf2⟩
      exact .inl ⟨rfl, rfl, ⟨env, rfl, hr2.thrown⟩, HF1.out.trans hf2⟩
    | none =>
      rw [hst] at hR HE
      dsimp only at hR HE
      refine HE.out.mono ?_
      rintro e w2 ⟨rfl, hr2, hf2⟩
      have HR2 := hid hr2
      have HF2 := hid (HF1.out.trans hf2)
      have HB2 : Hid (_ = some (boxN zeroN)) := boxN_frt HB1.out hf2 (by omega)
      clear hr2 hf2 HE HR1 HF1 HB1
      have HM2 := hid (must_st ⟨#[123]⟩ (by decide) w2 HR2.out)
      rw [show (⟨#[123]⟩ : ByteArray).data.toList = [123] from rfl] at HM2
      simp only [if_pos hq] at HM2
      go_wp2_with fail
      refine HM2.out.mono ?_
      rintro e w3 ⟨rfl, hr3, hf3, hil⟩
      have HR3 := hid hr3
      have HF3 := hid (HF2.out.trans hf3)
      have HB3 : Hid (_ = some (boxN zeroN)) := boxN_frt HB2.out hf3 (by omega)
      clear hr3 hf3 HM2 HR2 HF2 HB2
      go_wp2_with fail
      refine (node_any 5 none 0 0 _).mono ?_
      rintro e w4 ⟨rfl, hb4⟩
      have hz4 := lt_of_block HB3.out
      have hz4' := hb4.size
      have hb45 := below_new w4 (boxN ⟨5, -1, none, 0, 0⟩)
      have hR4 := HR3.out.below hb4
      have hB4 : w4.heap[w.heap.size]? = some (boxN zeroN) := (hb4.block _ (lt_of_block HB3.out)).trans HB3.out
      have hSt : BkSt base r la lc L F d env R w w4.heap.size f (w4.alloc (boxN ⟨5, -1, none, 0, 0⟩)) := ⟨[], [], none, 0, i + 1, env, hR, hne, rfl, Nat.zero_le _, hR4.below hb45, bk_start (heap_alloc_new w4 (boxN ⟨5, -1, none, 0, 0⟩)) ((hb45.block _ (lt_of_block hB4)).trans hB4) ((HF3.out.trans (FrT.of_below hb4 HR3.out.size)).trans (FrT.of_below hb45 hR4.size))⟩
      have HSt := hid hSt
      have hBn : w.heap.size < w4.heap.size := by omega
      dsimp only [boxN] at HSt
      clear hb4 hb45 hR4 hB4 hSt HR3 HF3 HB3 hR
      unfold aggN
      dsimp only
      go_wp2_with fail
      generalize w4.alloc (.cells #[.int .i64 5, .int .i64 (-1), .slice none 0 0] 27) = w5 at *
      generalize w4.heap.size = Bn at *
      go_loopg [] f (fun g wr => g ≤ f ∧ Hid (BkSt base r la lc L F d env R w Bn g wr))
      case atStart => exact ⟨Nat.le_refl _, HSt⟩
      case round =>
        obtain ⟨hgf, hrel⟩ := hrel
        obtain ⟨ks', nvs, a, c, j, env', hR', hne', hle', hnj, hr', hd'⟩ := hrel.out
        have hjl : j ≤ L.length ∧ L.length ≤ 6000 := by obtain ⟨lo, hbr, vn, ms, hc, hn⟩ := hr'; exact ⟨hc.le, hc.few⟩
        obtain ⟨g, rfl⟩ : ∃ g, gk = g + 1 := by
          cases gk with
          | zero => unfold stF at hR'; cases hR'
          | succ g => exact ⟨g, rfl⟩
        rw [stF] at hR'
        have HSk := hid (skip_st ⟨#[125]⟩ (by decide) wr hr')
        rw [show (⟨#[125]⟩ : ByteArray).data.toList = [125] from rfl] at HSk
        have HRr := hid hr'
        have HDr := hid hd'
        have HLe := hid hle'
        clear hr' hd' hrel HSt hle'
        by_cases hq2 : wordT L j = [125]
        · rw [if_pos hq2] at hR'
          simp only [if_pos hq2] at HSk
          injection hR' with hR'
          subst hR'
          go_wp2_with fail
          refine HSk.out.mono ?_
          rintro e w6 ⟨rfl, hr6, hf6, _⟩
          have HD6 := hid (HDr.out.frt hrw (fun _ h => h.elim) (by omega) (Nat.le_refl _) hf6)
          have hzn := lt_of_block HD6.out.bN
          have HG := hid (give_stB (B := w.heap.size) (u := zeroN) (x := ⟨5, -1, a, nvs.length, c⟩) (n := .mk 5 (-1) ks') (P := fun b => w.heap.size < b) (Q := fun b => w.heap.size < b) hrw hbs (Nat.le_refl _) HD6.out.bZ ⟨rfl, rfl, KidsAt.of_row HD6.out.row (HD6.out.nds.mono fun b hb _ => by have := hb.1.elim (fun h => h.elim) id; omega) (fun b e => by have h1 := (rowA_of HD6.out.row e).1; have h2 := HD6.out.ne2; have h3 : b ≠ w.heap.size := fun e' => h2 (e' ▸ e); omega)⟩ (fun b hb => by omega) hr6 HD6.out.fr (fun b hb => hb))
          obtain ⟨⟨x0, x1, x2⟩, _⟩ := boxN_facts HD6.out.bN
          obtain ⟨⟨y0, y1, y2⟩, z0, z1, z2⟩ := boxN_facts (x := zeroN) HD6.out.bZ
          dsimp only [zeroN] at x0 x1 x2 y0 y1 y2
          unfold putN at HG
          dsimp only at HG
          clear hr6 hf6 HSk HRr HDr
          go_wp2_with fail
          refine leavesS_back HG.out.2.2.1 fun W' hc' hf' => ⟨_, node_ret Try.results47 (g := w.heap.size) (x := ⟨5, -1, a, nvs.length, c⟩) (boxN_frt HG.out.1 hf' (by omega)) _ rfl, ?_⟩
          exact ⟨_, rfl, (HG.out.2.1.frt hf' fun b hb => by omega).mono fun b hb _ => Nat.le_of_lt hb, hc', HG.out.2.2.2.trans hf'⟩
        · rw [if_neg hq2] at hR'
          simp only [if_neg hq2] at HSk
          go_wp2_with fail
          refine HSk.out.mono ?_
          rintro e w6 ⟨rfl, n6, rfl⟩
          have hbd := dN_below (Below.refl wr.heap.size wr) n6
          have HR6 := hid (HRr.out.below hbd)
          have HD6 := hid (HDr.out.frt hrw (fun _ h => h.elim) (by omega) (Nat.le_refl _) (FrT.of_below hbd HRr.out.size))
          generalize hw6 : wr.drewN n6 = w6 at *
          clear hw6 hbd HSk HRr HDr
          have hzn := lt_of_block HD6.out.bN
          have hzz := lt_of_block HD6.out.bZ
          have HCe := hid (fun W (hb : Below w6.heap.size w6 W) => (boxN_facts (x := ⟨5, -1, a, nvs.length, c⟩) ((hb.block _ (lt_of_block HD6.out.bN)).trans HD6.out.bN)).1.2.2)
          have hob : ∀ b, (Value.slice a nvs.length c).ownBlock = some b → b < w6.heap.size := fun b e => by obtain ⟨_, cur, k2⟩ := rowA_of HD6.out.row e; exact lt_of_block k2
          go_wp2_with fail
          refine wp_region_any (by kernel_rfl) ?_
          refine wpAny_take (i := 0) (v := .pointer (some ⟨Bn, 2, none⟩)) rfl (by kernel_rfl) (by kernel_rfl) (by kernel_rfl) (fun _ _ _ h => h) (Or.inl ⟨by rfl, ?_⟩) ?_
          · intro W
            go_simp
          refine wpAny_take (i := 2) (v := .pointer (some ⟨r, 0, none⟩)) rfl (by kernel_rfl) (by kernel_rfl) (by kernel_rfl) (fun _ _ _ h => h) (Or.inl ⟨by rfl, ?_⟩) ?_
          · intro W
            go_simp
          refine takeT (C := fun W => W.cell? ⟨Bn, 2, none⟩ = some (.slice a nvs.length c)) (i := 1) (v := .slice a nvs.length c) rfl (by kernel_rfl) (by kernel_rfl) (by kernel_rfl) (fun _ _ _ h => h) (Or.inl ⟨by rfl, ?_⟩) (HCe.out _ (Below.refl _ _).drew) ?_
          · intro W hSw
            try dsimp only at hSw
            go_simp
          refine anyT_one (k := 3) (by kernel_rfl) rfl (fun K hK => ?_)
          go_simp
          have hel' : env'.length ≤ d + 1 + 2 := by have := HLe.out; omega
          cases hs5 : stF L F g 0 0 (d + 1) env' j ks' with
          | none => rw [hs5] at hR'; cases hR'
          | some R5 =>
            have HS5 := hid (fun W (hW : RdAt W base r la lc L j env' (d + 1)) => hS g (by omega) (d + 1) env' j ks' R5 hne' hel' hs5 W hW)
            unfold StPost at HS5
            rw [hs5] at hR'
            cases R5 with
            | error y =>
              dsimp only at hR' HS5
              injection hR' with hR'
              subst hR'
              rw [thrown_chain] at HS5
              go_wp2_with (go_at_call 53; refine (HS5.out _ (HR6.out.below (Below.refl _ _).drew)).mono ?_; rintro e w7 ⟨rfl, hp7, hf7⟩)
              obtain ⟨e7, hl7, hp7⟩ := hp7
              exact .inr ⟨_, _, rfl, .inl ⟨rfl, e7, hl7.trans HLe.out, hp7⟩, fun W' hp' hf' => ⟨rfl, hp', ((HD6.out.fr.trans (FrT.of_below (Below.refl _ _).drew HR6.out.size)).trans hf7).trans hf'⟩⟩
            | ok y =>
              obtain ⟨n5, j5, env5⟩ := y
              obtain ⟨hj5, hl5⟩ := st_ok L F g _ _ _ _ _ _ _ _ _ hs5 hne'
              have HL5 := hid hl5
              have hne5 := ne_of_len hl5 hne'
              clear hl5
              dsimp only at hR' HS5
              unfold aggN at HS5
              go_wp2_with (go_at_call 53; refine (HS5.out _ (HR6.out.below (Below.refl _ _).drew)).mono ?_; rintro e w7 ⟨x7, rfl, hx7, hr7, hf7⟩)
              have hf67 : FrT base r w6 w7 := (FrT.of_below (Below.refl _ _).drew HR6.out.size).trans hf7
              have hz67 : w6.heap.size ≤ w7.heap.size := hf7.low.size
              have HD7 := hid (HD6.out.frt hrw (fun _ h => h.elim) (by omega) (Nat.le_refl _) hf67)
              have hba := below_new w7 (boxN x7)
              have HDa := hid (HD7.out.frt hrw (fun _ h => h.elim) (by omega) (Nat.le_refl _) (FrT.of_below hba hr7.size))
              have hra := hr7.below hba
              have hxa := (hx7.mono (Q := fun b => (False ∨ w.heap.size ≤ b) ∧ b ≠ Bn ∧ b ≠ w.heap.size ∧ (Value.slice a nvs.length c).ownBlock ≠ some b) fun b hb _ => by have hb' : w6.heap.size ≤ b := hb; exact ⟨.inr (by omega), by omega, by omega, fun e => by have := hob b e; omega⟩).kept fun b _ hlt => hba.block b hlt
              have HMo := hid (fun v8 w8 => HDa.out.more (w7 := w8) (v' := v8) hrw hbs (by omega) (by omega) (NdsIs.one hxa) hra)
              have hrow7 := new_row w7 [x7] (by simp)
              have hrowa := HDa.out.row
              have hbza : w.heap.size ≤ (w7.alloc (boxN x7)).heap.size := by have := lt_of_block HDa.out.bZ; omega
              refine hK.out _ _ (fun _ => (boxN_facts HD7.out.bN).1.2.2) ?_
              clear hK K hx7 hr7 hf7 hba hra hxa hf67
              refine anyT_one (k := 4) (by kernel_rfl) rfl (fun K hK => ?_)
              go_simp
              refine hK.out _ _ (fun _ => (boxN_facts HDa.out.bN).1.2.2) ?_
              clear hK K
              refine anyT_one (k := 5) (by kernel_rfl) rfl (fun K hK => ?_)
              refine step_append_rowA (by rfl) _ _ (by rfl) w.heap.size _ nvs.length c a nvs [x7] w7.heap.size 1 (by rfl) (by rfl) rfl hrowa hrow7 (by omega) (by simp) hbza ?_
              intro v8 w8 hown8 hg8 hob8
              obtain ⟨a8, c8, rfl, q1, q2, q3⟩ := HMo.out v8 w8 hown8 hg8 hob8
              have hl6 : (nvs ++ [x7]).length = nvs.length + 1 := by simp
              rw [hl6] at q2 q3 ⊢
              have HQ2 := hid q2
              have HQ3 := hid q3
              obtain ⟨⟨t0, t1, t2⟩, f0, f1, f2⟩ := boxN_facts q1
              refine hK.out _ _ (fun _ => t2) ?_
              clear hK K hown8 hg8 hob8 q2 q3 HMo hrowa hrow7
              refine anyT_one (k := 6) (by kernel_rfl) rfl (fun K hK => ?_)
              go_simp
              refine hK.out _ _ (fun _ => t2) ?_
              clear hK K
              refine anyT_one (k := 7) (by kernel_rfl) rfl (fun K hK => ?_)
              go_simp
              refine hK.out _ _ (fun hno => absurd rfl (hno _ rfl ⟨1, .phase⟩ (by simp) (by rfl))) ?_
              clear hK K t0 t1 t2 f0 f1 f2 q1
              refine anyT_done (by kernel_rfl) ?_
              go_wp2_with fail
              go_roundg g
              case rel => exact ⟨by omega, ⟨ks' ++ [n5], nvs ++ [x7], a8, c8, j5, env5, hR', hne5, HL5.out.trans HLe.out, by rw [hl6]; omega, HQ3.out, HQ2.out⟩⟩
              case measure => omega
  · rw [if_neg hq] at hR
    injection hR with hR
    subst hR
    have hq' : (wordT L i == [123]) = false := beq_eq_false_iff_ne.2 hq
    have HFl := hid (fun (W : World) (hW : RdAt W base r la lc L i env d) => fail_st 2 W hW)
    rw [thrown_chain] at HFl
    go_enter_defers Try.func47, Try.ntmps47
    go_wp2_with fail
    generalize w.alloc (.cells #[.int .i64 0, .int .i64 0, .slice none 0 0] 27) = w0 at *
    refine HW0.out.mono ?_
    rintro e w1 ⟨rfl, n1, rfl⟩
    have hbd := dN_below (Below.refl w0.heap.size w0) n1
    have HR1 := hid (HR0.out.below hbd)
    have HF1 := hid (HF0.out.trans (FrT.of_below hbd HR0.out.size))
    generalize hw1 : w0.drewN n1 = w1 at *
    clear hw1 hbd HR0 HF0 HB0 HW0 HWd
    go_wp2_with fail
    refine (HFl.out _ HR1.out).mono ?_
    rintro e w2 ⟨rfl, hr2, hf2⟩
    exact ⟨rfl, ⟨env, rfl, hr2.thrown⟩, HF1.out.trans hf2⟩
end
section
open Go.RowKit Go.Shelf

set_option maxRecDepth 100000 in
set_option maxHeartbeats 4000000 in
theorem statement_step {base r : Nat} {la : Option Addr} {lc : Nat} {L : List Tk} {F : Nat} (hs : Short L) (hE : Enough L F) (f : Nat) (hS : OkS base r la lc L F f) (hB0 : OkB base r la lc L F f) (hK0 : OkK base r la lc L F f) : OkS base r la lc L F (f + 1) := by
  intro d env i ks R hne hel hR w h
  have hbs := h.size
  have hd30 := h.low
  have hrw : r < w.heap.size := by obtain ⟨lo, hbr, vn, ms, hc, hn⟩ := h; exact hc.lt
  have hb0 := below_new w (boxN zeroN)
  have HR0 := hid (h.below hb0)
  have HF0 := hid (FrT.of_below (r := r) hb0 hbs)
  have HB0 := hid (heap_alloc_new w (boxN zeroN))
  have HSn := hid (statementNext_any hs (by omega) _ HR0.out)
  have HWd := hid (fun (d' : Nat) (W : World) (hW : RdAt W base r la lc L i env d') => by obtain ⟨lo, hbr, vn, ms, hc, hn⟩ := hW; exact word_any W hc)
  have hwb : (wrdB L i).toList = wordT L i := by rw [toList_data, wrdB_is]
  dsimp only [boxN, zeroN] at HR0 HF0 HB0 HSn
  rw [stF] at hR
  unfold StPost
  clear h hb0
  cases hst : stopT L (stnT L env i) d i with
  | some x =>
    rw [hst] at hR
    injection hR with hR
    subst hR
    have HE := hid (fun (W : World) (hW : RdAt W base r la lc L i env d) => enter_st (stnT L env i) W hW)
    rw [hst] at HE
    dsimp only at HE ⊢
    rw [thrown_chain] at HE ⊢
    generalize stnT L env i = bb at *
    go_enter_defers Try.func53, Try.ntmps53
    go_wp2_with fail
    generalize w.alloc (.cells #[.int .i64 0, .int .i64 0, .slice none 0 0] 27) = w0 at *
    refine HSn.out.mono ?_
    rintro e w1 ⟨rfl, n1, rfl⟩
    have hbd := dN_below (Below.refl w0.heap.size w0) n1
    have HR1 := hid (HR0.out.below hbd)
    have HF1 := hid (HF0.out.trans (FrT.of_below hbd HR0.out.size))
    generalize hw1 : w0.drewN n1 = w1 at *
    clear hw1 hbd HR0 HF0 HB0 HSn
    go_wp2_with fail
    refine (HE.out _ HR1.out).mono ?_
    rintro e w2 ⟨rfl, hr2, hf2⟩
    exact ⟨rfl, ⟨env, rfl, hr2.thrown⟩, HF1.out.trans hf2⟩
  | none =>
    rw [hst] at hR
    have hil := stop_lt hst
    have HE := hid (fun (W : World) (hW : RdAt W base r la lc L i env d) => enter_st (stnT L env i) W hW)
    rw [hst] at HE
    dsimp only at HE hR
    have hd29 : d + 1 ≤ 30 := by
      unfold stopT at hst
      split at hst
      · cases hst
      · split at hst
        · cases hst
        · split at hst
          · cases hst
          · omega
    clear hst
    generalize stnT L env i = bb at *
    go_enter_defers Try.func53, Try.ntmps53
    refine Code.wp_mono (postS_imp (base := base) (r := r) (la := la) (lc := lc) (L := L) (m := env.length) (d := d) (by omega)) ?_
    go_wp2_with fail
    generalize w.alloc (.cells #[.int .i64 0, .int .i64 0, .slice none 0 0] 27) = w0 at *
    refine HSn.out.mono ?_
    rintro e w1 ⟨rfl, n1, rfl⟩
    have hbd := dN_below (Below.refl w0.heap.size w0) n1
    have HR1 := hid (HR0.out.below hbd)
    have HF1 := hid (HF0.out.trans (FrT.of_below hbd HR0.out.size))
    have HB1 : Hid (_ = some (boxN zeroN)) := (dN_heap w0 w.heap.size n1).trans HB0.out
    generalize hw1 : w0.drewN n1 = w1 at *
    clear hw1 hbd HR0 HF0 HB0 HSn
    go_wp2_with fail
    refine (HE.out _ HR1.out).mono ?_
    rintro e w2 ⟨rfl, hr2, hf2⟩
    have HR2 := hid hr2
    have HF2 := hid (HF1.out.trans hf2)
    have HB2 : Hid (_ = some (boxN zeroN)) := boxN_frt HB1.out hf2 (by omega)
    have HW2 := hid (HWd.out _ _ HR2.out)
    clear hr2 hf2 HE HR1 HF1 HB1 HWd
    go_wp2_with fail
    refine HW2.out.mono ?_
    rintro e w3 ⟨rfl, n3, rfl⟩
    have hbd := dN_below (Below.refl w2.heap.size w2) n3
    have HR3 := hid (HR2.out.below hbd)
    have HF3 := hid (HF2.out.trans (FrT.of_below hbd HR2.out.size))
    have HB3 : Hid (_ = some (boxN zeroN)) := (dN_heap w2 w.heap.size n3).trans HB2.out
    have hz3 := lt_of_block HB3.out
    generalize hw3 : w2.drewN n3 = w3 at *
    clear hw3 hbd HR2 HF2 HB2 HW2
    by_cases c1 : wordT L i = [123]
    · rw [if_pos c1] at hR
      rw [c1] at hwb
      have HO := hid (open_any w3 HR3.out (by omega))
      go_wp2_with fail
      refine HO.out.mono ?_
      rintro e w4 ⟨rfl, hr4, hf4⟩
      have HR4 := hid hr4
      have HF4 := hid (HF3.out.trans hf4)
      have HB4 : Hid (_ = some (boxN zeroN)) := boxN_frt HB3.out hf4 (by omega)
      have hz4 := lt_of_block HB4.out
      clear hr4 hf4 HO HR3 HF3 HB3
      have e0 : List.append env [(fun _ => (0 : Int) : List UInt8 → Int)] = env ++ [fun _ => 0] := rfl
      rw [e0] at hR
      cases hs5 : stF L F f 1 0 (d + 1) (env ++ [fun _ => 0]) i ks with
      | none => rw [hs5] at hR; cases hR
      | some R5 =>
        have HX := hid (hB0 (d + 1) (env ++ [fun _ => 0]) i ks R5 (by simp) (by simp; omega) hs5 w4 HR4.out)
        unfold StPost at HX
        rw [hs5] at hR
        go_wp2_with fail
        cases R5 with
        | error y =>
          dsimp only at hR HX
          injection hR with hR
          subst hR
          rw [thrown_chain] at HX
          refine HX.out.mono ?_
          rintro e w7 ⟨rfl, hp7, hf7⟩
          obtain ⟨e7, hl7, hp7⟩ := hp7
          exact .inr ⟨_, _, rfl, .inr <| .inl ⟨rfl, e7, by rw [hl7]; simp, hp7⟩, fun W' hp' hf' => ⟨rfl, hp', (HF4.out.trans hf7).trans hf'⟩⟩
        | ok y =>
          obtain ⟨n5, j5, env5⟩ := y
          have hl5 := (st_ok L F f _ _ _ _ _ _ _ _ _ hs5 (by simp)).2
          obtain ⟨e5, g5, rfl, hl5'⟩ := snoc_of_len (n := env.length) (by rw [hl5]; simp)
          dsimp only at hR HX
          rw [List.dropLast_concat] at hR
          injection hR with hR
          subst hR
          have he5 : e5.length ≤ 1000 := by omega
          clear hl5 hl5'
          unfold aggN at HX
          refine HX.out.mono ?_
          rintro e w7 ⟨x7, rfl, hx7, hr7, hf7⟩
          have hB7 := boxN_frt (b := w.heap.size) (x := zeroN) HB4.out hf7 (by omega)
          have HG := hid (give_stB (B := w.heap.size) (u := zeroN) (x := x7) (P := fun b => w.heap.size < b) (Q := fun b => w.heap.size < b) hrw hbs (Nat.le_refl _) hB7 (hx7.mono fun b hb _ => by have hb' : w4.heap.size ≤ b := hb; omega) (fun b hb => by omega) hr7 (HF4.out.trans hf7) (fun b hb => hb))
          obtain ⟨⟨y0, y1, y2⟩, z0, z1, z2⟩ := boxN_facts (x := zeroN) hB7
          dsimp only [zeroN] at y0 y1 y2
          unfold putN at HG
          clear hx7 hr7 hf7 hB7
          go_wp2_with fail
          refine leavesC_back he5 HG.out.2.2.1 fun W' hc' hf' => ⟨_, node_ret Try.results53 (g := w.heap.size) (x := x7) (boxN_frt HG.out.1 hf' (by omega)) _ rfl, ?_⟩
          exact ⟨_, rfl, (HG.out.2.1.frt hf' fun b hb => by omega).mono fun b hb _ => Nat.le_of_lt hb, hc', HG.out.2.2.2.trans hf'⟩
    rw [if_neg c1] at hR
    have c1' : (wordT L i == [123]) = false := beq_eq_false_iff_ne.2 c1
    by_cases c2 : wordT L i = [105, 102]
    · rw [if_pos c2] at hR
      have HX := hid (choice_step f hK0 hS (d + 1) env i ks R hne (by omega) hil hR w3 HR3.out)
      unfold StPost at HX
      rw [c2] at hwb c1'
      go_wp2_with fail
      cases R with
      | error y =>
        dsimp only at HX
        rw [thrown_chain] at HX
        refine HX.out.mono ?_
        rintro e w7 ⟨rfl, hp7, hf7⟩
        obtain ⟨e7, hl7, hp7⟩ := hp7
        exact .inr ⟨_, _, rfl, .inl ⟨rfl, e7, hl7, hp7⟩, fun W' hp' hf' => ⟨rfl, hp', (HF3.out.trans hf7).trans hf'⟩⟩
      | ok y =>
        obtain ⟨n5, j5, env5⟩ := y
        dsimp only at HX
        unfold aggN at HX
        refine HX.out.mono ?_
        rintro e w7 ⟨x7, rfl, hx7, hr7, hf7⟩
        have hB7 := boxN_frt (b := w.heap.size) (x := zeroN) HB3.out hf7 (by omega)
        have HG := hid (give_stB (B := w.heap.size) (u := zeroN) (x := x7) (P := fun b => w.heap.size < b) (Q := fun b => w.heap.size < b) hrw hbs (Nat.le_refl _) hB7 (hx7.mono fun b hb _ => by have hb' : w3.heap.size ≤ b := hb; omega) (fun b hb => by omega) hr7 (HF3.out.trans hf7) (fun b hb => hb))
        obtain ⟨⟨y0, y1, y2⟩, z0, z1, z2⟩ := boxN_facts (x := zeroN) hB7
        dsimp only [zeroN] at y0 y1 y2
        unfold putN at HG
        clear hx7 hr7 hf7 hB7
        go_wp2_with fail
        refine leavesS_back HG.out.2.2.1 fun W' hc' hf' => ⟨_, node_ret Try.results53 (g := w.heap.size) (x := x7) (boxN_frt HG.out.1 hf' (by omega)) _ rfl, ?_⟩
        exact ⟨_, rfl, (HG.out.2.1.frt hf' fun b hb => by omega).mono fun b hb _ => Nat.le_of_lt hb, hc', HG.out.2.2.2.trans hf'⟩
    rw [if_neg c2] at hR
    have c2' : (wordT L i == [105, 102]) = false := beq_eq_false_iff_ne.2 c2
    by_cases c3 : wordT L i = [119, 104, 105, 108, 101]
    · rw [if_pos c3] at hR
      have HX := hid (hK0 7 (d + 1) env i ks R hne (by omega) hil hR w3 HR3.out)
      unfold DcPost at HX
      rw [c3] at hwb c1' c2'
      go_wp2_with fail
      cases R with
      | error y =>
        dsimp only at HX
        rw [thrown_chain] at HX
        refine HX.out.mono ?_
        rintro e w7 ⟨rfl, hp7, hf7⟩
        obtain ⟨e7, hl7, hp7⟩ := hp7
        exact .inr ⟨_, _, rfl, .inl ⟨rfl, e7, hl7, hp7⟩, fun W' hp' hf' => ⟨rfl, hp', (HF3.out.trans hf7).trans hf'⟩⟩
      | ok y =>
        obtain ⟨n5, j5, env5⟩ := y
        dsimp only at HX
        unfold aggN at HX
        refine HX.out.mono ?_
        rintro e w7 ⟨x7, rfl, hxc7, hx7, hr7, hf7⟩
        clear hxc7
        have hB7 := boxN_frt (b := w.heap.size) (x := zeroN) HB3.out hf7 (by omega)
        have HG := hid (give_stB (B := w.heap.size) (u := zeroN) (x := x7) (P := fun b => w.heap.size < b) (Q := fun b => w.heap.size < b) hrw hbs (Nat.le_refl _) hB7 (hx7.mono fun b hb _ => by have hb' : w3.heap.size ≤ b := hb; omega) (fun b hb => by omega) hr7 (HF3.out.trans hf7) (fun b hb => hb))
        obtain ⟨⟨y0, y1, y2⟩, z0, z1, z2⟩ := boxN_facts (x := zeroN) hB7
        dsimp only [zeroN] at y0 y1 y2
        unfold putN at HG
        clear hx7 hr7 hf7 hB7
        go_wp2_with fail
        refine leavesS_back HG.out.2.2.1 fun W' hc' hf' => ⟨_, node_ret Try.results53 (g := w.heap.size) (x := x7) (boxN_frt HG.out.1 hf' (by omega)) _ rfl, ?_⟩
        exact ⟨_, rfl, (HG.out.2.1.frt hf' fun b hb => by omega).mono fun b hb _ => Nat.le_of_lt hb, hc', HG.out.2.2.2.trans hf'⟩
    rw [if_neg c3] at hR
    have c3' : (wordT L i == [119, 104, 105, 108, 101]) = false := beq_eq_false_iff_ne.2 c3
    by_cases c4 : wordT L i = [114, 101, 116, 117, 114, 110]
    · rw [if_pos c4] at hR
      injection hR with hR
      obtain ⟨hr4, hf4⟩ := HR3.out.goes (Below.refl _ _) hil
      have HB4 : Hid (_ = some (boxN zeroN)) := boxN_frt HB3.out hf4 (by omega)
      have HF4 := hid (HF3.out.trans hf4)
      have HX := hid (plain_any hE 8 _ hr4)
      rw [hR] at HX
      unfold StPost at HX
      rw [c4] at hwb c1' c2' c3'
      obtain ⟨b1, q1⟩ : w3.cell? ⟨r, 1, none⟩ = some (.int .i64 (i : Int)) ∧ w3.frozen? ⟨r, 1, none⟩ = false := by
        obtain ⟨lo, hbr, vn, ms, hc, hn⟩ := HR3.out
        exact ⟨hc.facts.1.2.1, hc.facts.2.1⟩
      have hw1 : IntKind.i64.wrap ((i : Int) + 1) = (i : Int) + 1 := by
        obtain ⟨lo, hbr, vn, ms, hc, hn⟩ := HR3.out
        have := hc.few
        rw [IntKind.wrap_i64]; omega
      clear hr4 hf4 HR3
      go_wp2_with fail
      generalize w3.setCell ⟨r, 1, none⟩ (.int .i64 ((i : Int) + 1)) = w4 at *
      have hz4 := lt_of_block HB4.out
      clear b1 q1 hw1
      cases R with
      | error y =>
        dsimp only at HX
        rw [thrown_chain] at HX
        refine HX.out.mono ?_
        rintro e w7 ⟨rfl, hp7, hf7⟩
        obtain ⟨e7, hl7, hp7⟩ := hp7
        exact .inr ⟨_, _, rfl, .inl ⟨rfl, e7, hl7, hp7⟩, fun W' hp' hf' => ⟨rfl, hp', (HF4.out.trans hf7).trans hf'⟩⟩
      | ok y =>
        obtain ⟨n5, j5, env5⟩ := y
        dsimp only at HX
        unfold aggN at HX
        refine HX.out.mono ?_
        rintro e w7 ⟨x7, rfl, hx7, hr7, hf7⟩
        have hB7 := boxN_frt (b := w.heap.size) (x := zeroN) HB4.out hf7 (by omega)
        have HG := hid (give_stB (B := w.heap.size) (u := zeroN) (x := x7) (P := fun b => w.heap.size < b) (Q := fun b => w.heap.size < b) hrw hbs (Nat.le_refl _) hB7 (hx7.mono fun b hb _ => by have hb' : w4.heap.size ≤ b := hb; omega) (fun b hb => by omega) hr7 (HF4.out.trans hf7) (fun b hb => hb))
        obtain ⟨⟨y0, y1, y2⟩, z0, z1, z2⟩ := boxN_facts (x := zeroN) hB7
        dsimp only [zeroN] at y0 y1 y2
        unfold putN at HG
        clear hx7 hr7 hf7 hB7
        go_wp2_with fail
        refine leavesS_back HG.out.2.2.1 fun W' hc' hf' => ⟨_, node_ret Try.results53 (g := w.heap.size) (x := x7) (boxN_frt HG.out.1 hf' (by omega)) _ rfl, ?_⟩
        exact ⟨_, rfl, (HG.out.2.1.frt hf' fun b hb => by omega).mono fun b hb _ => Nat.le_of_lt hb, hc', HG.out.2.2.2.trans hf'⟩
    rw [if_neg c4] at hR
    have c4' : (wordT L i == [114, 101, 116, 117, 114, 110]) = false := beq_eq_false_iff_ne.2 c4
    have HDn := hid (declarationNext_any hs (by omega) w3 HR3.out)
    by_cases c5 : dcnT L env i = true
    · rw [if_pos c5] at hR
      rw [c5] at HDn
      injection hR with hR
      go_wp2_with fail
      refine HDn.out.mono ?_
      rintro e w4 ⟨rfl, n4, rfl⟩
      have hbd := dN_below (Below.refl w3.heap.size w3) n4
      have HR4 := hid (HR3.out.below hbd)
      have HF4 := hid (HF3.out.trans (FrT.of_below hbd HR3.out.size))
      have HB4 : Hid (_ = some (boxN zeroN)) := (dN_heap w3 w.heap.size n4).trans HB3.out
      have hz4 := lt_of_block HB4.out
      generalize hw4 : w3.drewN n4 = w4 at *
      clear hw4 hbd HR3 HF3 HB3 HDn
      have HX := hid (declaration_any hs hE hne (by omega) w4 HR4.out)
      rw [hR] at HX
      unfold StPost at HX
      go_wp2_with fail
      cases R with
      | error y =>
        dsimp only at HX
        rw [thrown_chain] at HX
        refine HX.out.mono ?_
        rintro e w7 ⟨rfl, hp7, hf7⟩
        obtain ⟨e7, hl7, hp7⟩ := hp7
        exact .inr ⟨_, _, rfl, .inl ⟨rfl, e7, hl7, hp7⟩, fun W' hp' hf' => ⟨rfl, hp', (HF4.out.trans hf7).trans hf'⟩⟩
      | ok y =>
        obtain ⟨n5, j5, env5⟩ := y
        dsimp only at HX
        unfold aggN at HX
        refine HX.out.mono ?_
        rintro e w7 ⟨x7, rfl, hx7, hr7, hf7⟩
        have hB7 := boxN_frt (b := w.heap.size) (x := zeroN) HB4.out hf7 (by omega)
        have HG := hid (give_stB (B := w.heap.size) (u := zeroN) (x := x7) (P := fun b => w.heap.size < b) (Q := fun b => w.heap.size < b) hrw hbs (Nat.le_refl _) hB7 (hx7.mono fun b hb _ => by have hb' : w4.heap.size ≤ b := hb; omega) (fun b hb => by omega) hr7 (HF4.out.trans hf7) (fun b hb => hb))
        obtain ⟨⟨y0, y1, y2⟩, z0, z1, z2⟩ := boxN_facts (x := zeroN) hB7
        dsimp only [zeroN] at y0 y1 y2
        unfold putN at HG
        clear hx7 hr7 hf7 hB7
        go_wp2_with fail
        refine leavesS_back HG.out.2.2.1 fun W' hc' hf' => ⟨_, node_ret Try.results53 (g := w.heap.size) (x := x7) (boxN_frt HG.out.1 hf' (by omega)) _ rfl, ?_⟩
        exact ⟨_, rfl, (HG.out.2.1.frt hf' fun b hb => by omega).mono fun b hb _ => Nat.le_of_lt hb, hc', HG.out.2.2.2.trans hf'⟩
    · rw [if_neg c5] at hR
      rw [Bool.eq_false_iff.2 c5] at HDn
      injection hR with hR
      go_wp2_with fail
      refine HDn.out.mono ?_
      rintro e w4 ⟨rfl, n4, rfl⟩
      have hbd := dN_below (Below.refl w3.heap.size w3) n4
      have HR4 := hid (HR3.out.below hbd)
      have HF4 := hid (HF3.out.trans (FrT.of_below hbd HR3.out.size))
      have HB4 : Hid (_ = some (boxN zeroN)) := (dN_heap w3 w.heap.size n4).trans HB3.out
      have hz4 := lt_of_block HB4.out
      generalize hw4 : w3.drewN n4 = w4 at *
      clear hw4 hbd HR3 HF3 HB3 HDn
      have HX := hid (plain_any hE 9 w4 HR4.out)
      rw [hR] at HX
      unfold StPost at HX
      go_wp2_with fail
      cases R with
      | error y =>
        dsimp only at HX
        rw [thrown_chain] at HX
        refine HX.out.mono ?_
        rintro e w7 ⟨rfl, hp7, hf7⟩
        obtain ⟨e7, hl7, hp7⟩ := hp7
        exact .inr ⟨_, _, rfl, .inl ⟨rfl, e7, hl7, hp7⟩, fun W' hp' hf' => ⟨rfl, hp', (HF4.out.trans hf7).trans hf'⟩⟩
      | ok y =>
        obtain ⟨n5, j5, env5⟩ := y
        dsimp only at HX
        unfold aggN at HX
        refine HX.out.mono ?_
        rintro e w7 ⟨x7, rfl, hx7, hr7, hf7⟩
        have hB7 := boxN_frt (b := w.heap.size) (x := zeroN) HB4.out hf7 (by omega)
        have HG := hid (give_stB (B := w.heap.size) (u := zeroN) (x := x7) (P := fun b => w.heap.size < b) (Q := fun b => w.heap.size < b) hrw hbs (Nat.le_refl _) hB7 (hx7.mono fun b hb _ => by have hb' : w4.heap.size ≤ b := hb; omega) (fun b hb => by omega) hr7 (HF4.out.trans hf7) (fun b hb => hb))
        obtain ⟨⟨y0, y1, y2⟩, z0, z1, z2⟩ := boxN_facts (x := zeroN) hB7
        dsimp only [zeroN] at y0 y1 y2
        unfold putN at HG
        clear hx7 hr7 hf7 hB7
        go_wp2_with fail
        refine leavesS_back HG.out.2.2.1 fun W' hc' hf' => ⟨_, node_ret Try.results53 (g := w.heap.size) (x := x7) (boxN_frt HG.out.1 hf' (by omega)) _ rfl, ?_⟩
        exact ⟨_, rfl, (HG.out.2.1.frt hf' fun b hb => by omega).mono fun b hb _ => Nat.le_of_lt hb, hc', HG.out.2.2.2.trans hf'⟩
end
section
theorem st_all {base r : Nat} {la : Option Addr} {lc : Nat} {L : List Tk} {F : Nat} (hs : Short L) (hE : Enough L F) : ∀ (f g : Nat), g ≤ f → OkS base r la lc L F g ∧ OkB base r la lc L F g ∧ OkK base r la lc L F g
  | 0, g, hg => by
    obtain rfl : g = 0 := by omega
    refine ⟨fun d env i ks R _ _ h => ?_, fun d env i ks R _ _ h => ?_, fun k d env i ks R _ _ _ h => ?_⟩ <;> (unfold stF at h; cases h)
  | f + 1, g, hg => by
    have ih := st_all (base := base) (r := r) (la := la) (lc := lc) hs hE f
    by_cases h : g ≤ f
    · exact ih g h
    · obtain rfl : g = f + 1 := by omega
      have h0 := ih f (Nat.le_refl _)
      exact ⟨statement_step hs hE f h0.1 h0.2.1 h0.2.2, block_step f (fun g hg => (ih g hg).1), asked_step hE f h0.1⟩
end
end Go.Proofs.Ytocklchafmlfkaa
