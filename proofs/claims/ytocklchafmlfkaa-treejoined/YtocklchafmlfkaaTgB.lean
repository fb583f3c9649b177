/- Walks of what reads expressions. · Walks of what reads a part of an expression: single, expression. · Walk of innermost. · Walk of listed, at what reads an expression without a comma. · A region that draws its order: a load is taken first, though the last operation writes there; then one operation after the other. · Walk of behind. · Walk of part; and all that reads expressions, by induction. -/
import Derived.Test.YtocklchafmlfkaaTgA
import Derived.Deep.LoopGhost
import Derived.Test.YtocklchafmlfkaaLoadTail
import Derived.Deep.RegionHeld2
import Derived.Test.YtocklchafmlfkaaAppNone
namespace Go.Proofs.Ytocklchafmlfkaa
section
open Go.RowKit Go.Shelf

set_option maxRecDepth 100000 in
set_option maxHeartbeats 1000000 in
theorem node_any (k : Int) (a : Option Addr) (n c : Nat) (w : World) :
    Calls Try.prog 20 #[.int .i64 k, .slice a n c] w fun e w' => e = .returned (aggN ⟨k, -1, a, n, c⟩) ∧ Below w.heap.size w w' := by
  go_enter Try.func20, Try.ntmps20
  go_wp2_with fail
  refine bodyPost_ret (node_ret (x := ⟨k, -1, a, n, c⟩) Try.results20 (g := w.heap.size) (heap_alloc_new w _) _ rfl) rfl ?_
  exact ⟨rfl, below_new _ _⟩

section
variable (r : Nat) (la : Option Addr) (lc : Nat) (L : List Tk) (vn : Value)
/-- What reading an expression tells, or throws. -/
def ExPost (P : Nat → Prop) (d : Nat) (R : Got (Nd × List Nd × Nat)) (w : World) (e : Ending) (w' : World) : Prop := match R with
  | .ok (n, _, j) => ∃ x, e = .returned (aggN x) ∧ NdIs w' P x n ∧ CrAt w' r la lc L j vn d ∧ Kept (· = r) w w'
  | .error x => e = thrownT x.1 (placeT L x.2) ∧ (∃ i', CrAt w' r la lc L i' vn d) ∧ Kept (· = r) w w'
def Ok0 (f : Nat) : Prop := ∀ (l d i : Nat) (n : Nd) (ks : List Nd) R, exF L f 0 l d i n ks = some R → 1 ≤ l → l ≤ 13 → ∀ w, CrAt w r la lc L i vn d → Calls Try.prog 50 #[.pointer (some ⟨r, 0, none⟩), .int .i64 (l : Int)] w (ExPost r la lc L vn (w.heap.size ≤ ·) d R w)
def Ok2 (f : Nat) : Prop := ∀ (d i : Nat) (n : Nd) (ks : List Nd) R, exF L f 2 0 d i n ks = some R → ∀ w, CrAt w r la lc L i vn d → Calls Try.prog 56 #[.pointer (some ⟨r, 0, none⟩)] w (ExPost r la lc L vn (w.heap.size ≤ ·) d R w)
end

abbrev boxN (x : Nv) : Obj := .cells #[.int .i64 x.kind, .int .i64 x.tok, .slice x.a x.n x.c] 27
def zeroN : Nv := ⟨0, 0, none, 0, 0⟩
/-- A node stored in a block. -/
def putN (W : World) (B : Nat) (x : Nv) : World := ((W.setCell ⟨B, 0, none⟩ (.int .i64 x.kind)).setCell ⟨B, 1, none⟩ (.int .i64 x.tok)).setCell ⟨B, 2, none⟩ (.slice x.a x.n x.c)
theorem putN_other (W : World) (B : Nat) (x : Nv) (g : Nat) (h : g ≠ B) : (putN W B x).heap[g]? = W.heap[g]? := by
  unfold putN
  rw [Below.heap_setCell _ _ _ g h, Below.heap_setCell _ _ _ g h, Below.heap_setCell _ _ _ g h]
theorem putN_block {W : World} {B : Nat} (x : Nv) {u : Nv} (h : W.heap[B]? = some (boxN u)) : (putN W B x).heap[B]? = some (boxN x) := by
  unfold putN
  have g1 := Go.Joins.block_setCell (i := 0) h (.int .i64 x.kind)
  have g2 := Go.Joins.block_setCell (i := 1) g1 (.int .i64 x.tok)
  have g3 := Go.Joins.block_setCell (i := 2) g2 (.slice x.a x.n x.c)
  simpa using g3
theorem putN_size (W : World) (B : Nat) (x : Nv) : (putN W B x).heap.size = W.heap.size := by simp [putN]
theorem putN_kept {X : Nat → Prop} {w W : World} (h : Kept X w W) {B : Nat} (hB : w.heap.size ≤ B) (x : Nv) : Kept X w (putN W B x) := by
  unfold putN
  iterate 3 refine Kept.setFar ?_ hB _
  exact h
theorem boxN_facts {W : World} {g : Nat} {x : Nv} (h : W.heap[g]? = some (boxN x)) : (W.cell? ⟨g, 0, none⟩ = some (.int .i64 x.kind) ∧ W.cell? ⟨g, 1, none⟩ = some (.int .i64 x.tok) ∧ W.cell? ⟨g, 2, none⟩ = some (.slice x.a x.n x.c)) ∧ W.frozen? ⟨g, 0, none⟩ = false ∧ W.frozen? ⟨g, 1, none⟩ = false ∧ W.frozen? ⟨g, 2, none⟩ = false := by
  simp [World.cell?, World.frozen?, h]
theorem CrAt.other {w w' : World} {r : Nat} {la : Option Addr} {lc : Nat} {L : List Tk} {i : Nat} {vn : Value} {d : Nat} (h : CrAt w r la lc L i vn d) {B : Nat} (hr : r < B) (hla : ∀ b off, la = some ⟨b, off, none⟩ → L ≠ [] → b < B) (hz : w.heap.size ≤ w'.heap.size) (hb : ∀ b, b < B → w'.heap[b]? = w.heap[b]?) : CrAt w' r la lc L i vn d := by
  refine ⟨(hb r hr).trans h.box, ?_, h.far, h.le, h.few, h.low⟩
  by_cases hL : L = []
  · exact .inl hL
  rcases h.toks with h0 | ⟨b, off, rfl, hlt, hc⟩
  · exact .inl h0
  · refine .inr ⟨b, off, rfl, Nat.lt_of_lt_of_le hlt hz, fun j x hx k v hv => ?_⟩
    have e := hb b (hla b off rfl hL)
    have := hc j x hx k v hv
    simpa [World.cell?, e] using this
theorem ite_most {c : Prop} [Decidable c] {a b n : Nat} (ha : a ≤ n) (hb : b ≤ n) : (if c then a else b) ≤ n := by
  by_cases h : c
  · rw [if_pos h]; exact ha
  · rw [if_neg h]; exact hb
theorem rightW_le (s : List UInt8) : levelW s ≤ 12 := by
  unfold levelW
  iterate 12 refine ite_most (by omega) ?_
  omega
theorem level_pos {L : List Tk} {i l : Nat} (h : ¬ levelW (wordT L i) < l) (hl : 1 ≤ l) : i < L.length := by
  by_cases hi : i < L.length
  · exact hi
  · have : wordT L i = [] := by unfold wordT; rw [List.getElem?_eq_none (by omega)]
    rw [this] at h
    exact absurd (show levelW [] < l by unfold levelW; simp; omega) h

/-- Ahead of a round: what is read so far. -/
def BtSt (r : Nat) (la : Option Addr) (lc : Nat) (L : List Tk) (vn : Value) (l d : Nat) (R : Got (Nd × List Nd × Nat)) (w : World) (Bn : Nat) (g : Nat) (wr : World) : Prop :=
  ∃ (m : Nd) (ks : List Nd) (j : Nat) (x : Nv), exF L g 1 l (d + 1) j m ks = some R ∧ wr.heap[Bn]? = some (boxN x) ∧ NdIs wr (fun b => w.heap.size < b ∧ b ≠ Bn) x m ∧ CrAt wr r la lc L j vn (d + 1) ∧ Kept (· = r) w wr ∧ wr.heap[w.heap.size]? = some (boxN zeroN)

theorem dN_size (w : World) (n : Nat) : (w.drewN n).heap.size = w.heap.size := rfl
/-- A sign between: its row, its own node, and what is read so far. -/
theorem bt_next {r : Nat} {la : Option Addr} {lc : Nat} {L : List Tk} {vn : Value} {l d : Nat} {R : Got (Nd × List Nd × Nat)} {w : World} {Bn g : Nat} {w6 w8 : World} {Bs j' j2 : Nat} {m' m2 : Nd} {ks' : List Nd} {x' x8 : Nv}
    (hrw : r < w.heap.size) (hla : ∀ b off, la = some ⟨b, off, none⟩ → L ≠ [] → b < w.heap.size) (hBn : w.heap.size < Bn) (hBs : Bn < Bs) (hBs6 : Bs < w6.heap.size)
    (hR : exF L g 1 l (d + 1) j2 (.mk 13 (j' : Int) [m', m2]) ks' = some R)
    (hx : NdIs w6 (fun b => w.heap.size < b ∧ b ≠ Bn ∧ b < Bs) x' m') (hx8 : NdIs w8 (w6.heap.size ≤ ·) x8 m2) (hc8 : CrAt w8 r la lc L j2 vn (d + 1)) (hk0 : Kept (· = r) w w6) (hk6 : Kept (· = r) w6 w8)
    (hs : w6.heap[Bs]? = some (boxN ⟨13, j', none, 0, 0⟩)) (hn : w6.heap[Bn]? = some (boxN x')) (hz : w6.heap[w.heap.size]? = some (boxN zeroN)) :
    BtSt r la lc L vn l d R w Bn g (putN ((w8.alloc (.cells #[.int .i64 x'.kind, .int .i64 x'.tok, .slice x'.a x'.n x'.c, .int .i64 x8.kind, .int .i64 x8.tok, .slice x8.a x8.n x8.c] 27)).setCell ⟨Bs, 2, none⟩ (.slice (some ⟨w8.heap.size, 0, none⟩) 2 2)) Bn ⟨13, j', some ⟨w8.heap.size, 0, none⟩, 2, 2⟩) ∧
    ((w8.alloc (.cells #[.int .i64 x'.kind, .int .i64 x'.tok, .slice x'.a x'.n x'.c, .int .i64 x8.kind, .int .i64 x8.tok, .slice x8.a x8.n x8.c] 27)).setCell ⟨Bs, 2, none⟩ (.slice (some ⟨w8.heap.size, 0, none⟩) 2 2)).heap[Bs]? = some (boxN ⟨13, j', some ⟨w8.heap.size, 0, none⟩, 2, 2⟩) ∧
    ((w8.alloc (.cells #[.int .i64 x'.kind, .int .i64 x'.tok, .slice x'.a x'.n x'.c, .int .i64 x8.kind, .int .i64 x8.tok, .slice x8.a x8.n x8.c] 27)).setCell ⟨Bs, 2, none⟩ (.slice (some ⟨w8.heap.size, 0, none⟩) 2 2)).heap[Bn]? = some (boxN x') := by
  show BtSt r la lc L vn l d R w Bn g (putN ((w8.alloc (.cells (cellsN [x', x8]).toArray 27)).setCell ⟨Bs, 2, none⟩ (.slice (some ⟨w8.heap.size, 0, none⟩) 2 2)) Bn ⟨13, j', some ⟨w8.heap.size, 0, none⟩, 2, 2⟩) ∧
    ((w8.alloc (.cells (cellsN [x', x8]).toArray 27)).setCell ⟨Bs, 2, none⟩ (.slice (some ⟨w8.heap.size, 0, none⟩) 2 2)).heap[Bs]? = some (boxN ⟨13, j', some ⟨w8.heap.size, 0, none⟩, 2, 2⟩) ∧
    ((w8.alloc (.cells (cellsN [x', x8]).toArray 27)).setCell ⟨Bs, 2, none⟩ (.slice (some ⟨w8.heap.size, 0, none⟩) 2 2)).heap[Bn]? = some (boxN x')
  have hz6 := hk6.size
  have hb8 := below_new w8 (.cells (cellsN [x', x8]).toArray 27)
  have hs8 : w8.heap[Bs]? = _ := (hk6.block _ hBs6 (by omega)).trans hs
  have hn8 : w8.heap[Bn]? = _ := (hk6.block _ (by omega) (by omega)).trans hn
  have hz8 : w8.heap[w.heap.size]? = _ := (hk6.block _ (by omega) (by omega)).trans hz
  have hsa := (hb8.block _ (by omega)).trans hs8
  have hna := (hb8.block _ (by omega)).trans hn8
  have hza := (hb8.block _ (by omega)).trans hz8
  have hsb := Go.Joins.block_setCell (i := 2) hsa (.slice (some ⟨w8.heap.size, 0, none⟩) 2 2)
  have hkids : KidsAt (w8.alloc (.cells (cellsN [x', x8]).toArray 27)) (fun b => w.heap.size < b ∧ b ≠ Bn ∧ b ≠ Bs) (.slice (some ⟨w8.heap.size, 0, none⟩) 2 2) [m', m2] := by
    refine kids_new (P := fun b => w.heap.size < b ∧ b ≠ Bn ∧ b ≠ Bs) (NdsIs.two ?_ ?_) (by simp) (fun b hb _ => hb) ⟨by omega, by omega, by omega⟩
    · exact (hx.kept fun b hb hlt => hk6.block b hlt (by omega)).mono fun b hb _ => ⟨hb.1, hb.2.1, by omega⟩
    · exact hx8.mono fun b hb _ => ⟨by omega, by omega, by omega⟩
  refine ⟨⟨.mk 13 (j' : Int) [m', m2], ks', j2, _, hR, putN_block _ (u := x') ?_, ⟨rfl, rfl, ?_⟩, ?_, ?_, ?_⟩, ?_, ?_⟩
  · rw [Below.heap_setCell _ _ _ _ (by show Bn ≠ Bs; omega)]; exact hna
  · refine ((hkids.kept fun b hb _ => ?_).kept fun b hb _ => putN_other _ _ _ _ hb.2.1).mono fun b hb _ => ⟨hb.1, hb.2.1⟩
    exact Below.heap_setCell _ _ _ _ (by show b ≠ Bs; exact hb.2.2)
  · refine (hc8.below hb8).other hrw hla (by rw [putN_size]; simp) fun b hb => ?_
    rw [putN_other _ _ _ _ (by omega), Below.heap_setCell _ _ _ _ (by show b ≠ Bs; omega)]
  · exact putN_kept (Kept.setFar ((hk0.trans hk6).trans (kept_of_below hb8)) (by show w.heap.size ≤ Bs; omega) _) (by omega) _
  · rw [putN_other _ _ _ _ (by omega), Below.heap_setCell _ _ _ _ (by show w.heap.size ≠ Bs; omega)]; exact hza
  · refine hsb.trans ?_; rfl
  · rw [Below.heap_setCell _ _ _ _ (by show Bn ≠ Bs; omega)]; exact hna

set_option maxRecDepth 100000 in
set_option maxHeartbeats 2000000 in
theorem between_step {r : Nat} {la : Option Addr} {lc : Nat} {L : List Tk} {vn : Value} (f : Nat) (h0 : ∀ g, g ≤ f → Ok0 r la lc L vn g) (h2 : Ok2 r la lc L vn f) : Ok0 r la lc L vn (f + 1) := by
  intro l d i n ks R hR hl1 hl2 w hw
  have h := hw.below (below_new w (boxN zeroN))
  have HK0 := hid (kept_of_below (X := (· = r)) (below_new w (boxN zeroN)))
  have HN0 := hid (heap_alloc_new w (boxN zeroN))
  have hrw := hw.lt
  have hla : ∀ b off, la = some ⟨b, off, none⟩ → L ≠ [] → b < w.heap.size := fun b off e hne => by
    rcases hw.toks with h0 | ⟨b', off', e', hlt, _⟩
    · exact absurd h0 hne
    · rw [e] at e'; cases e'; exact hlt
  clear hw
  have HE := hid (quiet_at fun n => partNext_any _ (h.draws n))
  have HEb := hid (fun n => enter_any (partT L i) _ (h.draws n))
  have HB := hid (fun n => dN_below (Below.refl (w.alloc (boxN zeroN)).heap.size (w.alloc (boxN zeroN))) n)
  unfold EnterPost at HEb
  rw [exF] at hR
  unfold ExPost
  dsimp only [boxN, zeroN] at *
  cases hs : stopT L (partT L i) d i with
  | some x =>
    rw [hs] at hR HEb
    cases hR
    generalize partT L i = b at *
    dsimp only at HEb ⊢
    have HD := hid h
    unfold thrownT at HEb ⊢
    clear h h0 h2
    go_enter_defers Try.func50, Try.ntmps50
    go_wp2_with fail
    generalize w.alloc (.cells #[.int .i64 0, .int .i64 0, .slice none 0 0] 27) = w0 at *
    refine (HE.out _ ⟨0, rfl⟩).mono ?_
    rintro e w1 ⟨rfl, n1, rfl⟩
    go_wp2_with fail
    refine (HEb.out _).mono ?_
    rintro e w2 ⟨rfl, hb2⟩
    go_wp2_with fail
    have hb3 := (HB.out n1).trans (hb2.mono (HB.out n1).size)
    exact ⟨rfl, ⟨i, HD.out.below hb3⟩, HK0.out.trans (kept_of_below hb3)⟩
  | none =>
    rw [hs] at hR HEb
    cases h2r : exF L f 2 0 (d + 1) i n ks with
    | none => rw [h2r] at hR; cases hR
    | some R2 =>
      rw [h2r] at hR
      have HP := hid (h2 (d + 1) i n ks R2 h2r)
      unfold ExPost at HP
      cases R2 with
      | error x =>
        cases hR
        dsimp only at HEb HP ⊢
        generalize partT L i = b at *
        clear h2r hs h2 h h0
        go_enter_defers Try.func50, Try.ntmps50
        go_wp2_with fail
        generalize w.alloc (.cells #[.int .i64 0, .int .i64 0, .slice none 0 0] 27) = w0 at *
        refine (HE.out _ ⟨0, rfl⟩).mono ?_
        rintro e w1 ⟨rfl, n1, rfl⟩
        go_wp2_with fail
        refine (HEb.out _).mono ?_
        rintro e w2 ⟨rfl, hc2, hk2⟩
        have HK2 := hid ((HK0.out.trans (kept_of_below (HB.out n1))).trans hk2)
        have HC2 := hid hc2
        clear hk2 hc2
        go_wp2_with fail
        refine (HP.out _ HC2.out).mono ?_
        rintro e w3 ⟨rfl, ⟨i', hc3⟩, hk3⟩
        have HC3 := hid hc3
        have HK3 := hid (HK2.out.trans hk3)
        clear hc3 hk3
        rw [thrown_chain]
        go_wp2_with fail
        exact leaves_thrown _ _ HC3.out fun W' hc' hk' => ⟨rfl, ⟨i', hc'⟩, HK3.out.trans hk'⟩
      | ok y =>
        obtain ⟨m, ks2, j⟩ := y
        dsimp only at hR HEb HP
        generalize partT L i = b at *
        clear h2r hs h2 h
        go_enter_defers Try.func50, Try.ntmps50
        refine Code.wp_mono (postL_imp (r := r) (la := la) (lc := lc) (L := L) (vn := vn) (d := d)) ?_
        go_wp2_with fail
        generalize w.alloc (.cells #[.int .i64 0, .int .i64 0, .slice none 0 0] 27) = w0 at *
        refine (HE.out _ ⟨0, rfl⟩).mono ?_
        rintro e w1 ⟨rfl, n1, rfl⟩
        go_wp2_with fail
        refine (HEb.out _).mono ?_
        rintro e w2 ⟨rfl, hc2, hk2⟩
        have HK2 := hid ((HK0.out.trans (kept_of_below (HB.out n1))).trans hk2)
        have HC2 := hid hc2
        have HN2 : Hid (w2.heap[w.heap.size]? = some (.cells #[.int .i64 0, .int .i64 0, .slice none 0 0] 27)) := (hk2.block _ (lt_of_block ((dN_heap _ _ _).trans HN0.out)) (by omega)).trans ((dN_heap _ _ _).trans HN0.out)
        clear hk2 hc2
        go_wp2_with fail
        refine (HP.out _ HC2.out).mono ?_
        rintro e w3 ⟨x, rfl, hx3, hc3, hk3⟩
        have hz2 := lt_of_block HN2.out
        have hz3 := hk3.size
        have HN3 := hid ((hk3.block _ (lt_of_block HN2.out) (by omega)).trans HN2.out)
        have HSt : Hid (BtSt r la lc L vn l d R w w3.heap.size f (w3.alloc (boxN x))) := ⟨m, ks, j, x, hR, heap_alloc_new _ _, (hx3.mono fun b hb hlt => ⟨by omega, by omega⟩).kept fun b _ hlt => (below_new _ _).block b hlt, hc3.below (below_new _ _), (HK2.out.trans hk3).trans (kept_of_below (below_new _ _)), ((below_new _ _).block _ (lt_of_block HN3.out)).trans HN3.out⟩
        have hBn : w.heap.size < w3.heap.size := by omega
        clear hx3 hc3 hk3 HK2 HC2 HN2 HN3 HP HEb HE HB HK0 HN0 hR hz2 hz3
        unfold aggN
        go_wp2_with fail
        generalize w3.alloc (boxN x) = w4 at HSt ⊢
        generalize w3.heap.size = Bn at *
        go_loopg [] f (fun g wr => g ≤ f ∧ Hid (BtSt r la lc L vn l d R w Bn g wr))
        case atStart => exact ⟨Nat.le_refl _, HSt⟩
        case round =>
          obtain ⟨hgf, hrel⟩ := hrel
          obtain ⟨m', ks', j', x', hR', hn', hx', hc', hk', hz'⟩ := hrel.out
          have HW := hid (quiet_at fun n => word_any _ (hc'.draws n))
          have HLv := hid (quiet_at (w := wr) fun n => levelOf_any (wrdB L j') (wr.drewN n))
          rw [wrdB_is] at HLv
          obtain ⟨g, rfl⟩ : ∃ g, gk = g + 1 := by
            cases gk with
            | zero => rw [exF] at hR'; cases hR'
            | succ g => exact ⟨g, rfl⟩
          rw [exF] at hR'
          have HHc := hid (fun n => hc'.draws n)
          have HHk := hid (fun n => hk'.trans (kept_of_below (dN_below (Below.refl wr.heap.size wr) n)))
          have HHn := hid (fun n => (dN_heap wr Bn n).trans hn')
          have HHz := hid (fun n => (dN_heap wr w.heap.size n).trans hz')
          have HHx := hid (fun n => hx'.kept (w' := wr.drewN n) (fun b _ _ => dN_heap wr b n))
          have hlt' := level_pos (L := L) (i := j') (l := l)
          clear hc' hk' hx' hz' hn' hrel
          by_cases hlv : levelW (wordT L j') < l
          · rw [if_pos hlv] at hR'
            cases hR'
            have hli : ((levelW (wordT L j') : Nat) : Int) < (l : Int) := by omega
            go_wp2_with (first | (go_at_call 28; refine (HW.out _ ⟨0, rfl⟩).mono ?_; rintro e w1 ⟨rfl, n1, rfl⟩) | (go_at_call 57; refine (HLv.out _ ⟨_, rfl⟩).mono ?_; rintro e w1 ⟨rfl, n2, rfl⟩; obtain ⟨⟨x0, x1, x2⟩, y0, y1, y2⟩ := boxN_facts (HHn.out n2); obtain ⟨⟨z0, z1, z2⟩, v0, v1, v2⟩ := boxN_facts (HHz.out n2)))
            have hcp : CrAt (putN (wr.drewN n2) w.heap.size x') r la lc L j' vn (d + 1) := (HHc.out n2).other hrw hla (by rw [putN_size]; exact Nat.le_refl _) fun b hb => putN_other _ _ _ _ (by omega)
            have hkp : Kept (· = r) w (putN (wr.drewN n2) w.heap.size x') := putN_kept (HHk.out n2) (Nat.le_refl _) x'
            have hbp := putN_block x' (HHz.out n2)
            have hxp : NdIs (putN (wr.drewN n2) w.heap.size x') (w.heap.size < ·) x' m' := ((HHx.out n2).mono fun b hb _ => hb.1).kept fun b hb _ => putN_other _ _ _ _ (by omega)
            refine leaves_back hcp fun W' hc' hk' => ⟨_, node_ret Try.results50 (g := w.heap.size) (x := x') ((hk'.block _ (lt_of_block hbp) (by omega)).trans hbp) _ rfl, ?_⟩
            exact ⟨x', rfl, (hxp.kept fun b hb hlt => hk'.block b hlt (by omega)).mono fun b hb _ => Nat.le_of_lt hb, hc', hkp.trans hk'⟩
          · rw [if_neg hlv] at hR'
            have hli : ¬ ((levelW (wordT L j') : Nat) : Int) < (l : Int) := by omega
            have hjl := hlt' hlv hl1
            have HT := hid (fun n => take_any 13 _ (HHc.out n) hjl)
            have HRt := hid (fun W => rightOf_any (levelW (wordT L j')) (rightW_le _) W)
            have hlb := rightW_le (wordT L j')
            have hrl : rightW (levelW (wordT L j')) ≤ 13 := by unfold rightW; split <;> omega
            have hr1 : 1 ≤ rightW (levelW (wordT L j')) := by unfold rightW; split <;> omega
            unfold aggN at HT
            dsimp only at HT
            cases hb0 : exF L g 0 (rightW (levelW (wordT L j'))) (d + 1) (j' + 1) m' ks' with
            | none => rw [hb0] at hR'; cases hR'
            | some R3 =>
              rw [hb0] at hR'
              have HBt := hid (h0 g (by omega) _ _ _ _ _ R3 hb0 hr1 hrl)
              unfold ExPost at HBt
              generalize rightW (levelW (wordT L j')) = rl at *
              cases R3 with
              | error y =>
                cases hR'
                dsimp only at HBt ⊢
                rw [thrown_chain] at HBt
                go_wp2_with (first | (go_at_call 28; refine (HW.out _ ⟨0, rfl⟩).mono ?_; rintro e w1 ⟨rfl, n1, rfl⟩) | (go_at_call 57; refine (HLv.out _ ⟨_, rfl⟩).mono ?_; rintro e w1 ⟨rfl, n2, rfl⟩) | (go_at_call 39; refine (HT.out _).mono ?_; rintro e w5 ⟨rfl, hc5, hk5⟩))
                have HC5 := hid (hc5.below (below_new w5 (boxN ⟨13, j', none, 0, 0⟩)))
                have HK5 := hid (((HHk.out n2).trans hk5).trans (kept_of_below (below_new w5 (boxN ⟨13, j', none, 0, 0⟩))))
                have HN5 := hid (((below_new w5 (boxN ⟨13, j', none, 0, 0⟩)).block _ (hk5.less (lt_of_block (HHn.out n2)))).trans ((hk5.block _ (lt_of_block (HHn.out n2)) (by omega)).trans (HHn.out n2)))
                dsimp only [boxN] at HC5 HK5 HN5
                clear hc5 hk5
                generalize w5.alloc (.cells #[.int .i64 13, .int .i64 (j' : Int), .slice none 0 0] 27) = w6 at *
                obtain ⟨⟨x0, x1, x2⟩, _⟩ := boxN_facts HN5.out
                have HS5 := hid (fun W (hb : Below w6.heap.size w6 W) => (boxN_facts ((hb.block _ (lt_of_block HN5.out)).trans HN5.out)).1)
                refine wp_region_held_drew (S := fun W => W.cell? ⟨Bn, 0, none⟩ = some (.int .i64 x'.kind) ∧ W.cell? ⟨Bn, 1, none⟩ = some (.int .i64 x'.tok) ∧ W.cell? ⟨Bn, 2, none⟩ = some (.slice x'.a x'.n x'.c)) (by kernel_rfl) (HS5.out _ (Below.refl _ _).drew) (fun hHeld => ?_)
                refine wpAnyH_take (i := 0) (v := .agg #[.int .i64 x'.kind, .int .i64 x'.tok, .slice x'.a x'.n x'.c]) rfl (by kernel_rfl) (by kernel_rfl) (by kernel_rfl) (fun _ _ _ h => h) (Or.inl ⟨by rfl, ?_⟩) hHeld ?_
                · intro W hSw
                  try dsimp only at hSw
                  go_simp
                refine wpAnyH_take (i := 1) (v := .pointer (some ⟨r, 0, none⟩)) rfl (by kernel_rfl) (by kernel_rfl) (by kernel_rfl) (fun _ _ _ h => h) (Or.inl ⟨by rfl, ?_⟩) hHeld ?_
                · intro W hSw
                  go_simp
                refine wpAnyH_take (i := 2) (v := .int .i64 (levelW (wordT L j') : Int)) rfl (by kernel_rfl) (by kernel_rfl) (by kernel_rfl) (fun _ _ _ h => h) (Or.inl ⟨by rfl, ?_⟩) hHeld ?_
                · intro W hSw
                  go_simp
                refine wpAnyH_ready (rs := [3]) (by kernel_rfl) (by simp) (AllReadyH.cons rfl (fun K hK => ?_) AllReadyH.nil)
                go_simp
                go_wp2_with (go_at_call 58; refine (HRt.out _).mono ?_; rintro e w7 ⟨rfl, n7, rfl⟩)
                refine hK.out _ _ (HS5.out _ (by first | exact dN_below (Below.refl _ _) _ | exact (Below.refl _ _).drew)) (fun hHeld => ?_)
                clear hK K
                refine wpAnyH_ready (rs := [4]) (by kernel_rfl) (by simp) (AllReadyH.cons rfl (fun K hK => ?_) AllReadyH.nil)
                go_simp
                go_wp2_with (go_at_call 50; refine (HBt.out _ (HC5.out.below (by first | exact dN_below (Below.refl _ _) _ | exact (Below.refl _ _).drew))).mono ?_; rintro e w8 ⟨rfl, ⟨i8, hc8⟩, hk8⟩)
                exact .inr ⟨rfl, _, _, i8, rfl, hc8, fun W' hc' hk' => ⟨rfl, ⟨i8, hc'⟩, ((HK5.out.trans (kept_of_below (by first | exact dN_below (Below.refl _ _) _ | exact (Below.refl _ _).drew))).trans hk8).trans hk'⟩⟩
              | ok y =>
                obtain ⟨m2, ks3, j2⟩ := y
                dsimp only at HBt hR'
                unfold aggN at HBt
                go_wp2_with (first | (go_at_call 28; refine (HW.out _ ⟨0, rfl⟩).mono ?_; rintro e w1 ⟨rfl, n1, rfl⟩) | (go_at_call 57; refine (HLv.out _ ⟨_, rfl⟩).mono ?_; rintro e w1 ⟨rfl, n2, rfl⟩) | (go_at_call 39; refine (HT.out _).mono ?_; rintro e w5 ⟨rfl, hc5, hk5⟩))
                have HC5 := hid (hc5.below (below_new w5 (boxN ⟨13, j', none, 0, 0⟩)))
                have HK5 := hid (((HHk.out n2).trans hk5).trans (kept_of_below (below_new w5 (boxN ⟨13, j', none, 0, 0⟩))))
                have HN5 := hid (((below_new w5 (boxN ⟨13, j', none, 0, 0⟩)).block _ (hk5.less (lt_of_block (HHn.out n2)))).trans ((hk5.block _ (lt_of_block (HHn.out n2)) (by omega)).trans (HHn.out n2)))
                dsimp only [boxN] at HC5 HK5 HN5
                have HX5 := hid ((((HHx.out n2).kept fun b hb hlt => hk5.block b hlt (by omega)).mono (Q := fun b => w.heap.size < b ∧ b ≠ Bn ∧ b < w5.heap.size) fun b hb hlt => ⟨hb.1, hb.2, hlt⟩).kept fun b hb hlt => (below_new w5 (boxN ⟨13, j', none, 0, 0⟩)).block b hlt)
                have HS6 := hid (heap_alloc_new w5 (boxN ⟨13, j', none, 0, 0⟩))
                have HZ5 := hid (((below_new w5 (boxN ⟨13, j', none, 0, 0⟩)).block _ (hk5.less (lt_of_block (HHz.out n2)))).trans ((hk5.block _ (lt_of_block (HHz.out n2)) (by omega)).trans (HHz.out n2)))
                have hBn5 : Bn < w5.heap.size := hk5.less (lt_of_block (HHn.out n2))
                have hs56 : w5.heap.size < (w5.alloc (boxN ⟨13, j', none, 0, 0⟩)).heap.size := by simp
                dsimp only [boxN] at HX5 HS6 HZ5 hs56
                clear hc5 hk5
                generalize w5.alloc (.cells #[.int .i64 13, .int .i64 (j' : Int), .slice none 0 0] 27) = w6 at *
                obtain ⟨⟨x0, x1, x2⟩, _⟩ := boxN_facts HN5.out
                have HS5 := hid (fun W (hb : Below w6.heap.size w6 W) => (boxN_facts ((hb.block _ (lt_of_block HN5.out)).trans HN5.out)).1)
                refine wp_region_held_drew (S := fun W => W.cell? ⟨Bn, 0, none⟩ = some (.int .i64 x'.kind) ∧ W.cell? ⟨Bn, 1, none⟩ = some (.int .i64 x'.tok) ∧ W.cell? ⟨Bn, 2, none⟩ = some (.slice x'.a x'.n x'.c)) (by kernel_rfl) (HS5.out _ (Below.refl _ _).drew) (fun hHeld => ?_)
                refine wpAnyH_take (i := 0) (v := .agg #[.int .i64 x'.kind, .int .i64 x'.tok, .slice x'.a x'.n x'.c]) rfl (by kernel_rfl) (by kernel_rfl) (by kernel_rfl) (fun _ _ _ h => h) (Or.inl ⟨by rfl, ?_⟩) hHeld ?_
                · intro W hSw
                  try dsimp only at hSw
                  go_simp
                refine wpAnyH_take (i := 1) (v := .pointer (some ⟨r, 0, none⟩)) rfl (by kernel_rfl) (by kernel_rfl) (by kernel_rfl) (fun _ _ _ h => h) (Or.inl ⟨by rfl, ?_⟩) hHeld ?_
                · intro W hSw
                  go_simp
                refine wpAnyH_take (i := 2) (v := .int .i64 (levelW (wordT L j') : Int)) rfl (by kernel_rfl) (by kernel_rfl) (by kernel_rfl) (fun _ _ _ h => h) (Or.inl ⟨by rfl, ?_⟩) hHeld ?_
                · intro W hSw
                  go_simp
                refine wpAnyH_ready (rs := [3]) (by kernel_rfl) (by simp) (AllReadyH.cons rfl (fun K hK => ?_) AllReadyH.nil)
                go_simp
                go_wp2_with (go_at_call 58; refine (HRt.out _).mono ?_; rintro e w7 ⟨rfl, n7, rfl⟩)
                refine hK.out _ _ (HS5.out _ (by first | exact dN_below (Below.refl _ _) _ | exact (Below.refl _ _).drew)) (fun hHeld => ?_)
                clear hK K
                refine wpAnyH_ready (rs := [4]) (by kernel_rfl) (by simp) (AllReadyH.cons rfl (fun K hK => ?_) AllReadyH.nil)
                go_simp
                go_wp2_with (go_at_call 50; refine (HBt.out _ (HC5.out.below (by first | exact dN_below (Below.refl _ _) _ | exact (Below.refl _ _).drew))).mono ?_; rintro e w8 ⟨x8, rfl, hx8, hc8, hk8⟩)
                have hk6 : Kept (· = r) w6 w8 := (kept_of_below (by first | exact dN_below (Below.refl _ _) _ | exact (Below.refl _ _).drew)).trans hk8
                have hN8 := (hk6.block _ (lt_of_block HN5.out) (by omega)).trans HN5.out
                obtain ⟨q1, q2, q3⟩ := bt_next (x8 := x8) hrw hla hBn hBn5 hs56 hR' HX5.out hx8 hc8 HK5.out hk6 HS6.out HN5.out HZ5.out
                have HQ1 := hid q1
                have HQ2 := hid q2
                have HQ3 := hid q3
                have HA8 := hid (below_new w8 (.cells #[.int .i64 x'.kind, .int .i64 x'.tok, .slice x'.a x'.n x'.c, .int .i64 x8.kind, .int .i64 x8.tok, .slice x8.a x8.n x8.c] 27))
                have hS8 := (boxN_facts ((HA8.out.block _ (lt_of_block hN8)).trans hN8)).1
                have hT8 := boxN_facts (x := ⟨13, j', none, 0, 0⟩) ((HA8.out.block _ (hk6.less (lt_of_block HS6.out))).trans ((hk6.block _ (lt_of_block HS6.out) (by omega)).trans HS6.out))
                refine hK.out _ _ (boxN_facts hN8).1 (fun hHeld => ?_)
                clear hK K q1 q2 q3 hx8 hc8 hk8
                refine wpAnyH_ready (rs := [5]) (by kernel_rfl) (by simp) (AllReadyH.cons rfl (fun K hK => ?_) AllReadyH.nil)
                go_simp
                refine hK.out _ _ hS8 (fun hHeld => ?_)
                clear hK K
                refine wpAnyH_ready (rs := [6]) (by kernel_rfl) (by simp) (AllReadyH.cons rfl (fun K hK => ?_) AllReadyH.nil)
                go_simp
                refine hK.out _ _ hS8 (fun hHeld => ?_)
                clear hK K
                obtain ⟨⟨t0, t1, t2⟩, f0, f1, f2⟩ := hT8
                dsimp only at t0 t1 t2
                refine wpAnyH_ready (rs := [7]) (by kernel_rfl) (by simp) (AllReadyH.cons rfl (fun K hK => ?_) AllReadyH.nil)
                go_simp
                refine hK.out _ _ (boxN_facts HQ3.out).1 (fun hHeld => ?_)
                clear hK K t0 t1 t2 f0 f1 f2
                refine wpAnyH_done (by kernel_rfl) ?_ _
                obtain ⟨⟨t0, t1, t2⟩, _⟩ := boxN_facts HQ2.out
                obtain ⟨_, f0, f1, f2⟩ := boxN_facts HQ3.out
                dsimp only at t0 t1 t2
                go_wp2_with fail
                go_roundg g
                case rel => exact ⟨by omega, HQ1.out⟩
                case measure => omega
end
section
open Go.RowKit Go.Shelf

/-- A function begins: its result lies in a new block. -/
theorem begin_at {w : World} {r : Nat} {la : Option Addr} {lc : Nat} {L : List Tk} {i : Nat} {vn : Value} {d : Nat} (h : CrAt w r la lc L i vn d) :
    r < w.heap.size ∧ (∀ b off, la = some ⟨b, off, none⟩ → L ≠ [] → b < w.heap.size) ∧ (w.alloc (boxN zeroN)).heap.size = w.heap.size + 1 ∧ (w.alloc (boxN zeroN)).heap[w.heap.size]? = some (boxN zeroN) ∧ Kept (· = r) w (w.alloc (boxN zeroN)) := by
  refine ⟨h.lt, fun b off e hne => ?_, by simp, heap_alloc_new _ _, kept_of_below (below_new _ _)⟩
  rcases h.toks with h0 | ⟨b', off', e', hlt, _⟩
  · exact absurd h0 hne
  · rw [e] at e'; cases e'; exact hlt
/-- What is laid into the result's block is what comes back. -/
theorem give_ret {r : Nat} {la : Option Addr} {lc : Nat} {L : List Tk} {vn : Value} {d : Nat} {w W : World} {x u : Nv} {n : Nd} {j : Nat} {P Q : Nat → Prop} (hrw : r < w.heap.size) (hla : ∀ b off, la = some ⟨b, off, none⟩ → L ≠ [] → b < w.heap.size) (hz : W.heap[w.heap.size]? = some (boxN u)) (hx : NdIs W P x n) (hP : ∀ b, P b → b ≠ w.heap.size) (hc : CrAt W r la lc L j vn d) (hk : Kept (· = r) w W) (hQ : ∀ b, P b → Q b) :
    (∀ (fn : Func) {k : Nat} (_ : fn.results = #[.cell k 27]) (tmps : Array Value) (_ : tmps.getD k undef = .pointer (some ⟨w.heap.size, 0, none⟩)), (results fn tmps).run Try.prog (putN W w.heap.size x) = .ok (aggN x) (putN W w.heap.size x)) ∧
    NdIs (putN W w.heap.size x) Q x n ∧ CrAt (putN W w.heap.size x) r la lc L j vn d ∧ Kept (· = r) w (putN W w.heap.size x) :=
  ⟨fun fn k hr tmps hp => node_ret hr (putN_block x hz) tmps hp, (hx.kept fun b hb _ => putN_other _ _ _ _ (hP b hb)).mono fun b hb _ => hQ b hb, hc.other hrw hla (by rw [putN_size]; exact Nat.le_refl _) fun b hb => putN_other _ _ _ _ (by omega), putN_kept hk (Nat.le_refl _) x⟩

set_option maxRecDepth 100000 in
set_option maxHeartbeats 1000000 in
theorem single_step {r : Nat} {la : Option Addr} {lc : Nat} {L : List Tk} {vn : Value} {f : Nat} (h0 : Ok0 r la lc L vn f) (d i : Nat) (n : Nd) (ks : List Nd) (R : Got (Nd × List Nd × Nat)) (hR : exF L f 0 2 d i n ks = some R) (w : World) (h : CrAt w r la lc L i vn d) :
    Calls Try.prog 54 #[.pointer (some ⟨r, 0, none⟩)] w (ExPost r la lc L vn (w.heap.size ≤ ·) d R w) := by
  have HB := hid (h0 2 d i n ks R hR (by omega) (by omega) (w.alloc (boxN zeroN)) (h.below (below_new _ _)))
  have HZ := hid (begin_at h)
  unfold ExPost at HB ⊢
  dsimp only [boxN, zeroN] at HZ HB
  clear h h0
  cases R with
  | error x =>
    dsimp only at HB ⊢
    rw [thrown_chain] at HB ⊢
    go_enter Try.func54, Try.ntmps54
    go_wp2_with fail
    refine HB.out.mono ?_
    rintro e w2 ⟨rfl, ⟨i', hc2⟩, hk2⟩
    exact ⟨rfl, rfl, ⟨i', hc2⟩, HZ.out.2.2.2.2.trans hk2⟩
  | ok y =>
    obtain ⟨m, ks', j⟩ := y
    dsimp only at HB ⊢
    unfold aggN at HB
    go_enter Try.func54, Try.ntmps54
    go_wp2_with fail
    refine HB.out.mono ?_
    rintro e w2 ⟨x, rfl, hx2, hc2, hk2⟩
    have HG := hid (give_ret (u := zeroN) (w := w) (W := w2) (x := x) (n := m) (P := (w.heap.size < ·)) HZ.out.1 HZ.out.2.1 ((hk2.block _ (by rw [HZ.out.2.2.1]; omega) (by have := HZ.out.1; omega)).trans HZ.out.2.2.2.1) (hx2.mono fun b hb _ => by rw [HZ.out.2.2.1] at hb; omega) (fun b hb => by omega) hc2 (HZ.out.2.2.2.2.trans hk2) (fun b hb => Nat.le_of_lt hb))
    obtain ⟨_, z0, z1, z2⟩ := boxN_facts (x := zeroN) ((hk2.block _ (by rw [HZ.out.2.2.1]; omega) (by have := HZ.out.1; omega)).trans HZ.out.2.2.2.1)
    obtain ⟨⟨y0, y1, y2⟩, _⟩ := boxN_facts (x := zeroN) ((hk2.block _ (by rw [HZ.out.2.2.1]; omega) (by have := HZ.out.1; omega)).trans HZ.out.2.2.2.1)
    dsimp only [zeroN] at y0 y1 y2
    clear hx2 hc2 hk2
    go_wp2_with fail
    exact bodyPost_ret (HG.out.1 _ Try.results54 _ rfl) rfl ⟨x, rfl, HG.out.2⟩

set_option maxRecDepth 100000 in
set_option maxHeartbeats 1000000 in
theorem expression_step {r : Nat} {la : Option Addr} {lc : Nat} {L : List Tk} {vn : Value} {f : Nat} (h0 : Ok0 r la lc L vn f) (d i : Nat) (n : Nd) (ks : List Nd) (R : Got (Nd × List Nd × Nat)) (hR : exF L f 0 1 d i n ks = some R) (w : World) (h : CrAt w r la lc L i vn d) :
    Calls Try.prog 41 #[.pointer (some ⟨r, 0, none⟩)] w (ExPost r la lc L vn (w.heap.size ≤ ·) d R w) := by
  have HB := hid (h0 1 d i n ks R hR (by omega) (by omega) (w.alloc (boxN zeroN)) (h.below (below_new _ _)))
  have HZ := hid (begin_at h)
  unfold ExPost at HB ⊢
  dsimp only [boxN, zeroN] at HZ HB
  clear h h0
  cases R with
  | error x =>
    dsimp only at HB ⊢
    rw [thrown_chain] at HB ⊢
    go_enter Try.func41, Try.ntmps41
    go_wp2_with fail
    refine HB.out.mono ?_
    rintro e w2 ⟨rfl, ⟨i', hc2⟩, hk2⟩
    exact ⟨rfl, rfl, ⟨i', hc2⟩, HZ.out.2.2.2.2.trans hk2⟩
  | ok y =>
    obtain ⟨m, ks', j⟩ := y
    dsimp only at HB ⊢
    unfold aggN at HB
    go_enter Try.func41, Try.ntmps41
    go_wp2_with fail
    refine HB.out.mono ?_
    rintro e w2 ⟨x, rfl, hx2, hc2, hk2⟩
    have HG := hid (give_ret (u := zeroN) (w := w) (W := w2) (x := x) (n := m) (P := (w.heap.size < ·)) HZ.out.1 HZ.out.2.1 ((hk2.block _ (by rw [HZ.out.2.2.1]; omega) (by have := HZ.out.1; omega)).trans HZ.out.2.2.2.1) (hx2.mono fun b hb _ => by rw [HZ.out.2.2.1] at hb; omega) (fun b hb => by omega) hc2 (HZ.out.2.2.2.2.trans hk2) (fun b hb => Nat.le_of_lt hb))
    obtain ⟨_, z0, z1, z2⟩ := boxN_facts (x := zeroN) ((hk2.block _ (by rw [HZ.out.2.2.1]; omega) (by have := HZ.out.1; omega)).trans HZ.out.2.2.2.1)
    obtain ⟨⟨y0, y1, y2⟩, _⟩ := boxN_facts (x := zeroN) ((hk2.block _ (by rw [HZ.out.2.2.1]; omega) (by have := HZ.out.1; omega)).trans HZ.out.2.2.2.1)
    dsimp only [zeroN] at y0 y1 y2
    clear hx2 hc2 hk2
    go_wp2_with fail
    exact bodyPost_ret (HG.out.1 _ Try.results41 _ rfl) rfl ⟨x, rfl, HG.out.2⟩
end
section
open Go.RowKit Go.Shelf

/-- What innermost comes to. -/
def inR (L : List Tk) (f d i : Nat) (n : Nd) (ks : List Nd) : Option (Got (Nd × List Nd × Nat)) :=
  if wordT L i = [40] then match exF L f 0 1 d (i + 1) n ks with
    | none => none
    | some (.error x) => some (.error x)
    | some (.ok (m, ks', j)) => if wordT L j = [41] then some (.ok (m, ks', j + 1)) else some (.error (2, j))
  else if nameT L i = true then some (.ok (.mk 10 (i : Int) [], ks, i + 1)) else some (.ok (.mk 11 (i : Int) [], ks, i + 1))

set_option maxRecDepth 100000 in
set_option maxHeartbeats 1000000 in
theorem inner_step {r : Nat} {la : Option Addr} {lc : Nat} {L : List Tk} {vn : Value} {f : Nat} (h0 : Ok0 r la lc L vn f) (d i : Nat) (n : Nd) (ks : List Nd) (R : Got (Nd × List Nd × Nat)) (hR : inR L f d i n ks = some R) (hi : i < L.length) (w : World) (h : CrAt w r la lc L i vn d) :
    Calls Try.prog 66 #[.pointer (some ⟨r, 0, none⟩)] w (ExPost r la lc L vn (w.heap.size ≤ ·) d R w) := by
  have HZ := hid (begin_at h)
  have h' := h.below (below_new w (boxN zeroN))
  have HS := hid (skip_any ⟨#[40]⟩ (by decide) _ h')
  unfold SkipPost at HS
  unfold inR at hR
  by_cases hp : wordT L i = [40]
  · rw [if_pos hp] at hR
    rw [show (⟨#[40]⟩ : ByteArray).data.toList = [40] from rfl] at HS
    simp only [if_pos hp] at HS
    cases he : exF L f 0 1 d (i + 1) n ks with
    | none => rw [he] at hR; cases hR
    | some R1 =>
      rw [he] at hR
      have HE := hid (fun W => expression_step h0 d (i + 1) n ks R1 he W)
      unfold ExPost at HE ⊢
      dsimp only [boxN, zeroN] at HZ HS
      clear h h0 h' he
      cases R1 with
      | error x =>
        cases hR
        dsimp only at HE ⊢
        rw [thrown_chain] at HE ⊢
        go_enter Try.func66, Try.ntmps66
        go_wp2_with fail
        refine HS.out.mono ?_
        rintro e w1 ⟨rfl, hc1, hk1, _⟩
        have HC1 := hid hc1
        have HK1 := hid (HZ.out.2.2.2.2.trans hk1)
        clear hc1 hk1
        go_wp2_with fail
        refine (HE.out _ HC1.out).mono ?_
        rintro e w2 ⟨rfl, ⟨i', hc2⟩, hk2⟩
        exact ⟨rfl, rfl, ⟨i', hc2⟩, HK1.out.trans hk2⟩
      | ok y =>
        obtain ⟨m, ks', j⟩ := y
        dsimp only at HE hR
        unfold aggN at HE
        have HM := hid (fun W hc => must_any (r := r) (la := la) (lc := lc) (L := L) (i := j) (vn := vn) (d := d) ⟨#[41]⟩ (by decide) W hc)
        unfold MustPost at HM
        rw [show (⟨#[41]⟩ : ByteArray).data.toList = [41] from rfl] at HM
        have HN1 : Hid (∀ w1 w2, Kept (· = r) (w.alloc (.cells #[.int .i64 0, .int .i64 0, .slice none 0 0] 27)) w1 → Kept (· = r) w1 w2 → w2.heap[w.heap.size]? = some (boxN zeroN)) := fun w1 w2 k1 k2 => by
          have e := HZ.out.2.2.1
          have l := HZ.out.1
          have q1 := (k1.block w.heap.size (by omega) (by omega)).trans HZ.out.2.2.2.1
          exact (k2.block _ (lt_of_block q1) (by omega)).trans q1
        by_cases hq : wordT L j = [41]
        · simp only [if_pos hq] at HM hR
          cases hR
          dsimp only
          go_enter Try.func66, Try.ntmps66
          go_wp2_with fail
          refine HS.out.mono ?_
          rintro e w1 ⟨rfl, hc1, hk1, _⟩
          have HC1 := hid hc1
          have HK1 := hid hk1
          clear hc1 hk1
          go_wp2_with fail
          refine (HE.out _ HC1.out).mono ?_
          rintro e w2 ⟨x, rfl, hx2, hc2, hk2⟩
          have HC2 := hid (hc2.below (below_new w2 (boxN x)))
          have HK2 := hid (((HZ.out.2.2.2.2.trans HK1.out).trans hk2).trans (kept_of_below (below_new w2 (boxN x))))
          have hz1 := HK1.out.size
          have hz2 := hk2.size
          have hz0 := HZ.out.2.2.1
          have HX2 := hid ((hx2.mono (Q := fun b => w.heap.size < b ∧ b < w2.heap.size) fun b hb hlt => ⟨by omega, hlt⟩).kept fun b hb hlt => (below_new w2 (boxN x)).block b hlt)
          have HN2 := hid (heap_alloc_new w2 (boxN x))
          have HR2 := hid (((below_new w2 (boxN x)).block _ (lt_of_block (HN1.out _ _ HK1.out hk2))).trans (HN1.out _ _ HK1.out hk2))
          clear hc2 hk2 hx2
          dsimp only [boxN] at HC2 HK2 HX2 HN2 HR2
          go_wp2_with fail
          generalize hw2' : w2.alloc (.cells #[.int .i64 x.kind, .int .i64 x.tok, .slice x.a x.n x.c] 27) = wx at *
          refine (HM.out _ HC2.out).mono ?_
          rintro e w3 ⟨rfl, hc3, hk3, _⟩
          have hr0 := HZ.out.1
          have hzx := lt_of_block HN2.out
          have hN3 := (hk3.block _ (lt_of_block HN2.out) (by omega)).trans HN2.out
          have hR3 := (hk3.block _ (lt_of_block HR2.out) (by omega)).trans HR2.out
          have HG := hid (give_ret (u := zeroN) (w := w) (W := w3) (x := x) (n := m) (P := fun b => w.heap.size < b ∧ b < w2.heap.size) HZ.out.1 HZ.out.2.1 hR3 (HX2.out.kept fun b hb hlt => hk3.block b hlt (by omega)) (fun b hb => by omega) hc3 (HK2.out.trans hk3) (fun b hb => Nat.le_of_lt hb.1))
          obtain ⟨⟨x0, x1, x2⟩, _⟩ := boxN_facts (x := x) hN3
          obtain ⟨⟨y0, y1, y2⟩, z0, z1, z2⟩ := boxN_facts (x := zeroN) hR3
          dsimp only [zeroN] at y0 y1 y2
          clear hc3 hk3 hN3 hR3
          go_wp2_with fail
          exact bodyPost_ret (HG.out.1 _ Try.results66 _ rfl) rfl ⟨x, rfl, HG.out.2⟩
        · simp only [if_neg hq] at HM hR
          cases hR
          dsimp only
          rw [thrown_chain] at HM ⊢
          go_enter Try.func66, Try.ntmps66
          go_wp2_with fail
          refine HS.out.mono ?_
          rintro e w1 ⟨rfl, hc1, hk1, _⟩
          have HC1 := hid hc1
          have HK1 := hid hk1
          clear hc1 hk1
          go_wp2_with fail
          refine (HE.out _ HC1.out).mono ?_
          rintro e w2 ⟨x, rfl, hx2, hc2, hk2⟩
          have HC2 := hid (hc2.below (below_new w2 (boxN x)))
          have HK2 := hid (((HZ.out.2.2.2.2.trans HK1.out).trans hk2).trans (kept_of_below (below_new w2 (boxN x))))
          clear hc2 hk2 hx2
          dsimp only [boxN] at HC2 HK2
          go_wp2_with fail
          refine (HM.out _ HC2.out).mono ?_
          rintro e w3 ⟨rfl, hb3⟩
          exact ⟨rfl, rfl, ⟨j, HC2.out.below hb3⟩, HK2.out.trans (kept_of_below hb3)⟩
  · rw [if_neg hp] at hR
    rw [show (⟨#[40]⟩ : ByteArray).data.toList = [40] from rfl] at HS
    simp only [if_neg hp] at HS
    have HN := hid (quiet_at fun n => nameNext_any _ (h'.draws n))
    have HT := hid (fun k n => take_any k _ (h'.draws n) hi)
    unfold aggN at HT
    have HD := hid (fun n => dN_heap (w.alloc (boxN zeroN)) w.heap.size n)
    have HBd := hid (fun n => dN_below (Below.refl (w.alloc (boxN zeroN)).heap.size (w.alloc (boxN zeroN))) n)
    dsimp only [boxN, zeroN] at HZ HS HN HT HD HBd
    unfold ExPost
    clear h h0 h'
    rcases hb : nameT L i with _ | _
    all_goals rw [hb] at hR HN
    all_goals first | rw [if_neg (by decide)] at hR | rw [if_pos rfl] at hR
    all_goals cases hR
    all_goals dsimp only
    all_goals go_enter Try.func66, Try.ntmps66
    all_goals go_wp2_with (first | (go_at_call 36; refine HS.out.mono ?_; rintro e w1 ⟨rfl, n1, rfl⟩) | (go_at_call 40; refine (HN.out _ ⟨_, rfl⟩).mono ?_; rintro e w1 ⟨rfl, n2, rfl⟩))
    all_goals refine (HT.out _ _).mono ?_
    all_goals rintro e w3 ⟨rfl, hc3, hk3⟩
    all_goals have hr0 := HZ.out.1
    all_goals have hz0 := HZ.out.2.2.1
    all_goals have hR3 : w3.heap[w.heap.size]? = some (boxN zeroN) := (hk3.block _ (by show w.heap.size < (w.alloc _).heap.size; omega) (by omega)).trans ((HD.out n2).trans HZ.out.2.2.2.1)
    all_goals obtain ⟨⟨y0, y1, y2⟩, z0, z1, z2⟩ := boxN_facts (x := zeroN) hR3
    all_goals dsimp only [zeroN] at y0 y1 y2
    · have HG := hid (give_ret (u := zeroN) (w := w) (W := w3) (x := ⟨11, i, none, 0, 0⟩) (n := .mk 11 (i : Int) []) (P := fun b => w.heap.size < b) HZ.out.1 HZ.out.2.1 hR3 ⟨rfl, rfl, KidsAt.nil⟩ (fun b hb => by omega) hc3 ((HZ.out.2.2.2.2.trans (kept_of_below (HBd.out n2))).trans hk3) (fun b hb => Nat.le_of_lt hb))
      clear hc3 hk3 hR3
      go_wp2_with fail
      exact bodyPost_ret (HG.out.1 _ Try.results66 _ rfl) rfl ⟨_, rfl, HG.out.2⟩
    · have HG := hid (give_ret (u := zeroN) (w := w) (W := w3) (x := ⟨10, i, none, 0, 0⟩) (n := .mk 10 (i : Int) []) (P := fun b => w.heap.size < b) HZ.out.1 HZ.out.2.1 hR3 ⟨rfl, rfl, KidsAt.nil⟩ (fun b hb => by omega) hc3 ((HZ.out.2.2.2.2.trans (kept_of_below (HBd.out n2))).trans hk3) (fun b hb => Nat.le_of_lt hb))
      clear hc3 hk3 hR3
      go_wp2_with fail
      exact bodyPost_ret (HG.out.1 _ Try.results66 _ rfl) rfl ⟨_, rfl, HG.out.2⟩
end
section
open Go.RowKit Go.Shelf

theorem info_node : (Try.prog.info? 27).map (fun i => (i.zero, i.size, i.bytes)) = some (some (.agg #[.int .i64 0, .int .i64 0, .slice none 0 0]), 3, 40) := by kernel_rfl
theorem n3_new (w : World) (x : Nv) (T : TypeId) : ∀ j u, (encN x)[j]? = some u → (w.alloc (.cells (encN x).toArray T)).cell? ((⟨w.heap.size, 0, none⟩ : Addr).add j) = some u := by
  intro j u hu
  rw [Addr.add_lit, Nat.zero_add, World.cell?_alloc_mark]
  simpa using hu
theorem n3_one (x : Nv) : ∀ u ∈ encN x, u.oneCell' = true := by
  intro u hu
  simp [encN] at hu
  rcases hu with rfl | rfl | rfl <;> rfl
/-- A row of nodes grows. -/
theorem grow_nds {W w4 : World} {B : Nat} {v v' : Value} {nvs : List Nv} {ks : List Nd} (hg : W.grownBy w4 v.ownBlock) (hob : v'.ownBlock = v.ownBlock ∨ v'.ownBlock = some W.heap.size) (hn : NdsIs W (fun b => B ≤ b ∧ v.ownBlock ≠ some b) nvs ks) : NdsIs w4 (fun b => B ≤ b ∧ v'.ownBlock ≠ some b) nvs ks := by
  refine ((hn.mono (Q := fun b => B ≤ b ∧ v.ownBlock ≠ some b ∧ b < W.heap.size) fun b hb hlt => ⟨hb.1, hb.2, hlt⟩).kept fun b hb hlt => hg.block b hlt (fun e => hb.2.1 e.symm)).mono fun b hb _ => ⟨hb.1, ?_⟩
  rcases hob with e | e
  · rw [e]; exact hb.2.1
  · rw [e]; intro h; cases h; omega
theorem row_base {w : World} {base base' e size n : Nat} {v : Value} {xs : List Value} (h : w.ownsRow base e size v n xs) (hb : base' ≤ base) : w.ownsRow base' e size v n xs := ⟨h.1, h.2.imp id fun ⟨g, cap, cur, e, hg, r⟩ => ⟨g, cap, cur, e, Nat.le_trans hb hg, r⟩⟩
theorem kept_grown {r : Nat} {w W w4 : World} {v : Value} {n : Nat} {xs : List Value} {e size : Nat} (hk : Kept (· = r) w W) (hown : W.ownsRow w.heap.size e size v n xs) (hg : W.grownBy w4 v.ownBlock) : Kept (· = r) w w4 ∧ ∀ b, b < w.heap.size → w4.heap[b]? = W.heap[b]? := by
  have key : ∀ b, b < w.heap.size → w4.heap[b]? = W.heap[b]? := fun b hb => hg.block b (Nat.lt_of_lt_of_le hb hk.size) fun e => by have := (hown.lt b e.symm).1; omega
  exact ⟨⟨hg.os.trans hk.os, hg.tape.trans hk.tape, hg.output.trans hk.output, Nat.le_trans hk.size hg.size, fun b hb hx => (key b hb).trans (hk.block b hb hx)⟩, key⟩

theorem row_val {w : World} {base e size n : Nat} {v : Value} {xs : List Value} (h : w.ownsRow base e size v n xs) : ∃ a c, v = .slice a n c := by
  rcases h.2 with ⟨rfl, rfl⟩ | ⟨g, cap, cur, rfl, _⟩
  · exact ⟨_, _, rfl⟩
  · exact ⟨_, _, rfl⟩
/-- One more node behind a row. -/
theorem row_next {r : Nat} {la : Option Addr} {lc : Nat} {L : List Tk} {vn : Value} {d j : Nat} {w W w4 : World} {v v' : Value} {nvs : List Nv} {ks : List Nd} {x : Nv} {m : Nd} (hrw : r < w.heap.size) (hla : ∀ b off, la = some ⟨b, off, none⟩ → L ≠ [] → b < w.heap.size)
    (hown : W.ownsRow w.heap.size 27 3 v nvs.length (cellsN nvs)) (hn : NdsIs W (fun b => w.heap.size ≤ b ∧ v.ownBlock ≠ some b) nvs ks) (hx : NdIs W (fun b => w.heap.size ≤ b ∧ v.ownBlock ≠ some b) x m) (hc : CrAt W r la lc L j vn d) (hk : Kept (· = r) w W)
    (hown4 : w4.ownsRow w.heap.size 27 3 v' (nvs.length + 1) (cellsN nvs ++ encN x)) (hg : W.grownBy w4 v.ownBlock) (hob : v'.ownBlock = v.ownBlock ∨ v'.ownBlock = some W.heap.size) :
    ∃ a c, v' = .slice a (nvs ++ [x]).length c ∧ w4.ownsRow w.heap.size 27 3 v' (nvs ++ [x]).length (cellsN (nvs ++ [x])) ∧ NdsIs w4 (fun b => w.heap.size ≤ b ∧ v'.ownBlock ≠ some b) (nvs ++ [x]) (ks ++ [m]) ∧ CrAt w4 r la lc L j vn d ∧ Kept (· = r) w w4 := by
  have hl : (nvs ++ [x]).length = nvs.length + 1 := by simp
  obtain ⟨a, c, e⟩ := row_val hown4
  obtain ⟨k1, k2⟩ := kept_grown hk hown hg
  refine ⟨a, c, by rw [hl]; exact e, ?_, grow_nds hg hob (hn.snoc hx), hc.other hrw hla hg.size k2, k1⟩
  rw [hl, cellsN_append, cellsN_one]
  exact hown4

/-- What listed tells, or throws. -/
def LiPost (r : Nat) (la : Option Addr) (lc : Nat) (L : List Tk) (vn : Value) (d : Nat) (R : Got (Nd × List Nd × Nat)) (w : World) (e : Ending) (w' : World) : Prop := match R with
  | .ok (_, ks, j) => ∃ a c nvs, nvs.length ≤ 2000000 ∧ e = .returned (.slice a nvs.length c) ∧ w'.ownsRow w.heap.size 27 3 (.slice a nvs.length c) nvs.length (cellsN nvs) ∧ NdsIs w' (fun b => w.heap.size ≤ b ∧ (Value.slice a nvs.length c).ownBlock ≠ some b) nvs ks ∧ CrAt w' r la lc L j vn d ∧ Kept (· = r) w w'
  | .error x => e = thrownT x.1 (placeT L x.2) ∧ (∃ i', CrAt w' r la lc L i' vn d) ∧ Kept (· = r) w w'
def Ok4 (r : Nat) (la : Option Addr) (lc : Nat) (L : List Tk) (vn : Value) (f : Nat) : Prop := ∀ (d i : Nat) (n : Nd) (ks : List Nd) R, exF L f 4 0 d i n ks = some R → ∀ w, CrAt w r la lc L i vn d → Calls Try.prog 45 #[.pointer (some ⟨r, 0, none⟩), .func (.func 54) #[.pointer (some ⟨r, 0, none⟩)] #[]] w (LiPost r la lc L vn d R w)
/-- Ahead of a round. -/
def LiSt (r : Nat) (la : Option Addr) (lc : Nat) (L : List Tk) (vn : Value) (d : Nat) (n : Nd) (R : Got (Nd × List Nd × Nat)) (w : World) (F g : Nat) (v : Value) (wr : World) : Prop :=
  ∃ (ks : List Nd) (nvs : List Nv) (a : Option Addr) (c j : Nat), v = .slice a nvs.length c ∧ nvs.length + g ≤ F + 1 ∧ exF L g 5 0 d j n ks = some R ∧ wr.ownsRow w.heap.size 27 3 v nvs.length (cellsN nvs) ∧ NdsIs wr (fun b => w.heap.size ≤ b ∧ v.ownBlock ≠ some b) nvs ks ∧ CrAt wr r la lc L j vn d ∧ Kept (· = r) w wr

set_option maxRecDepth 100000 in
set_option maxHeartbeats 2000000 in
theorem listed_step {r : Nat} {la : Option Addr} {lc : Nat} {L : List Tk} {vn : Value} (f : Nat) (hf : f ≤ 1048576) (h0 : ∀ g, g ≤ f → Ok0 r la lc L vn g) : Ok4 r la lc L vn (f + 1) := by
  intro d i n ks R hR w h
  obtain ⟨i0, hi, hz0, hz1, hz2⟩ := info_parts info_node
  have HZ := hid (begin_at h)
  have HS := hid (skip_any ⟨#[41]⟩ (by decide) w h)
  unfold SkipPost at HS
  rw [show (⟨#[41]⟩ : ByteArray).data.toList = [41] from rfl] at HS
  have hmf : ∀ (fn : Fn) (first cap : Array Value) (w : World), (Instr.makeFunc fn first cap).run Try.prog w = .ok (.func fn first cap) w := fun _ _ _ _ => rfl
  rw [exF] at hR
  unfold LiPost
  by_cases hp : wordT L i = [41]
  · rw [if_pos hp] at hR
    cases hR
    simp only [if_pos hp] at HS
    dsimp only
    clear h h0
    go_enter Try.func45, Try.ntmps45
    go_wp2_with (go_at_call 36; refine HS.out.mono ?_; rintro e w1 ⟨rfl, hc1, hk1, _⟩; have HC1 := hid hc1; have HK1 := hid hk1; clear hc1 hk1)
    go_ret
    exact ⟨none, 0, [], by simp, rfl, World.ownsRow_nil _ _ _ _, NdsIs.nil, HC1.out, HK1.out⟩
  · rw [if_neg hp] at hR
    simp only [if_neg hp] at HS
    cases he : exF L f 0 2 d i n ks with
    | none => rw [he] at hR; cases hR
    | some R1 =>
      rw [he] at hR
      have HE := hid (fun m => single_step (h0 f (Nat.le_refl _)) d i n ks R1 he (w.drewN m) (h.draws m))
      have HBd := hid (fun n => dN_below (Below.refl w.heap.size w) n)
      unfold ExPost at HE
      clear h he
      cases R1 with
      | error x =>
        cases hR
        dsimp only at HE ⊢
        rw [thrown_chain] at HE ⊢
        clear h0
        go_enter Try.func45, Try.ntmps45
        go_wp2_with (first | (go_at_call 36; refine HS.out.mono ?_; rintro e w1 ⟨rfl, n1, rfl⟩) | (go_at_call 54; refine (HE.out _).mono ?_; rintro e w2 ⟨rfl, ⟨i', hc2⟩, hk2⟩))
        exact ⟨rfl, rfl, ⟨i', hc2⟩, (kept_of_below (HBd.out _)).trans hk2⟩
      | ok y =>
        obtain ⟨m, ks', j⟩ := y
        dsimp only at HE hR
        unfold aggN at HE
        go_enter Try.func45, Try.ntmps45
        go_wp2_with (first | (go_at_call 36; refine HS.out.mono ?_; rintro e w1 ⟨rfl, n1, rfl⟩) | (go_at_call 54; refine (HE.out _).mono ?_; rintro e w2 ⟨x, rfl, hx2, hc2, hk2⟩))
        have HSt : Hid (LiSt r la lc L vn d n R w f f (.slice (some ⟨w2.heap.size, 0, none⟩) 1 1) (w2.alloc (boxN x))) := by
          have hz2 := hk2.size
          rw [dN_size] at hz2
          refine ⟨[m], [x], _, _, j, rfl, by simp; omega, hR, row_base (new_row w2 [x] (by simp)) hz2, ?_, hc2.below (below_new _ _), ((kept_of_below (HBd.out _)).trans hk2).trans (kept_of_below (below_new _ _))⟩
          refine (NdsIs.one (hx2.mono (Q := fun b => w.heap.size ≤ b ∧ (Value.slice (some ⟨w2.heap.size, 0, none⟩) 1 1).ownBlock ≠ some b) fun b hb hlt => ⟨hb, fun e => ?_⟩)).kept fun b _ hlt => (below_new _ _).block b hlt
          have e' : w2.heap.size = b := by simpa [Value.ownBlock] using e
          omega
        clear hx2 hc2 hk2 HE HS hR
        dsimp only [boxN] at HSt
        generalize w2.alloc (.cells #[.int .i64 x.kind, .int .i64 x.tok, .slice x.a x.n x.c] 27) = w3 at HSt ⊢
        go_loopg [5] f (fun g v wr => g ≤ f ∧ Hid (LiSt r la lc L vn d n R w f g v wr))
        case atStart => exact ⟨Nat.le_refl _, HSt⟩
        case round =>
          obtain ⟨hgf, hrel⟩ := hrel
          obtain ⟨ks', nvs, a', c', j', rfl, hln, hR', hown, hnds, hc', hk'⟩ := hrel.out
          obtain ⟨g, rfl⟩ : ∃ g, gk = g + 1 := by
            cases gk with
            | zero => rw [exF] at hR'; cases hR'
            | succ g => exact ⟨g, rfl⟩
          rw [exF] at hR'
          · have HS' := hid (skip_any ⟨#[44]⟩ (by decide) wr hc')
            unfold SkipPost at HS'
            rw [show (⟨#[44]⟩ : ByteArray).data.toList = [44] from rfl] at HS'
            have HO := hid hown
            have HN := hid hnds
            have HKr := hid hk'
            have HCr := hid hc'
            clear hown hnds hk' hc' hrel
            by_cases hq : wordT L j' = [44]
            · rw [if_pos hq] at hR'
              simp only [if_pos hq] at HS'
              cases he : exF L g 0 2 d (j' + 1) n ks' with
              | none => rw [he] at hR'; cases hR'
              | some R1 =>
                rw [he] at hR'
                have HE := hid (fun W => single_step (h0 g (by omega)) d (j' + 1) n ks' R1 he W)
                unfold ExPost at HE
                cases R1 with
                | error y =>
                  cases hR'
                  dsimp only at HE ⊢
                  rw [thrown_chain] at HE
                  go_wp2_with (first | (go_at_call 36; refine HS'.out.mono ?_; rintro e w5 ⟨rfl, hc5, hk5, _⟩; have HC5 := hid hc5; have HK5 := hid hk5; clear hc5 hk5) | (go_at_call 54; refine (HE.out _ HC5.out).mono ?_; rintro e w6 ⟨rfl, ⟨i', hc6⟩, hk6⟩))
                  exact ⟨rfl, rfl, ⟨i', hc6⟩, (HKr.out.trans HK5.out).trans hk6⟩
                | ok y =>
                  obtain ⟨m2, ks2, j2⟩ := y
                  dsimp only at HE hR'
                  unfold aggN at HE
                  have hr0 := HZ.out.1
                  go_wp2_with (first | (go_at_call 36; refine HS'.out.mono ?_; rintro e w5 ⟨rfl, hc5, hk5, _⟩; have HC5 := hid hc5; have HK5 := hid hk5; clear hc5 hk5) | (go_at_call 54; refine (HE.out _ HC5.out).mono ?_; rintro e w6 ⟨x6, rfl, hx6, hc6, hk6⟩; have HK6 := hid (HK5.out.trans hk6); have hown6 := row_same HO.out (w' := w6) (fun b hb hlt => HK6.out.block b hlt (by have := (HO.out.lt b hb).1; omega)); have HO6 := hid hown6; have HN6 := hid (HN.out.kept (w' := w6) fun b hb hlt => HK6.out.block b hlt (by omega)); have hz5 := HK5.out.size; have HX6 := hid (hx6.mono (Q := fun b => w.heap.size ≤ b ∧ (Value.slice a' nvs.length c').ownBlock ≠ some b) fun b hb _ => ⟨by have := HKr.out.size; omega, fun e => by have := (HO.out.lt b e).2; omega⟩); have HC6 := hid hc6; have hz6 := hk6.size; have hz7 := HKr.out.size; clear hx6 hc6 hk6) | (at_builtin; refine wpList_append_own_at _ rfl _ _ 25 rfl w.heap.size 27 i0 _ 3 40 Try.underlying25 hi hz0 hz1 hz2 rfl (by decide) _ _ _ rfl (hown6.alloc _) ⟨w6.heap.size, 0, none⟩ 1 1 (encN x6) rfl rfl (n3_new w6 x6 _) (n3_one x6) (by unfold maxLen; omega) (by omega) (by simp; omega) ?_))
                  intro v' w7 hown7 hg7 _ hob7
                  have HB6 := hid (below_new w6 (boxN x6))
                  obtain ⟨a7, c7, e7, q1, q2, q3, q4⟩ := row_next (x := x6) (m := m2) HZ.out.1 HZ.out.2.1 (HO6.out.alloc (boxN x6)) (HN6.out.kept fun b _ hlt => HB6.out.block b hlt) (HX6.out.kept fun b _ hlt => HB6.out.block b hlt) (HC6.out.below HB6.out) ((HKr.out.trans HK6.out).trans (kept_of_below HB6.out)) hown7 hg7 (by rw [World.size_alloc]; exact hob7)
                  subst e7
                  have HQ : Hid (LiSt r la lc L vn d n R w f g (.slice a7 (nvs ++ [x6]).length c7) w7) := ⟨ks' ++ [m2], nvs ++ [x6], a7, c7, j2, rfl, by simp; omega, hR', q1, q2, q3, q4⟩
                  clear q1 q2 q3 q4 hown7 hg7 hob7 hown6
                  go_wp2_with fail
                  go_roundg g
                  case rel => exact ⟨by omega, HQ.out⟩
                  case measure => omega
            · rw [if_neg hq] at hR'
              simp only [if_neg hq] at HS'
              have HM := hid (fun n => must_any ⟨#[41]⟩ (by decide) _ (HCr.out.draws n))
              unfold MustPost at HM
              rw [show (⟨#[41]⟩ : ByteArray).data.toList = [41] from rfl] at HM
              by_cases hq2 : wordT L j' = [41]
              · rw [if_pos hq2] at hR'
                simp only [if_pos hq2] at HM
                cases hR'
                go_wp2_with (first | (go_at_call 36; refine HS'.out.mono ?_; rintro e w5 ⟨rfl, n5, rfl⟩) | (go_at_call 42; refine (HM.out _).mono ?_; rintro e w6 ⟨rfl, hc6, hk6, _⟩; have HC6 := hid hc6; have HK6 := hid hk6; clear hc6 hk6))
                go_ret
                have hr0 := HZ.out.1
                have hkd := (kept_of_below (X := (· = r)) (dN_below (Below.refl wr.heap.size wr) n5)).trans HK6.out
                exact ⟨a', c', nvs, by omega, rfl, row_same HO.out (fun b hb hlt => hkd.block b hlt (by have := (HO.out.lt b hb).1; omega)), HN.out.kept (fun b hb hlt => hkd.block b hlt (by omega)), HC6.out, HKr.out.trans hkd⟩
              · rw [if_neg hq2] at hR'
                simp only [if_neg hq2] at HM
                cases hR'
                rw [thrown_chain] at HM
                go_wp2_with (first | (go_at_call 36; refine HS'.out.mono ?_; rintro e w5 ⟨rfl, n5, rfl⟩) | (go_at_call 42; refine (HM.out _).mono ?_; rintro e w6 ⟨rfl, hb6⟩))
                have hbd := dN_below (Below.refl wr.heap.size wr) n5
                exact ⟨rfl, rfl, ⟨j', HCr.out.below (hbd.trans (hb6.mono hbd.size))⟩, HKr.out.trans (kept_of_below (hbd.trans (hb6.mono hbd.size)))⟩
          all_goals omega
end
section
open Go.RowKit

section
variable {P : Program} {ops : Array Oper} {Q : Exit → Act → World → Prop} {md : Region.Mode} {C : World → Prop} {i : Nat}
theorem takeT {oi : Oper} {v : Value} {fuel : Nat} {listed : Array Bool} {a : Act} {w : World} (hi : ops[i]? = some oi) (hs : Region.noSelect ops = true) (hf : Region.free md ops listed i = true) (hr : (Region.ready md ops listed).contains i = true)
    (hQ : ∀ c a w, Q (.panic c) (a.put oi.dst v) w → Q (.panic c) a w) (hy : YieldsIf P ops C oi v a) (hC : C w) (h : anyT P md ops Q C i fuel (listed.setIfInBounds i true) (a.put oi.dst v) w) : wpAny P md ops Q (fuel + 1) listed a w :=
  first_of_T hi (Region.noSelect_spec hs) hQ fuel listed a w (Region.free_spec hi hf) (by simpa using hr) hy hC h
theorem anyT_one {fuel k : Nat} {o : Oper} {listed : Array Bool} {a : Act} {w : World} (hr : Region.ready md ops listed = [k]) (ho : ops[k]? = some o)
    (h : ∀ K' : Act → World → Prop, Shut (∀ a w, (NoWait md ops i k → C w) → anyT P md ops Q C i fuel (listed.setIfInBounds k true) a w → K' a w) → if Region.wanted o (yielded ops a.tmps) = true then Oper.wp P o a w K' Q else K' (a.put o.dst undef) w) : anyT P md ops Q C i (fuel + 1) listed a w := by
  refine ⟨fun h0 => (by rw [hr] at h0; cases h0), fun j hj => ?_⟩
  rw [hr, List.mem_singleton] at hj
  subst hj
  exact wpOp_step ho (fun K' hK => h K' (fun a w hS hW => hK a w ⟨hS, hW⟩))
theorem anyT_done {fuel : Nat} {listed : Array Bool} {a : Act} {w : World} (hr : Region.ready md ops listed = []) (h : Q .normal a w) : anyT P md ops Q C i fuel listed a w := by
  cases fuel with
  | zero => exact ⟨hr, h⟩
  | succ f => exact ⟨fun _ => h, fun j hj => by rw [hr] at hj; cases hj⟩
end
end
section
open Go.RowKit Go.Shelf

section
variable (r : Nat) (la : Option Addr) (lc : Nat) (L : List Tk) (vn : Value)
def Ok3 (f : Nat) : Prop := ∀ (d i : Nat) (m : Nd) (ks : List Nd) R, exF L f 3 0 d i m ks = some R → ∀ w (x : Nv) (P : Nat → Prop), NdIs w P x m → (∀ b, P b → b ≠ r) → CrAt w r la lc L i vn d → Calls Try.prog 65 #[.pointer (some ⟨r, 0, none⟩), aggN x] w (ExPost r la lc L vn (fun b => P b ∨ w.heap.size ≤ b) d R w)
/-- Ahead of a round. -/
def BhSt (d : Nat) (ks : List Nd) (R : Got (Nd × List Nd × Nat)) (P : Nat → Prop) (w : World) (g : Nat) (wr : World) : Prop :=
  ∃ (m : Nd) (j : Nat) (x : Nv), exF L g 3 0 d j m ks = some R ∧ wr.heap[w.heap.size]? = some (boxN x) ∧ NdIs wr (fun b => (P b ∨ w.heap.size ≤ b) ∧ b ≠ w.heap.size ∧ b ≠ w.heap.size + 1) x m ∧ CrAt wr r la lc L j vn d ∧ Kept (· = r) w wr ∧ wr.heap[w.heap.size + 1]? = some (boxN zeroN)
end

/-- What is laid into a block. -/
theorem put_at {r : Nat} {la : Option Addr} {lc : Nat} {L : List Tk} {vn : Value} {d : Nat} {w W : World} {x u : Nv} {n : Nd} {j B : Nat} {P : Nat → Prop} (hrw : r < w.heap.size) (hla : ∀ b off, la = some ⟨b, off, none⟩ → L ≠ [] → b < w.heap.size) (hB : w.heap.size ≤ B) (hz : W.heap[B]? = some (boxN u)) (hx : NdIs W P x n) (hP : ∀ b, P b → b ≠ B) (hc : CrAt W r la lc L j vn d) (hk : Kept (· = r) w W) :
    (putN W B x).heap[B]? = some (boxN x) ∧ NdIs (putN W B x) P x n ∧ CrAt (putN W B x) r la lc L j vn d ∧ Kept (· = r) w (putN W B x) :=
  ⟨putN_block x hz, hx.kept fun b hb _ => putN_other _ _ _ _ (hP b hb), hc.other hrw hla (by rw [putN_size]; exact Nat.le_refl _) fun b hb => putN_other _ _ _ _ (by omega), putN_kept hk hB x⟩

theorem NdsIs.app {w : World} {P : Nat → Prop} {vs us : List Nv} {ks ms : List Nd} (h : NdsIs w P vs ks) (h' : NdsIs w P us ms) : NdsIs w P (vs ++ us) (ks ++ ms) := by
  refine ⟨by simp [h.1, h'.1], fun j v t hv ht => ?_⟩
  by_cases hj : j < vs.length
  · rw [List.getElem?_append_left hj] at hv
    rw [List.getElem?_append_left (by rw [← h.1]; exact hj)] at ht
    exact h.2 j v t hv ht
  · rw [List.getElem?_append_right (by omega)] at hv
    rw [List.getElem?_append_right (by rw [← h.1]; omega), ← h.1] at ht
    exact h'.2 _ v t hv ht
theorem grow_ndsS {W w4 : World} {S : Nat → Prop} {v v' : Value} {nvs : List Nv} {ks : List Nd} (hg : W.grownBy w4 v.ownBlock) (hob : v'.ownBlock = v.ownBlock ∨ v'.ownBlock = some W.heap.size) (hn : NdsIs W (fun b => S b ∧ v.ownBlock ≠ some b) nvs ks) : NdsIs w4 (fun b => S b ∧ v'.ownBlock ≠ some b) nvs ks := by
  refine ((hn.mono (Q := fun b => S b ∧ v.ownBlock ≠ some b ∧ b < W.heap.size) fun b hb hlt => ⟨hb.1, hb.2, hlt⟩).kept fun b hb hlt => hg.block b hlt (fun e => hb.2.1 e.symm)).mono fun b hb _ => ⟨hb.1, ?_⟩
  rcases hob with e | e
  · rw [e]; exact hb.2.1
  · rw [e]; intro h; cases h; omega
theorem cellsN_one_cell (vs : List Nv) : ∀ u ∈ cellsN vs, u.oneCell' = true := by
  intro u hu
  unfold cellsN at hu
  rw [List.mem_flatMap] at hu
  obtain ⟨x, _, hx⟩ := hu
  exact n3_one x u hx
theorem row_cells {w : World} {base g n c : Nat} {nvs : List Nv} (h : w.ownsRow base 27 3 (.slice (some ⟨g, 0, none⟩) n c) nvs.length (cellsN nvs)) : ∀ j u, (cellsN nvs)[j]? = some u → w.cell? ((⟨g, 0, none⟩ : Addr).add j) = some u := by
  intro j u hu
  rcases h.2 with ⟨e, _⟩ | ⟨g', cap, cur, e, _, hh, _, _, _, ht⟩
  · cases e
  · cases e
    rw [Addr.add_lit, Nat.zero_add, Go.Joins.cell_of_block hh]
    rw [← ht] at hu
    have hj : j < nvs.length * 3 := by have := (List.getElem?_eq_some_iff.1 hu).1; simp at this; omega
    rw [List.getElem?_take_of_lt hj, Array.getElem?_toList] at hu
    exact hu
theorem own_ne {g n c b : Nat} (h : g ≠ b) : (Value.slice (some ⟨g, 0, none⟩) n c).ownBlock ≠ some b := fun e => h (by simpa [Value.ownBlock] using e)
/-- An append of a row, or of nothing, to a row of nodes. -/
theorem step_append_row {w : World} {ops : Array Oper} {o : Oper} {a : Act} {K : Act → World → Prop} {Q : Exit → Act → World → Prop} {E : Prop} (hgd : o.guard = none) (s x : Operand) (ho : o.op = .call { callee := .builtin .append, args := #[s, x], argTypes := #[25, 25] })
    (base base2 g n cap : Nat) (nvs us : List Nv) (av : Option Addr) (c : Nat) (hs : a.eval s = .slice (some ⟨g, 0, none⟩) n cap) (hx : a.eval x = .slice av us.length c) (hnl : nvs.length = n) (hown : w.ownsRow base 27 3 (.slice (some ⟨g, 0, none⟩) n cap) n (cellsN nvs)) (hown2 : w.ownsRow base2 27 3 (.slice av us.length c) us.length (cellsN us))
    (h1 : n ≤ 2000000) (h2 : us.length ≤ 2000000) (hbase : base ≤ w.heap.size)
    (h : ∀ v' w', w'.ownsRow base 27 3 v' (nvs ++ us).length (cellsN (nvs ++ us)) → w.grownBy w' (some g) → (v'.ownBlock = some g ∨ v'.ownBlock = some w.heap.size) → K (a.put o.dst v') w') :
    if Region.wanted o (yielded ops a.tmps) = true then Oper.wp Try.prog o a w K Q else E := by
  obtain ⟨i0, hi, hz0, hzz1, hzz2⟩ := info_parts info_node
  have hle : n ≤ cap := by
    rcases hown.2 with ⟨e, _⟩ | ⟨g', cap', cur, e, _, _, hle, _⟩
    · cases e
    · cases e; exact hle
  rcases hown2.2 with ⟨e, h0⟩ | ⟨g5, cap5, cur, e, _⟩
  · have hu : us = [] := List.eq_nil_of_length_eq_zero h0
    subst hu
    cases e
    refine step_append_none hgd s x 25 ho 27 i0 Try.underlying25 hi ⟨g, 0, none⟩ n cap 0 hs hx hle (h _ w ?_ ⟨rfl, rfl, rfl, Nat.le_refl _, fun _ _ _ => rfl⟩ (.inl rfl))
    rw [List.append_nil, hnl]
    exact hown
  · cases e
    refine step_append_any hgd s x 25 ho base 27 i0 _ 3 40 Try.underlying25 hi hz0 hzz1 hzz2 (by rfl) (by decide) _ n (cellsN nvs) hs hown ⟨g5, 0, none⟩ us.length _ (cellsN us) hx (cellsN_length us) (row_cells hown2) (cellsN_one_cell us) (by unfold maxLen; omega) (by omega) hbase ?_
    intro v' w' hown' hg' hob'
    refine h v' w' ?_ hg' hob'
    rw [List.length_append, hnl, cellsN_append]
    exact hown'

/-- A call's node: its row has grown, and is laid into it. -/
theorem call_put {r : Nat} {la : Option Addr} {lc : Nat} {L : List Tk} {vn : Value} {d j : Nat} {P : Nat → Prop} {w w5 w6 : World} {B1 Bc : Nat} {v v' : Value} {us : List Nv} {ks : List Nd} {x' : Nv} {u : Nv}
    (hrw : r < w.heap.size) (hla : ∀ b off, la = some ⟨b, off, none⟩ → L ≠ [] → b < w.heap.size) (hB1 : w.heap.size + 1 < B1) (hBc : B1 < Bc) (hB5 : Bc < w5.heap.size) (hv : v.ownBlock = some B1)
    (hown : w5.ownsRow w.heap.size 27 3 v 1 (cellsN [x'])) (hn : NdsIs w5 (fun b => ((P b ∨ w.heap.size ≤ b) ∧ b ≠ w.heap.size ∧ b ≠ w.heap.size + 1 ∧ b ≠ Bc) ∧ v.ownBlock ≠ some b) us ks) (hc : CrAt w5 r la lc L j vn d) (hk : Kept (· = r) w w5)
    (hown6 : w6.ownsRow w.heap.size 27 3 v' us.length (cellsN us)) (hg : w5.grownBy w6 v.ownBlock) (hob : v'.ownBlock = v.ownBlock ∨ v'.ownBlock = some w5.heap.size)
    (hN : w5.heap[w.heap.size]? = some (boxN x')) (hR : w5.heap[w.heap.size + 1]? = some (boxN zeroN)) (hC : w5.heap[Bc]? = some (boxN u)) :
    ∃ a c, v' = .slice a us.length c ∧ w6.heap[Bc]? = some (boxN u) ∧ (w6.setCell ⟨Bc, 2, none⟩ v').heap[Bc]? = some (boxN ⟨u.kind, u.tok, a, us.length, c⟩) ∧ (w6.setCell ⟨Bc, 2, none⟩ v').heap[w.heap.size]? = some (boxN x') ∧ (w6.setCell ⟨Bc, 2, none⟩ v').heap[w.heap.size + 1]? = some (boxN zeroN) ∧
      KidsAt (w6.setCell ⟨Bc, 2, none⟩ v') (fun b => (P b ∨ w.heap.size ≤ b) ∧ b ≠ w.heap.size ∧ b ≠ w.heap.size + 1) v' ks ∧ CrAt (w6.setCell ⟨Bc, 2, none⟩ v') r la lc L j vn d ∧ Kept (· = r) w (w6.setCell ⟨Bc, 2, none⟩ v') := by
  obtain ⟨a, c, rfl⟩ := row_val hown6
  obtain ⟨k1, k2⟩ := kept_grown hk hown hg
  have hbl : ∀ b, b < w5.heap.size → b ≠ B1 → w6.heap[b]? = w5.heap[b]? := fun b hb hne => hg.block b hb (by rw [hv]; intro e; cases e; exact hne rfl)
  have hC6 := (hbl Bc hB5 (by omega)).trans hC
  have hbs := Go.Joins.block_setCell (i := 2) hC6 (.slice a us.length c)
  have hso : ∀ b, b ≠ Bc → (w6.setCell ⟨Bc, 2, none⟩ (.slice a us.length c)).heap[b]? = w6.heap[b]? := fun b hb => Below.heap_setCell _ _ _ _ hb
  refine ⟨a, c, rfl, hC6, hbs.trans rfl, ?_, ?_, ?_, ?_, ?_⟩
  · rw [hso _ (by omega)]; exact (hbl _ (by omega) (by omega)).trans hN
  · rw [hso _ (by omega)]; exact (hbl _ (by omega) (by omega)).trans hR
  · have hk6 : KidsAt w6 (fun b => (P b ∨ w.heap.size ≤ b) ∧ b ≠ w.heap.size ∧ b ≠ w.heap.size + 1 ∧ b ≠ Bc) (.slice a us.length c) ks := by
      refine .of_row hown6 ((grow_ndsS hg hob hn).mono fun b hb _ => hb.1) fun b e => ?_
      rw [hv] at hob
      rcases hob with h | h
      · rw [e] at h; cases h; exact ⟨.inr (by omega), by omega, by omega, by omega⟩
      · rw [e] at h; cases h; exact ⟨.inr (by omega), by omega, by omega, by omega⟩
    exact (hk6.kept fun b hb _ => hso b hb.2.2.2).mono fun b hb _ => ⟨hb.1, hb.2.1, hb.2.2.1⟩
  · refine hc.other hrw hla (by simpa using hg.size) fun b hb => ?_
    rw [hso _ (by omega)]
    exact k2 b hb
  · exact Kept.setFar k1 (by show w.heap.size ≤ Bc; omega) _

set_option maxRecDepth 100000 in
set_option maxHeartbeats 2000000 in
theorem behind_step {r : Nat} {la : Option Addr} {lc : Nat} {L : List Tk} {vn : Value} (f : Nat) (h0 : ∀ g, g ≤ f → Ok0 r la lc L vn g) (h4 : ∀ g, g ≤ f → Ok4 r la lc L vn g) : Ok3 r la lc L vn (f + 1) := by
  intro d i m ks R hR w x P hx hP h
  have HZ := hid (begin_at h)
  have hb0 : Below w.heap.size w ((w.alloc (boxN x)).alloc (boxN zeroN)) := ((Below.refl _ w).alloc (Nat.le_refl _) _).alloc (by simp) _
  have HSt : Hid (BhSt r la lc L vn d ks R P w (f + 1) ((w.alloc (boxN x)).alloc (boxN zeroN))) := by
    refine ⟨m, i, x, hR, ?_, (hx.mono (Q := fun b => (P b ∨ w.heap.size ≤ b) ∧ b ≠ w.heap.size ∧ b ≠ w.heap.size + 1) fun b hb hlt => ⟨.inl hb, by omega, by omega⟩).kept fun b _ hlt => hb0.block b hlt, h.below hb0, kept_of_below hb0, ?_⟩
    · exact ((below_new (w.alloc (boxN x)) (boxN zeroN)).block _ (by simp)).trans (heap_alloc_new _ _)
    · have := heap_alloc_new (w.alloc (boxN x)) (boxN zeroN)
      rwa [World.size_alloc] at this
  have HP := hid hP
  unfold ExPost aggN
  dsimp only [boxN, zeroN] at HSt
  clear h hx hb0 hR hP
  go_enter Try.func65, Try.ntmps65
  go_wp2_with fail
  generalize (w.alloc (.cells #[.int .i64 x.kind, .int .i64 x.tok, .slice x.a x.n x.c] 27)).alloc (.cells #[.int .i64 0, .int .i64 0, .slice none 0 0] 27) = w0 at HSt ⊢
  go_loopg [] (f + 1) (fun g wr => g ≤ f + 1 ∧ Hid (BhSt r la lc L vn d ks R P w g wr))
  case atStart => exact ⟨Nat.le_refl _, HSt⟩
  case round =>
    clear HSt
    obtain ⟨hgf, hrel⟩ := hrel
    obtain ⟨m', j', x', hR', hn', hx', hc', hk', hz'⟩ := hrel.out
    obtain ⟨g, rfl⟩ : ∃ g, gk = g + 1 := by
      cases gk with
      | zero => rw [exF] at hR'; cases hR'
      | succ g => exact ⟨g, rfl⟩
    rw [exF] at hR'
    have HS1 := hid (skip_any ⟨#[40]⟩ (by decide) wr hc')
    have HS2 := hid (fun n => skip_any ⟨#[91]⟩ (by decide) _ (hc'.draws n))
    unfold SkipPost at HS1 HS2
    rw [show (⟨#[40]⟩ : ByteArray).data.toList = [40] from rfl] at HS1
    rw [show (⟨#[91]⟩ : ByteArray).data.toList = [91] from rfl] at HS2
    have HC := hid hc'
    have HK := hid hk'
    have HN := hid hn'
    have HX := hid hx'
    have HR0 := hid hz'
    have hr0 := HZ.out.1
    have hzr := lt_of_block hz'
    clear hc' hk' hn' hx' hz' hrel
    by_cases hp : wordT L j' = [40]
    · rw [if_pos hp] at hR'
      simp only [if_pos hp] at HS1
      have hPr : ∀ b, (P b ∨ w.heap.size ≤ b) → b ≠ r := fun b hb => hb.elim (HP.out b) (fun h => by omega)
      have hmf : ∀ (fn : Fn) (first cap : Array Value) (w : World), (Instr.makeFunc fn first cap).run Try.prog w = .ok (.func fn first cap) w := fun _ _ _ _ => rfl
      obtain ⟨i0, hi, hz0, hzz1, hzz2⟩ := info_parts info_node
      cases he : exF L g 4 0 d (j' + 1) m' [] with
      | none => rw [he] at hR'; cases hR'
      | some R1 =>
        rw [he] at hR'
        have HL := hid (fun W => h4 g (by omega) d (j' + 1) m' [] R1 he W)
        unfold LiPost at HL
        cases R1 with
        | error y =>
          cases hR'
          dsimp only at HL ⊢
          rw [thrown_chain] at HL
          go_wp2_with fail
          refine HS1.out.mono ?_
          rintro e w1 ⟨rfl, hc1, hk1, _⟩
          have hN1 := (hk1.block _ (lt_of_block HN.out) (by omega)).trans HN.out
          have hR1 := (hk1.block _ (lt_of_block HR0.out) (by omega)).trans HR0.out
          have hX1 := (HX.out.kept fun b hb hlt => hk1.block b hlt (hPr b hb.1)).mono (Q := fun b => ((P b ∨ w.heap.size ≤ b) ∧ b ≠ w.heap.size ∧ b ≠ w.heap.size + 1) ∧ b < w1.heap.size) fun b hb hlt => ⟨hb, hlt⟩
          have hz1 := lt_of_block hR1
          have HN1 := hid hN1
          have HR1 := hid hR1
          have HX1 := hid hX1
          have HC1 := hid hc1
          have HK1 := hid (HK.out.trans hk1)
          obtain ⟨⟨x0, x1, x2⟩, _⟩ := boxN_facts hN1
          clear hc1 hk1 hN1 hR1 hX1
          go_wp2_with fail
          refine (node_any 14 _ 1 1 _).mono ?_
          rintro e w2 ⟨rfl, hb2⟩
          have hb12 : Below w1.heap.size w1 w2 := (below_new w1 (boxN x')).trans (hb2.mono (by simp))
          have hb13 : Below w1.heap.size w1 (w2.alloc (boxN ⟨14, -1, some ⟨w1.heap.size, 0, none⟩, 1, 1⟩)) := hb12.trans ((below_new w2 _).mono hb12.size)
          have hz2 : w1.heap.size < w2.heap.size := by have := hb2.size; simp at this; omega
          have HN3 := hid ((hb13.block _ (lt_of_block HN1.out)).trans HN1.out)
          have HR3 := hid ((hb13.block _ (lt_of_block HR1.out)).trans HR1.out)
          have HX3 := hid (HX1.out.kept fun b _ hlt => hb13.block b hlt)
          have HC3 := hid (HC1.out.below hb13)
          have HK3 := hid (HK1.out.trans (kept_of_below hb13))
          have HB3 := hid (heap_alloc_new w2 (boxN ⟨14, -1, some ⟨w1.heap.size, 0, none⟩, 1, 1⟩))
          have HO3 : Hid ((w2.alloc (boxN ⟨14, -1, some ⟨w1.heap.size, 0, none⟩, 1, 1⟩)).ownsRow w.heap.size 27 3 (.slice (some ⟨w1.heap.size, 0, none⟩) 1 1) 1 (cellsN [x'])) := row_base (row_same (new_row w1 [x'] (by simp)) fun b _ hlt => ((below_new w2 _).block b (Nat.lt_of_lt_of_le hlt hb2.size)).trans (hb2.block b hlt)) (by omega)
          have hz3 : (w2.alloc (boxN ⟨14, -1, some ⟨w1.heap.size, 0, none⟩, 1, 1⟩)).heap.size = w2.heap.size + 1 := by simp
          dsimp only [boxN] at HN3 HR3 HX3 HC3 HK3 HB3 HO3 hz3
          clear hb2 hb12 hb13 x0 x1 x2 HN1 HR1 HX1 HC1 HK1
          unfold aggN
          dsimp only
          go_wp2_with fail
          generalize w2.alloc (.cells #[.int .i64 14, .int .i64 (-1), .slice (some ⟨w1.heap.size, 0, none⟩) 1 1] 27) = w3 at *
          have HCe := hid (fun W (hb : Below w3.heap.size w3 W) => (boxN_facts (x := ⟨14, -1, some ⟨w1.heap.size, 0, none⟩, 1, 1⟩) ((hb.block _ (lt_of_block HB3.out)).trans HB3.out)).1.2.2)
          refine wp_region_any (by kernel_rfl) ?_
          refine wpAny_take (i := 0) (v := .pointer (some ⟨w2.heap.size, 2, none⟩)) rfl (by kernel_rfl) (by kernel_rfl) (by kernel_rfl) (fun _ _ _ h => h) (Or.inl ⟨by rfl, ?_⟩) ?_
          · intro W
            go_simp
          refine wpAny_take (i := 2) (v := .pointer (some ⟨r, 0, none⟩)) rfl (by kernel_rfl) (by kernel_rfl) (by kernel_rfl) (fun _ _ _ h => h) (Or.inl ⟨by rfl, ?_⟩) ?_
          · intro W
            go_simp
          refine wpAny_take (i := 3) (v := .pointer (some ⟨r, 0, none⟩)) rfl (by kernel_rfl) (by kernel_rfl) (by kernel_rfl) (fun _ _ _ h => h) (Or.inl ⟨by rfl, ?_⟩) ?_
          · intro W
            go_simp
          refine wpAny_take (i := 4) (v := .func (.func 54) #[.pointer (some ⟨r, 0, none⟩)] #[]) rfl (by kernel_rfl) (by kernel_rfl) (by kernel_rfl) (fun _ _ _ h => h) (Or.inl ⟨by rfl, ?_⟩) ?_
          · intro W
            go_simp
          refine takeT (C := fun W => W.cell? ⟨w2.heap.size, 2, none⟩ = some (.slice (some ⟨w1.heap.size, 0, none⟩) 1 1)) (i := 1) (v := .slice (some ⟨w1.heap.size, 0, none⟩) 1 1) rfl (by kernel_rfl) (by kernel_rfl) (by kernel_rfl) (fun _ _ _ h => h) (Or.inl ⟨by rfl, ?_⟩) (HCe.out _ (Below.refl _ _).drew) ?_
          · intro W hSw
            try dsimp only at hSw
            go_simp
          refine anyT_one (k := 5) (by kernel_rfl) rfl (fun K hK => ?_)
          go_simp
          go_wp2_with (go_at_call 45; refine (HL.out _ (HC3.out.below (Below.refl _ _).drew)).mono ?_; rintro e w5 ⟨rfl, ⟨i', hc5⟩, hk5⟩)
          exact ⟨rfl, rfl, ⟨i', hc5⟩, (HK3.out.trans (kept_of_below (Below.refl _ _).drew)).trans hk5⟩
        | ok y =>
          obtain ⟨m5, ms, j5⟩ := y
          dsimp only at HL hR'
          go_wp2_with fail
          refine HS1.out.mono ?_
          rintro e w1 ⟨rfl, hc1, hk1, _⟩
          have hN1 := (hk1.block _ (lt_of_block HN.out) (by omega)).trans HN.out
          have hR1 := (hk1.block _ (lt_of_block HR0.out) (by omega)).trans HR0.out
          have hX1 := (HX.out.kept fun b hb hlt => hk1.block b hlt (hPr b hb.1)).mono (Q := fun b => ((P b ∨ w.heap.size ≤ b) ∧ b ≠ w.heap.size ∧ b ≠ w.heap.size + 1) ∧ b < w1.heap.size) fun b hb hlt => ⟨hb, hlt⟩
          have hz1 := lt_of_block hR1
          have HN1 := hid hN1
          have HR1 := hid hR1
          have HX1 := hid hX1
          have HC1 := hid hc1
          have HK1 := hid (HK.out.trans hk1)
          obtain ⟨⟨x0, x1, x2⟩, _⟩ := boxN_facts hN1
          clear hc1 hk1 hN1 hR1 hX1
          go_wp2_with fail
          refine (node_any 14 _ 1 1 _).mono ?_
          rintro e w2 ⟨rfl, hb2⟩
          have hb12 : Below w1.heap.size w1 w2 := (below_new w1 (boxN x')).trans (hb2.mono (by simp))
          have hb13 : Below w1.heap.size w1 (w2.alloc (boxN ⟨14, -1, some ⟨w1.heap.size, 0, none⟩, 1, 1⟩)) := hb12.trans ((below_new w2 _).mono hb12.size)
          have hz2 : w1.heap.size < w2.heap.size := by have := hb2.size; simp at this; omega
          have HN3 := hid ((hb13.block _ (lt_of_block HN1.out)).trans HN1.out)
          have HR3 := hid ((hb13.block _ (lt_of_block HR1.out)).trans HR1.out)
          have HX3 := hid (HX1.out.kept fun b _ hlt => hb13.block b hlt)
          have HC3 := hid (HC1.out.below hb13)
          have HK3 := hid (HK1.out.trans (kept_of_below hb13))
          have HB3 := hid (heap_alloc_new w2 (boxN ⟨14, -1, some ⟨w1.heap.size, 0, none⟩, 1, 1⟩))
          have HO3 : Hid ((w2.alloc (boxN ⟨14, -1, some ⟨w1.heap.size, 0, none⟩, 1, 1⟩)).ownsRow w.heap.size 27 3 (.slice (some ⟨w1.heap.size, 0, none⟩) 1 1) 1 (cellsN [x'])) := row_base (row_same (new_row w1 [x'] (by simp)) fun b _ hlt => ((below_new w2 _).block b (Nat.lt_of_lt_of_le hlt hb2.size)).trans (hb2.block b hlt)) (by omega)
          have hz3 : (w2.alloc (boxN ⟨14, -1, some ⟨w1.heap.size, 0, none⟩, 1, 1⟩)).heap.size = w2.heap.size + 1 := by simp
          dsimp only [boxN] at HN3 HR3 HX3 HC3 HK3 HB3 HO3 hz3
          clear hb2 hb12 hb13 x0 x1 x2 HN1 HR1 HX1 HC1 HK1
          unfold aggN
          dsimp only
          go_wp2_with fail
          generalize w2.alloc (.cells #[.int .i64 14, .int .i64 (-1), .slice (some ⟨w1.heap.size, 0, none⟩) 1 1] 27) = w3 at *
          have HCe := hid (fun W (hb : Below w3.heap.size w3 W) => (boxN_facts (x := ⟨14, -1, some ⟨w1.heap.size, 0, none⟩, 1, 1⟩) ((hb.block _ (lt_of_block HB3.out)).trans HB3.out)).1.2.2)
          refine wp_region_any (by kernel_rfl) ?_
          refine wpAny_take (i := 0) (v := .pointer (some ⟨w2.heap.size, 2, none⟩)) rfl (by kernel_rfl) (by kernel_rfl) (by kernel_rfl) (fun _ _ _ h => h) (Or.inl ⟨by rfl, ?_⟩) ?_
          · intro W
            go_simp
          refine wpAny_take (i := 2) (v := .pointer (some ⟨r, 0, none⟩)) rfl (by kernel_rfl) (by kernel_rfl) (by kernel_rfl) (fun _ _ _ h => h) (Or.inl ⟨by rfl, ?_⟩) ?_
          · intro W
            go_simp
          refine wpAny_take (i := 3) (v := .pointer (some ⟨r, 0, none⟩)) rfl (by kernel_rfl) (by kernel_rfl) (by kernel_rfl) (fun _ _ _ h => h) (Or.inl ⟨by rfl, ?_⟩) ?_
          · intro W
            go_simp
          refine wpAny_take (i := 4) (v := .func (.func 54) #[.pointer (some ⟨r, 0, none⟩)] #[]) rfl (by kernel_rfl) (by kernel_rfl) (by kernel_rfl) (fun _ _ _ h => h) (Or.inl ⟨by rfl, ?_⟩) ?_
          · intro W
            go_simp
          refine takeT (C := fun W => W.cell? ⟨w2.heap.size, 2, none⟩ = some (.slice (some ⟨w1.heap.size, 0, none⟩) 1 1)) (i := 1) (v := .slice (some ⟨w1.heap.size, 0, none⟩) 1 1) rfl (by kernel_rfl) (by kernel_rfl) (by kernel_rfl) (fun _ _ _ h => h) (Or.inl ⟨by rfl, ?_⟩) (HCe.out _ (Below.refl _ _).drew) ?_
          · intro W hSw
            try dsimp only at hSw
            go_simp
          refine anyT_one (k := 5) (by kernel_rfl) rfl (fun K hK => ?_)
          go_simp
          go_wp2_with (go_at_call 45; refine (HL.out _ (HC3.out.below (Below.refl _ _).drew)).mono ?_; rintro e w5 ⟨a5, c5, nvs, hln5, rfl, hown5, hn5, hc5, hk5⟩)
          have hk35 : Kept (· = r) w3 w5 := (kept_of_below (Below.refl _ _).drew).trans hk5
          have hN5 := (hk35.block _ (lt_of_block HN3.out) (by omega)).trans HN3.out
          have hR5 := (hk35.block _ (lt_of_block HR3.out) (by omega)).trans HR3.out
          have hB5 := (hk35.block _ (lt_of_block HB3.out) (by omega)).trans HB3.out
          have hO5 := row_same HO3.out (w' := w5) fun b hb hlt => hk35.block b hlt (by have := (HO3.out.lt b hb).1; omega)
          have hz5 := hk35.size
          have hX5 : NdIs w5 (fun b => ((P b ∨ w.heap.size ≤ b) ∧ b ≠ w.heap.size ∧ b ≠ w.heap.size + 1 ∧ b ≠ w2.heap.size) ∧ (Value.slice (some ⟨w1.heap.size, 0, none⟩) 1 1).ownBlock ≠ some b) x' m' :=
            (HX3.out.kept fun b hb hlt => hk35.block b hlt (hPr b hb.1.1)).mono fun b hb _ => ⟨⟨hb.1.1, hb.1.2.1, hb.1.2.2, by omega⟩, own_ne (by omega)⟩
          have hY5 : NdsIs w5 (fun b => ((P b ∨ w.heap.size ≤ b) ∧ b ≠ w.heap.size ∧ b ≠ w.heap.size + 1 ∧ b ≠ w2.heap.size) ∧ (Value.slice (some ⟨w1.heap.size, 0, none⟩) 1 1).ownBlock ≠ some b) nvs ms := hn5.mono fun b hb _ => by
            have hb1 : w3.heap.size ≤ b := hb.1
            exact ⟨⟨.inr (by omega), by omega, by omega, by omega⟩, own_ne (by omega)⟩
          have HA5 := hid ((NdsIs.one hX5).app hY5)
          have HCp := hid (fun v' w6 => call_put (u := ⟨14, -1, some ⟨w1.heap.size, 0, none⟩, 1, 1⟩) (w6 := w6) (v' := v') (v := .slice (some ⟨w1.heap.size, 0, none⟩) 1 1) (B1 := w1.heap.size) (Bc := w2.heap.size) hr0 HZ.out.2.1 (by omega) hz2 (lt_of_block hB5) rfl hO5 HA5.out hc5 (HK3.out.trans hk35))
          have HN5 := hid hN5
          have HR5 := hid hR5
          have HB5 := hid hB5
          have hbase5 : w.heap.size ≤ w5.heap.size := by omega
          refine hK.out _ _ (fun _ => (boxN_facts (x := ⟨14, -1, some ⟨w1.heap.size, 0, none⟩, 1, 1⟩) hB5).1.2.2) ?_
          clear hK K hX5 hY5 hn5 hc5 hk5 hk35 hN5 hR5 hB5
          refine anyT_one (k := 6) (by kernel_rfl) rfl (fun K hK => ?_)
          refine step_append_row (by rfl) _ _ (by rfl) w.heap.size _ w1.heap.size 1 1 [x'] nvs a5 c5 (by rfl) (by rfl) rfl hO5 hown5 (by omega) hln5 hbase5 ?_
          intro v6 w6 hown6 hg6 hob6
          obtain ⟨a6, c6, rfl, q1, q2, q3, q4, q5, q6, q7⟩ := HCp.out v6 w6 hown6 hg6 hob6 HN5.out HR5.out HB5.out
          have hl6 : ([x'] ++ nvs).length = nvs.length + 1 := by simp
          rw [hl6] at q2 q3 q4 q5 q6 q7 ⊢
          have HPt := hid (put_at (w := w) (B := w.heap.size) (x := ⟨14, -1, a6, nvs.length + 1, c6⟩) (n := .mk 14 (-1) (m' :: ms)) (u := x') (P := fun b => (P b ∨ w.heap.size ≤ b) ∧ b ≠ w.heap.size ∧ b ≠ w.heap.size + 1) hr0 HZ.out.2.1 (Nat.le_refl _) q3 ⟨rfl, rfl, q5⟩ (fun b hb => hb.2.1) q6 q7)
          have HRp := hid ((putN_other (w6.setCell ⟨w2.heap.size, 2, none⟩ (.slice a6 (nvs.length + 1) c6)) w.heap.size ⟨14, -1, a6, nvs.length + 1, c6⟩ (w.heap.size + 1) (by omega)).trans q4)
          have HQ2 := hid q2
          have HQ3 := hid q3
          obtain ⟨⟨t0, t1, t2⟩, f0, f1, f2⟩ := boxN_facts (x := ⟨14, -1, some ⟨w1.heap.size, 0, none⟩, 1, 1⟩) q1
          refine hK.out _ _ (fun _ => t2) ?_
          clear hK K hown6 hg6 hob6 q2 q3 q4 q5 q6 q7 HCp HA5 HN5 HR5 HB5 hO5 hown5
          refine anyT_one (k := 7) (by kernel_rfl) rfl (fun K hK => ?_)
          go_simp
          refine hK.out _ _ (fun _ => t2) ?_
          clear hK K
          refine anyT_one (k := 8) (by kernel_rfl) rfl (fun K hK => ?_)
          go_simp
          refine hK.out _ _ (fun hno => absurd rfl (hno _ rfl ⟨1, .phase⟩ (by simp) (by rfl))) ?_
          clear hK K t0 t1 t2 f0 f1 f2 q1
          refine anyT_done (by kernel_rfl) ?_
          obtain ⟨⟨t0, t1, t2⟩, _⟩ := boxN_facts (x := ⟨14, -1, a6, nvs.length + 1, c6⟩) HQ2.out
          obtain ⟨⟨s0, s1, s2⟩, f0, f1, f2⟩ := boxN_facts HQ3.out
          dsimp only at t0 t1 t2
          go_wp2_with fail
          go_roundg g
          case rel =>
            refine ⟨by omega, _, _, _, hR', HPt.out.1, HPt.out.2.1, HPt.out.2.2.1, HPt.out.2.2.2, HRp.out⟩
          case measure => omega
    · rw [if_neg hp] at hR'
      simp only [if_neg hp] at HS1
      by_cases hq : wordT L j' = [91]
      · rw [if_pos hq] at hR'
        simp only [if_pos hq] at HS2
        have hPr : ∀ b, (P b ∨ w.heap.size ≤ b) → b ≠ r := fun b hb => hb.elim (HP.out b) (fun h => by omega)
        cases he : exF L g 0 1 d (j' + 1) m' ks with
        | none => rw [he] at hR'; cases hR'
        | some R1 =>
         rw [he] at hR'
         have HE := hid (fun W => expression_step (h0 g (by omega)) d (j' + 1) m' ks R1 he W)
         unfold ExPost at HE
         cases R1 with
         | error y =>
          cases hR'
          dsimp only at HE ⊢
          rw [thrown_chain] at HE
          go_wp2_with fail
          refine HS1.out.mono ?_
          rintro e w1 ⟨rfl, n1, rfl⟩
          go_wp2_with fail
          refine (HS2.out _).mono ?_
          rintro e w2 ⟨rfl, hc2, hk2, _⟩
          have HC2 := hid hc2
          have hkd := (kept_of_below (X := (· = r)) (dN_below (Below.refl wr.heap.size wr) n1)).trans hk2
          have HK2 := hid (HK.out.trans hkd)
          have HN2 := hid ((hkd.block _ (lt_of_block HN.out) (by omega)).trans HN.out)
          have HR2 := hid ((hkd.block _ (lt_of_block HR0.out) (by omega)).trans HR0.out)
          have HX2 := hid (HX.out.kept fun b hb hlt => hkd.block b hlt (hPr b hb.1))
          have HCe := hid (fun W (hb : Below w2.heap.size w2 W) => (boxN_facts ((hb.block _ (lt_of_block HN2.out)).trans HN2.out)).1)
          clear hc2 hk2 hkd
          go_wp2_with fail
          refine wp_region_any (by kernel_rfl) ?_
          refine wpAny_take (i := 1) (v := .pointer (some ⟨r, 0, none⟩)) rfl (by kernel_rfl) (by kernel_rfl) (by kernel_rfl) (fun _ _ _ h => h) (Or.inl ⟨by rfl, ?_⟩) ?_
          · intro W
            go_simp
          refine takeT (C := fun W => W.cell? ⟨w.heap.size, 0, none⟩ = some (.int .i64 x'.kind) ∧ W.cell? ⟨w.heap.size, 1, none⟩ = some (.int .i64 x'.tok) ∧ W.cell? ⟨w.heap.size, 2, none⟩ = some (.slice x'.a x'.n x'.c)) (i := 0) (v := .agg #[.int .i64 x'.kind, .int .i64 x'.tok, .slice x'.a x'.n x'.c]) rfl (by kernel_rfl) (by kernel_rfl) (by kernel_rfl) (fun _ _ _ h => h) (Or.inl ⟨by rfl, ?_⟩) (HCe.out _ (Below.refl _ _).drew) ?_
          · intro W hSw
            try dsimp only at hSw
            go_simp
          refine anyT_one (k := 2) (by kernel_rfl) rfl (fun K hK => ?_)
          go_simp
          go_wp2_with (go_at_call 41; refine (HE.out _ (HC2.out.below (Below.refl _ _).drew)).mono ?_; rintro e w5 ⟨rfl, ⟨i', hc5⟩, hk5⟩)
          exact ⟨rfl, rfl, ⟨i', hc5⟩, (HK2.out.trans (kept_of_below (Below.refl _ _).drew)).trans hk5⟩
         | ok y =>
          obtain ⟨m5, ks5, j5⟩ := y
          dsimp only at HE hR'
          unfold aggN at HE
          go_wp2_with fail
          refine HS1.out.mono ?_
          rintro e w1 ⟨rfl, n1, rfl⟩
          go_wp2_with fail
          refine (HS2.out _).mono ?_
          rintro e w2 ⟨rfl, hc2, hk2, _⟩
          have HC2 := hid hc2
          have hkd := (kept_of_below (X := (· = r)) (dN_below (Below.refl wr.heap.size wr) n1)).trans hk2
          have HK2 := hid (HK.out.trans hkd)
          have HN2 := hid ((hkd.block _ (lt_of_block HN.out) (by omega)).trans HN.out)
          have HR2 := hid ((hkd.block _ (lt_of_block HR0.out) (by omega)).trans HR0.out)
          have HX2 := hid (HX.out.kept fun b hb hlt => hkd.block b hlt (hPr b hb.1))
          have HCe := hid (fun W (hb : Below w2.heap.size w2 W) => (boxN_facts ((hb.block _ (lt_of_block HN2.out)).trans HN2.out)).1)
          clear hc2 hk2 hkd
          go_wp2_with fail
          refine wp_region_any (by kernel_rfl) ?_
          refine wpAny_take (i := 1) (v := .pointer (some ⟨r, 0, none⟩)) rfl (by kernel_rfl) (by kernel_rfl) (by kernel_rfl) (fun _ _ _ h => h) (Or.inl ⟨by rfl, ?_⟩) ?_
          · intro W
            go_simp
          refine takeT (C := fun W => W.cell? ⟨w.heap.size, 0, none⟩ = some (.int .i64 x'.kind) ∧ W.cell? ⟨w.heap.size, 1, none⟩ = some (.int .i64 x'.tok) ∧ W.cell? ⟨w.heap.size, 2, none⟩ = some (.slice x'.a x'.n x'.c)) (i := 0) (v := .agg #[.int .i64 x'.kind, .int .i64 x'.tok, .slice x'.a x'.n x'.c]) rfl (by kernel_rfl) (by kernel_rfl) (by kernel_rfl) (fun _ _ _ h => h) (Or.inl ⟨by rfl, ?_⟩) (HCe.out _ (Below.refl _ _).drew) ?_
          · intro W hSw
            try dsimp only at hSw
            go_simp
          refine anyT_one (k := 2) (by kernel_rfl) rfl (fun K hK => ?_)
          go_simp
          go_wp2_with (go_at_call 41; refine (HE.out _ (HC2.out.below (Below.refl _ _).drew)).mono ?_; rintro e w5 ⟨x5, rfl, hx5, hc5, hk5⟩)
          have hk25 : Kept (· = r) w2 w5 := (kept_of_below (Below.refl _ _).drew).trans hk5
          have hN5 := (hk25.block _ (lt_of_block HN2.out) (by omega)).trans HN2.out
          have hR5 := (hk25.block _ (lt_of_block HR2.out) (by omega)).trans HR2.out
          have hz2 := lt_of_block HR2.out
          have hz5 := hk25.size
          have hx5' : NdIs w5 (fun b => (P b ∨ w.heap.size ≤ b) ∧ b ≠ w.heap.size ∧ b ≠ w.heap.size + 1) x5 m5 := hx5.mono fun b hb _ => ⟨.inr (by have : w2.heap.size ≤ b := hb; omega), by have : w2.heap.size ≤ b := hb; omega, by have : w2.heap.size ≤ b := hb; omega⟩
          have hx5'' := HX2.out.kept (w' := w5) fun b hb hlt => hk25.block b hlt (hPr b hb.1)
          have HKn := hid (kids_new (Q := fun b => (P b ∨ w.heap.size ≤ b) ∧ b ≠ w.heap.size ∧ b ≠ w.heap.size + 1) (NdsIs.two hx5'' hx5') (by simp) (fun b hb _ => hb) ⟨.inr (by omega), by omega, by omega⟩)
          have HA5 := hid (below_new w5 (.cells (cellsN [x', x5]).toArray 27))
          have HC5 := hid hc5
          have HK5 := hid (HK2.out.trans hk25)
          have HN5 := hid hN5
          have HR5 := hid hR5
          refine hK.out _ _ (fun _ => (boxN_facts hN5).1) ?_
          clear hK K hx5 hc5 hk5 hk25 hN5 hR5 hx5' hx5''
          refine anyT_one (k := 3) (by kernel_rfl) rfl (fun K hK => ?_)
          go_simp
          refine hK.out _ _ (fun _ => (boxN_facts ((HA5.out.block _ (lt_of_block HN5.out)).trans HN5.out)).1) ?_
          clear hK K
          refine anyT_one (k := 4) (by kernel_rfl) rfl (fun K hK => ?_)
          go_simp
          refine (node_any 15 _ 2 2 _).mono ?_
          rintro e w7 ⟨rfl, hb7⟩
          have hb57 := HA5.out.trans (hb7.mono HA5.out.size)
          have hN7 := (hb57.block _ (lt_of_block HN5.out)).trans HN5.out
          have hR7 := (hb57.block _ (lt_of_block HR5.out)).trans HR5.out
          have hz7 := hb57.size
          have HPt := hid (put_at (w := w) (B := w.heap.size) (W := w7) (x := ⟨15, -1, some ⟨w5.heap.size, 0, none⟩, 2, 2⟩) (n := .mk 15 (-1) [m', m5]) (u := x') (P := fun b => (P b ∨ w.heap.size ≤ b) ∧ b ≠ w.heap.size ∧ b ≠ w.heap.size + 1) hr0 HZ.out.2.1 (Nat.le_refl _) hN7 ⟨rfl, rfl, HKn.out.kept fun b _ hlt => hb7.block b hlt⟩ (fun b hb => hb.2.1) (HC5.out.below hb57) (HK5.out.trans (kept_of_below hb57)))
          have HRp : Hid ((putN w7 w.heap.size ⟨15, -1, some ⟨w5.heap.size, 0, none⟩, 2, 2⟩).heap[w.heap.size + 1]? = some (boxN zeroN)) := (putN_other _ _ _ _ (by omega)).trans hR7
          obtain ⟨⟨x0, x1, x2⟩, z0, z1, z2⟩ := boxN_facts hN7
          refine hK.out _ _ (fun _ => ⟨x0, x1, x2⟩) ?_
          clear hK K hb7 hb57 hN7 hR7 HKn HA5 HC5 HK5 HN5 HR5
          unfold aggN
          dsimp only
          refine anyT_one (k := 5) (by kernel_rfl) rfl (fun K hK => ?_)
          go_simp
          refine hK.out _ _ (fun hno => absurd rfl (hno _ rfl ⟨0, .phase⟩ (by simp) (by rfl))) ?_
          clear hK K
          refine anyT_done (by kernel_rfl) ?_
          have HM := hid (must_any ⟨#[93]⟩ (by decide) _ HPt.out.2.2.1)
          unfold MustPost at HM
          rw [show (⟨#[93]⟩ : ByteArray).data.toList = [93] from rfl] at HM
          unfold putN at HPt HRp HM
          dsimp only at HPt HRp HM
          clear x0 x1 x2 z0 z1 z2
          go_wp2_with fail
          generalize ((w7.setCell ⟨w.heap.size, 0, none⟩ (.int .i64 15)).setCell ⟨w.heap.size, 1, none⟩ (.int .i64 (-1))).setCell ⟨w.heap.size, 2, none⟩ (.slice (some ⟨w5.heap.size, 0, none⟩) 2 2) = wp at *
          by_cases hq3 : wordT L j5 = [93]
          · rw [if_pos hq3] at hR'
            simp only [if_pos hq3] at HM
            refine HM.out.mono ?_
            rintro e w8 ⟨rfl, hc8, hk8, _⟩
            have HQ : Hid (BhSt r la lc L vn d ks R P w g w8) := ⟨_, _, _, hR', (hk8.block _ (lt_of_block HPt.out.1) (by omega)).trans HPt.out.1, HPt.out.2.1.kept fun b hb hlt => hk8.block b hlt (hPr b hb.1), hc8, HPt.out.2.2.2.trans hk8, (hk8.block _ (lt_of_block HRp.out) (by omega)).trans HRp.out⟩
            clear hc8 hk8
            go_wp2_with fail
            go_roundg g
            case rel => exact ⟨by omega, HQ.out⟩
            case measure => omega
          · rw [if_neg hq3] at hR'
            simp only [if_neg hq3] at HM
            cases hR'
            rw [thrown_chain] at HM
            refine HM.out.mono ?_
            rintro e w8 ⟨rfl, hb8⟩
            exact ⟨rfl, rfl, ⟨j5, HPt.out.2.2.1.below hb8⟩, HPt.out.2.2.2.trans (kept_of_below hb8)⟩
      · rw [if_neg hq] at hR'
        simp only [if_neg hq] at HS2
        cases hR'
        go_wp2_with fail
        refine HS1.out.mono ?_
        rintro e w1 ⟨rfl, n1, rfl⟩
        go_wp2_with fail
        refine (HS2.out _).mono ?_
        rintro e w2 ⟨rfl, n2, rfl⟩
        rw [World.drewN_drewN]
        have hdn := dN_below (Below.refl wr.heap.size wr) (n1 + n2)
        have HG := hid (put_at (B := w.heap.size + 1) (u := zeroN) hr0 HZ.out.2.1 (by omega) ((dN_heap wr (w.heap.size + 1) (n1 + n2)).trans HR0.out) (HX.out.kept (w' := wr.drewN (n1 + n2)) fun b _ _ => dN_heap wr b _) (fun b hb => hb.2.2) (HC.out.draws (n1 + n2)) (HK.out.trans (kept_of_below hdn)))
        obtain ⟨⟨x0, x1, x2⟩, _⟩ := boxN_facts ((dN_heap wr w.heap.size (n1 + n2)).trans HN.out)
        obtain ⟨⟨y0, y1, y2⟩, z0, z1, z2⟩ := boxN_facts ((dN_heap wr (w.heap.size + 1) (n1 + n2)).trans HR0.out)
        dsimp only [zeroN] at y0 y1 y2
        go_wp2_with fail
        exact bodyPost_ret (node_ret Try.results65 (g := w.heap.size + 1) (x := x') HG.out.1 _ rfl) rfl ⟨x', rfl, HG.out.2.1.mono fun b hb _ => hb.1, HG.out.2.2⟩
end
section
open Go.RowKit Go.Shelf

/-- What stands between a part's beginning, and what is behind its innermost one. -/
theorem part_in {L : List Tk} {f d i : Nat} {n : Nd} {ks : List Nd} {R : Got (Nd × List Nd × Nat)}
    (hR : (if wordT L i = [40] then match exF L f 0 1 d (i + 1) n ks with
        | none => none
        | some (.error x) => some (.error x)
        | some (.ok (m, _, j)) => if wordT L j = [41] then exF L f 3 0 d (j + 1) m ks else some (.error (2, j))
      else if nameT L i = true then exF L f 3 0 d (i + 1) (.mk 10 (i : Int) []) ks
      else exF L f 3 0 d (i + 1) (.mk 11 (i : Int) []) ks) = some R) :
    ∃ R1, inR L f d i n ks = some R1 ∧ match R1 with
      | .error x => R = .error x
      | .ok (m, _, j) => exF L f 3 0 d j m ks = some R := by
  unfold inR
  by_cases hp : wordT L i = [40]
  · rw [if_pos hp] at hR ⊢
    cases he : exF L f 0 1 d (i + 1) n ks with
    | none => rw [he] at hR; cases hR
    | some R0 =>
      rw [he] at hR
      cases R0 with
      | error x => cases hR; exact ⟨_, rfl, rfl⟩
      | ok y =>
        obtain ⟨m, ks', j⟩ := y
        dsimp only at hR ⊢
        by_cases hq : wordT L j = [41]
        · rw [if_pos hq] at hR ⊢
          exact ⟨_, rfl, hR⟩
        · rw [if_neg hq] at hR ⊢
          cases hR
          exact ⟨_, rfl, rfl⟩
  · rw [if_neg hp] at hR ⊢
    by_cases hq : nameT L i = true
    · rw [if_pos hq] at hR ⊢
      exact ⟨_, rfl, hR⟩
    · rw [if_neg hq] at hR ⊢
      exact ⟨_, rfl, hR⟩

set_option maxRecDepth 100000 in
set_option maxHeartbeats 2000000 in
theorem part_step {r : Nat} {la : Option Addr} {lc : Nat} {L : List Tk} {vn : Value} (f : Nat) (h0 : Ok0 r la lc L vn f) (h2 : Ok2 r la lc L vn f) (h3 : Ok3 r la lc L vn f) : Ok2 r la lc L vn (f + 1) := by
  intro d i n ks R hR w hw
  have HZ := hid (begin_at hw)
  have h := hw.below (below_new w (boxN zeroN))
  have HK0 := hid (kept_of_below (X := (· = r)) (below_new w (boxN zeroN)))
  have HN0 := hid (heap_alloc_new w (boxN zeroN))
  have hrw := hw.lt
  clear hw
  have HE := hid (quiet_at fun n => partNext_any _ (h.draws n))
  have HEb := hid (fun n => enter_any (partT L i) _ (h.draws n))
  have HB := hid (fun n => dN_below (Below.refl (w.alloc (boxN zeroN)).heap.size (w.alloc (boxN zeroN))) n)
  unfold EnterPost at HEb
  rw [exF] at hR
  unfold ExPost
  dsimp only [boxN, zeroN] at *
  cases hs : stopT L (partT L i) d i with
  | some x =>
    rw [hs] at hR HEb
    cases hR
    generalize partT L i = b at *
    dsimp only at HEb ⊢
    have HD := hid h
    unfold thrownT at HEb ⊢
    clear h h0 h2 h3
    go_enter_defers Try.func56, Try.ntmps56
    go_wp2_with fail
    generalize w.alloc (.cells #[.int .i64 0, .int .i64 0, .slice none 0 0] 27) = w0 at *
    refine (HE.out _ ⟨0, rfl⟩).mono ?_
    rintro e w1 ⟨rfl, n1, rfl⟩
    go_wp2_with fail
    refine (HEb.out _).mono ?_
    rintro e w2 ⟨rfl, hb2⟩
    go_wp2_with fail
    have hb3 := (HB.out n1).trans (hb2.mono (HB.out n1).size)
    exact ⟨rfl, ⟨i, HD.out.below hb3⟩, HK0.out.trans (kept_of_below hb3)⟩
  | none =>
    rw [hs] at hR HEb
    have hil : i < L.length := by
      unfold stopT at hs
      by_cases hl : L.length ≤ i
      · rw [if_pos hl] at hs; cases hs
      · omega
    dsimp only at hR HEb
    clear hs h
    generalize partT L i = bb at *
    go_enter_defers Try.func56, Try.ntmps56
    refine Code.wp_mono (postL_imp (r := r) (la := la) (lc := lc) (L := L) (vn := vn) (d := d)) ?_
    go_wp2_with fail
    generalize w.alloc (.cells #[.int .i64 0, .int .i64 0, .slice none 0 0] 27) = w0 at *
    refine (HE.out _ ⟨0, rfl⟩).mono ?_
    rintro e w1 ⟨rfl, n1, rfl⟩
    go_wp2_with fail
    refine (HEb.out _).mono ?_
    rintro e w2 ⟨rfl, hc2, hk2⟩
    have HK2 := hid ((HK0.out.trans (kept_of_below (HB.out n1))).trans hk2)
    have HN2 : Hid (w2.heap[w.heap.size]? = some (.cells #[.int .i64 0, .int .i64 0, .slice none 0 0] 27)) := (hk2.block _ (lt_of_block ((dN_heap _ _ _).trans HN0.out)) (by omega)).trans ((dN_heap _ _ _).trans HN0.out)
    have HC2 := hid hc2
    have HW := hid (quiet_at fun n => word_any _ (hc2.draws n))
    have HA := hid (quiet_at (w := w2) fun n => ahead_any (wrdB L i) (w2.drewN n))
    rw [wrdB_is] at HA
    have HBd := hid (fun n => dN_below (Below.refl w2.heap.size w2) n)
    have HDh := hid (fun n => dN_heap w2 w.heap.size n)
    clear hk2 hc2 HE HEb HB HK0 HN0
    cases hah : aheadW (wordT L i) with
    | true =>
      rw [hah] at hR HA
      rw [if_pos rfl] at hR
      cases he : exF L f 2 0 (d + 1) (i + 1) n ks with
      | none => rw [he] at hR; cases hR
      | some R1 =>
        rw [he] at hR
        have HP := hid (fun W => h2 (d + 1) (i + 1) n ks R1 he W)
        have HT := hid (fun n => take_any 12 _ (HC2.out.draws n) hil)
        unfold ExPost at HP
        unfold aggN at HT
        go_wp2_with (first | (go_at_call 28; refine (HW.out _ ⟨0, rfl⟩).mono ?_; rintro e w1 ⟨rfl, n3, rfl⟩) | (go_at_call 64; refine (HA.out _ ⟨_, rfl⟩).mono ?_; rintro e w1 ⟨rfl, n4, rfl⟩) | (go_at_call 39; refine (HT.out _).mono ?_; rintro e w3 ⟨rfl, hc3, hk3⟩))
        have hk24 := (kept_of_below (X := (· = r)) (HBd.out n4)).trans hk3
        have hb34 := below_new w3 (boxN ⟨12, i, none, 0, 0⟩)
        have HC4 := hid (hc3.below hb34)
        have HK4 := hid ((HK2.out.trans hk24).trans (kept_of_below hb34))
        have hN3 := (hk3.block _ (lt_of_block ((HDh.out n4).trans HN2.out)) (by omega)).trans ((HDh.out n4).trans HN2.out)
        have HN4 := hid ((hb34.block _ (lt_of_block hN3)).trans hN3)
        have HB4 := hid (heap_alloc_new w3 (boxN ⟨12, i, none, 0, 0⟩))
        have hz3 := lt_of_block hN3
        have hz4 : (w3.alloc (boxN ⟨12, i, none, 0, 0⟩)).heap.size = w3.heap.size + 1 := by simp
        dsimp only [boxN] at HC4 HK4 HN4 HB4 hz4
        clear hc3 hk3 hk24 hb34 hN3
        generalize w3.alloc (.cells #[.int .i64 12, .int .i64 (i : Int), .slice none 0 0] 27) = w4 at *
        cases R1 with
        | error y =>
          cases hR
          dsimp only at HP
          rw [thrown_chain] at HP
          refine (HP.out _ HC4.out).mono ?_
          rintro e w5 ⟨rfl, ⟨i', hc5⟩, hk5⟩
          exact .inr ⟨rfl, _, _, i', rfl, hc5, fun W' hc' hk' => ⟨rfl, ⟨i', hc'⟩, (HK4.out.trans hk5).trans hk'⟩⟩
        | ok y =>
          obtain ⟨m, ks1, j⟩ := y
          cases hR
          dsimp only at HP
          unfold aggN at HP
          refine (HP.out _ HC4.out).mono ?_
          rintro e w5 ⟨x5, rfl, hx5, hc5, hk5⟩
          have hb5 := below_new w5 (boxN x5)
          have hz5 := hk5.size
          have hB5 := (hk5.block _ (lt_of_block HB4.out) (by omega)).trans HB4.out
          have hN5 := (hk5.block _ (lt_of_block HN4.out) (by omega)).trans HN4.out
          have hB6 := (hb5.block _ (lt_of_block hB5)).trans hB5
          have hN6 := (hb5.block _ (lt_of_block hN5)).trans hN5
          have HB7 := hid (Go.Joins.block_setCell (i := 2) hB6 (.slice (some ⟨w5.heap.size, 0, none⟩) 1 1))
          have HN7 := hid ((Below.heap_setCell (w5.alloc (boxN x5)) ⟨w3.heap.size, 2, none⟩ (.slice (some ⟨w5.heap.size, 0, none⟩) 1 1) w.heap.size (by show w.heap.size ≠ w3.heap.size; omega)).trans hN6)
          have hK6 : KidsAt (w5.alloc (boxN x5)) (fun b => w.heap.size < b ∧ b ≠ w3.heap.size) (.slice (some ⟨w5.heap.size, 0, none⟩) 1 1) [m] :=
            kids_new (P := fun b => w.heap.size < b ∧ b ≠ w3.heap.size) (NdsIs.one (hx5.mono fun b hb _ => ⟨by omega, by omega⟩)) (by simp) (fun b hb _ => hb) ⟨by omega, by omega⟩
          have HG := hid (give_ret (u := zeroN) (w := w) (W := (w5.alloc (boxN x5)).setCell ⟨w3.heap.size, 2, none⟩ (.slice (some ⟨w5.heap.size, 0, none⟩) 1 1)) (x := ⟨12, i, some ⟨w5.heap.size, 0, none⟩, 1, 1⟩) (n := .mk 12 (i : Int) [m]) (P := fun b => w.heap.size < b ∧ b ≠ w3.heap.size) HZ.out.1 HZ.out.2.1 HN7.out
            ⟨rfl, rfl, hK6.kept fun b hb _ => Below.heap_setCell _ _ _ _ (by show b ≠ w3.heap.size; exact hb.2)⟩ (fun b hb => by omega)
            ((hc5.below hb5).other (B := w.heap.size) hrw HZ.out.2.1 (by simp) fun b hb => Below.heap_setCell _ _ _ _ (by show b ≠ w3.heap.size; omega))
            (Kept.setFar ((HK4.out.trans hk5).trans (kept_of_below hb5)) (by show w.heap.size ≤ w3.heap.size; omega) _) (Q := fun b => w.heap.size < b) (fun b hb => hb.1))
          have HPb := hid (putN_block ⟨12, i, some ⟨w5.heap.size, 0, none⟩, 1, 1⟩ (u := zeroN) HN7.out)
          unfold putN at HPb HG
          obtain ⟨⟨t0, t1, t2⟩, f0, f1, f2⟩ := boxN_facts (x := ⟨12, i, none, 0, 0⟩) hB6
          obtain ⟨⟨y0, y1, y2⟩, z0, z1, z2⟩ := boxN_facts (x := zeroN) hN6
          have hne : w.heap.size ≠ w3.heap.size := by omega
          dsimp only [boxN, zeroN] at HB7 HN7 HG HPb t0 t1 t2 f0 f1 f2 y0 y1 y2 z0 z1 z2
          clear hx5 hc5 hk5 hb5 hB5 hN5 hB6 hN6 hK6
          go_wp2_with fail
          refine leaves_back HG.out.2.2.1 fun W' hc' hk' => ⟨_, node_ret Try.results56 (g := w.heap.size) (x := ⟨12, i, some ⟨w5.heap.size, 0, none⟩, 1, 1⟩) ((hk'.block _ (lt_of_block HPb.out) (by omega)).trans HPb.out) _ rfl, ?_⟩
          exact ⟨_, rfl, (HG.out.2.1.kept fun b hb hlt => hk'.block b hlt (by omega)).mono fun b hb _ => Nat.le_of_lt hb, hc', HG.out.2.2.2.trans hk'⟩
    | false =>
      rw [hah] at hR HA
      rw [if_neg (by decide)] at hR
      go_wp2_with (first | (go_at_call 28; refine (HW.out _ ⟨0, rfl⟩).mono ?_; rintro e w1 ⟨rfl, n3, rfl⟩) | (go_at_call 64; refine (HA.out _ ⟨_, rfl⟩).mono ?_; rintro e w1 ⟨rfl, n4, rfl⟩))
      obtain ⟨R1, hin, hR1⟩ := part_in hR
      have HI := hid (fun W => inner_step h0 (d + 1) i n ks R1 hin hil W)
      unfold ExPost at HI
      cases R1 with
      | error y =>
        subst hR1
        dsimp only at HI
        rw [thrown_chain] at HI
        refine (HI.out _ (HC2.out.draws n4)).mono ?_
        rintro e w5 ⟨rfl, ⟨i', hc5⟩, hk5⟩
        exact .inr ⟨rfl, _, _, i', rfl, hc5, fun W' hc' hk' => ⟨rfl, ⟨i', hc'⟩, ((HK2.out.trans (kept_of_below (HBd.out n4))).trans hk5).trans hk'⟩⟩
      | ok y =>
        obtain ⟨m, ks1, j⟩ := y
        dsimp only at HI hR1
        refine (HI.out _ (HC2.out.draws n4)).mono ?_
        rintro e w5 ⟨x5, rfl, hx5, hc5, hk5⟩
        have hz2 := lt_of_block HN2.out
        have hz5 := hk5.size
        rw [dN_size] at hz5
        have HBe := hid (h3 (d + 1) j m ks R hR1 w5 x5 (fun b => w.heap.size < b) (hx5.mono fun b hb _ => by have hb' : w2.heap.size ≤ b := hb; omega) (fun b hb => by omega) hc5)
        have HK5 := hid ((HK2.out.trans (kept_of_below (HBd.out n4))).trans hk5)
        have HN5 := hid ((hk5.block _ (lt_of_block ((HDh.out n4).trans HN2.out)) (by omega)).trans ((HDh.out n4).trans HN2.out))
        unfold ExPost at HBe
        unfold aggN at HBe
        clear hx5 hc5 hk5
        cases R with
        | error y =>
          dsimp only at HBe
          rw [thrown_chain] at HBe
          unfold aggN
          go_wp2_with fail
          refine HBe.out.mono ?_
          rintro e w6 ⟨rfl, ⟨i', hc6⟩, hk6⟩
          exact .inr ⟨rfl, _, _, i', rfl, hc6, fun W' hc' hk' => ⟨rfl, ⟨i', hc'⟩, (HK5.out.trans hk6).trans hk'⟩⟩
        | ok y =>
          obtain ⟨m6, ks6, j6⟩ := y
          dsimp only at HBe
          unfold aggN
          go_wp2_with fail
          refine HBe.out.mono ?_
          rintro e w6 ⟨x6, rfl, hx6, hc6, hk6⟩
          have hN6 := (hk6.block _ (lt_of_block HN5.out) (by omega)).trans HN5.out
          have HG := hid (give_ret (u := zeroN) (w := w) (W := w6) (x := x6) (n := m6) (P := fun b => w.heap.size < b) HZ.out.1 HZ.out.2.1 hN6 (hx6.mono fun b hb _ => hb.elim id (fun h => by omega)) (fun b hb => by omega) hc6 (HK5.out.trans hk6) (Q := fun b => w.heap.size < b) (fun b hb => hb))
          obtain ⟨⟨y0, y1, y2⟩, z0, z1, z2⟩ := boxN_facts (x := zeroN) hN6
          dsimp only [zeroN] at y0 y1 y2
          have HPb := hid (putN_block x6 (u := zeroN) hN6)
          unfold putN at HPb HG
          clear hx6 hc6 hk6 hN6
          go_wp2_with fail
          refine leaves_back HG.out.2.2.1 fun W' hc' hk' => ⟨_, node_ret Try.results56 (g := w.heap.size) (x := x6) ((hk'.block _ (lt_of_block HPb.out) (by omega)).trans HPb.out) _ rfl, ?_⟩
          exact ⟨_, rfl, (HG.out.2.1.kept fun b hb hlt => hk'.block b hlt (by omega)).mono fun b hb _ => Nat.le_of_lt hb, hc', HG.out.2.2.2.trans hk'⟩

/-- All that reads expressions, whatever the steps. -/
theorem ex_all {r : Nat} {la : Option Addr} {lc : Nat} {L : List Tk} {vn : Value} : ∀ (f : Nat), f ≤ 1048576 → ∀ g, g ≤ f → Ok0 r la lc L vn g ∧ Ok2 r la lc L vn g ∧ Ok3 r la lc L vn g ∧ Ok4 r la lc L vn g
  | 0, _, g, hg => by
    obtain rfl : g = 0 := by omega
    refine ⟨fun l d i n ks R h => ?_, fun d i n ks R h => ?_, fun d i n ks R h => ?_, fun d i n ks R h => ?_⟩ <;> (rw [exF] at h; cases h)
  | f + 1, hf, g, hg => by
    have ih := ex_all (r := r) (la := la) (lc := lc) (L := L) (vn := vn) f (by omega)
    by_cases h : g ≤ f
    · exact ih g h
    · obtain rfl : g = f + 1 := by omega
      exact ⟨between_step f (fun g hg => (ih g hg).1) (ih f (Nat.le_refl _)).2.1, part_step f (ih f (Nat.le_refl _)).1 (ih f (Nat.le_refl _)).2.1 (ih f (Nat.le_refl _)).2.2.1, behind_step f (fun g hg => (ih g hg).1) (fun g hg => (ih g hg).2.2.2), listed_step f (by omega) (fun g hg => (ih g hg).1)⟩
end
end Go.Proofs.Ytocklchafmlfkaa
