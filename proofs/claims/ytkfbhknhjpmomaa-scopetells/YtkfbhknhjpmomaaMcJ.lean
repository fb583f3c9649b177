/- Walks of the document's own SameMacro, Equal and EqualMacros. · Walks of the document's own Equal and EqualMacros, of what is the same. · Walks of the document's own Has, Find, Define and Undef. · Walk of the document's own At. -/
import Derived.Test.YtkfbhknhjpmomaaMcA
import Derived.Test.YtkfbhknhjpmomaaRxJoin
import Derived.Deep.RegionHeld3
import Derived.Test.YtkfbhknhjpmomaaApA
import Derived.Test.YtkfbhknhjpmomaaMcB
namespace Go.Proofs.Ytkfbhknhjpmomaa
section
section
open Go.RowKit Go.Shelf

theorem sameTs_all : ∀ (a b : List Tk), sameTs a b = true ↔ a.length = b.length ∧ ∀ (k : Nat) x y, a[k]? = some x → b[k]? = some y → sameT x y = true
  | [], [] => by simp [sameTs]
  | [], _ :: _ => by simp [sameTs]
  | _ :: _, [] => by simp [sameTs]
  | x :: r, y :: s => by
    have ih := sameTs_all r s
    simp only [sameTs, Bool.and_eq_true, ih, List.length_cons]
    constructor
    · rintro ⟨h0, hl, ha⟩
      refine ⟨by omega, fun k u v hu hv => ?_⟩
      cases k with
      | zero => simp at hu hv; subst hu hv; exact h0
      | succ k => exact ha k u v (by simpa using hu) (by simpa using hv)
    · rintro ⟨hl, ha⟩
      exact ⟨ha 0 x y rfl rfl, by omega, fun k u v hu hv => ha (k + 1) u v (by simpa using hu) (by simpa using hv)⟩
/-- What must be the same ahead of parameters and bodies. -/
def HeadSame (mx my : Mc) : Prop := mx.name.toList = my.name.toList ∧ mx.call = my.call ∧ mx.more = my.more ∧ mx.params.length = my.params.length ∧ mx.body.length = my.body.length
theorem sameM_head {mx my : Mc} (h : ¬ HeadSame mx my) : sameM mx my = false := by
  rcases hs : sameM mx my with _ | _
  · rfl
  · exfalso
    apply h
    have hk := (sameM_eq mx my).1 hs
    unfold keyM at hk
    simp only [Prod.mk.injEq] at hk
    have h5 := congrArg List.length hk.2.2.2.2
    simp only [List.length_map] at h5
    exact ⟨hk.1, hk.2.1, hk.2.2.1, by rw [hk.2.2.2.1], h5⟩
theorem sameM_par {mx my : Mc} {k : Nat} {p q : ByteArray} (hp : mx.params[k]? = some p) (hq : my.params[k]? = some q) (h : (p.toList == q.toList) = false) : sameM mx my = false := by
  rcases hs : sameM mx my with _ | _
  · rfl
  · exfalso
    have hk := (sameM_eq mx my).1 hs
    unfold keyM at hk
    simp only [Prod.mk.injEq] at hk
    rw [hk.2.2.2.1, hq] at hp
    cases hp
    simp at h
theorem sameM_tok {mx my : Mc} {k : Nat} {x y : Tk} (hp : mx.body[k]? = some x) (hq : my.body[k]? = some y) (h : sameT x y = false) : sameM mx my = false := by
  rcases hs : sameM mx my with _ | _
  · rfl
  · exfalso
    unfold sameM at hs
    simp only [Bool.and_eq_true] at hs
    rw [((sameTs_all _ _).1 hs.2).2 k x y hp hq] at h
    cases h
theorem sameM_all {mx my : Mc} (h : HeadSame mx my) (hp : mx.params = my.params) (hb : ∀ (k : Nat) x y, mx.body[k]? = some x → my.body[k]? = some y → sameT x y = true) : sameM mx my = true := by
  obtain ⟨h1, h2, h3, _, h5⟩ := h
  unfold sameM
  simp only [Bool.and_eq_true, beq_iff_eq, decide_eq_true_eq]
  exact ⟨⟨⟨⟨h1, h2⟩, h3⟩, hp⟩, (sameTs_all _ _).2 ⟨h5, hb⟩⟩
theorem bytes_same {a b : ByteArray} (h : a.toList = b.toList) : a = b := by
  rw [toList_data, toList_data] at h
  cases a; cases b
  congr 1
  exact Array.ext' h
end
section
open Go.RowKit Go.Shelf

end
end
section
open Go.RowKit Go.Shelf

theorem contains_at {ss : List ByteArray} {k : Nat} {x s : ByteArray} (hx : ss[k]? = some x) (h : (x.toList == s.toList) = true) : Lib.containsS ss s = true := by
  rw [Lib.containsS_iff]
  obtain rfl := bytes_same (by simpa using h : x.toList = s.toList)
  exact List.mem_of_getElem? hx
theorem contains_no {ss : List ByteArray} {s : ByteArray} (h : ∀ (j : Nat) x, ss[j]? = some x → (x.toList == s.toList) = false) : Lib.containsS ss s = false := by
  rcases hc : Lib.containsS ss s with _ | _
  · rfl
  · rw [Lib.containsS_iff] at hc
    obtain ⟨j, hj, e⟩ := List.getElem_of_mem hc
    have := h j s (by rw [List.getElem?_eq_getElem hj, e])
    simp at this
set_option maxRecDepth 100000 in
set_option maxHeartbeats 1000000 in
theorem RHas_any (a : Option Addr) (c : Nat) (ss : List ByteArray) (s : ByteArray) (w : World) (hS : StAt w a ss) (hl : ss.length ≤ 1048576) :
    Calls Try.prog 26 #[.slice a ss.length c, .string s] w fun e w' => e = .returned (.bool (Lib.containsS ss s)) ∧ Below w.heap.size w w' := by
  have HS := hid hS
  clear hS
  obtain ⟨N, hN⟩ : ∃ N, ss.length = N := ⟨_, rfl⟩
  have HN := hid hN
  rw [hN] at hl ⊢
  clear hN
  go_enter Try.func26, Try.ntmps26
  go_wp2_with fail
  go_loop [9] (fun x => ∃ k : Nat, k ≤ N ∧ x = .int .i64 k ∧ Hid (∀ (j : Nat) x, j < k → ss[j]? = some x → (x.toList == s.toList) = false)) (fun x => N - (intOf x).toNat)
  case atStart => exact ⟨0, Nat.zero_le _, rfl, fun j x hj => absurd hj (Nat.not_lt_zero _)⟩
  case round =>
    obtain ⟨k, hk, rfl, HC⟩ := hrel
    by_cases hlt : k < N
    · obtain ⟨x, hx⟩ : ∃ x, ss[k]? = some x := ⟨_, List.getElem?_eq_getElem (by rw [HN.out]; exact hlt)⟩
      rcases HS.out with h0 | ⟨b, off, rfl, hb, hc⟩
      · rw [h0] at hx; cases hx
      have hcell := hc k x hx
      have HX := hid hx
      have hki : (k : Int) < (N : Int) := Int.ofNat_lt.2 hlt
      have hk0 : (0 : Int) ≤ (k : Int) := Int.natCast_nonneg _
      have hkp := nxt_k (Nat.le_trans hk (Nat.le_trans hl (by decide)))
      have hkw := nxt_w (Nat.le_trans hk (Nat.le_trans hl (by decide)))
      clear hc hx
      rcases hs : (x.toList == s.toList) with _ | _
      · go_wp2_with fail
        refine ⟨⟨k + 1, hlt, by go_num, fun j y hj hy => ?_⟩, less_j hlt (by go_num)⟩
        by_cases hjk : j < k
        · exact HC.out j y hjk hy
        · obtain rfl : j = k := by omega
          rw [HX.out] at hy
          cases hy
          exact hs
      · have HT := hid (contains_at HX.out hs)
        go_wp2_with fail
        go_ret
        exact ⟨ret_bool HT.out.symm, Below.refl _ _⟩
    · obtain rfl : k = N := by omega
      have HT := hid (contains_no (s := s) (fun j x hx => HC.out j x (by rw [← HN.out]; exact (List.getElem?_eq_some_iff.1 hx).1) hx))
      go_wp2_with fail
      go_ret
      exact ⟨ret_bool HT.out.symm, Below.refl _ _⟩
theorem blk_grown {B : Nat} {a w w2 : World} {g : Nat} (hg : w.grownBy w2 (some g)) (h : Below B a w) (hB : B ≤ w.heap.size) (hr : B ≤ g) : Below B a w2 :=
  h.grown hg hB (fun k e => by cases e; exact hr)
theorem row_grown {B : Nat} {a w w2 : World} {e : TypeId} {size n : Nat} {v : Value} {xs : List Value} (hown : w.ownsRow B e size v n xs) (hg : w.grownBy w2 v.ownBlock) (h : Below B a w) (hB : B ≤ w.heap.size) : Below B a w2 :=
  h.grown hg hB (fun k e => (hown.lt k e).1)
theorem cells_grown {w w2 : World} {b : Nat} {l : List Value} {o : Option Nat} (hg : w.grownBy w2 o) (hlt : b < w.heap.size) (hne : some b ≠ o) (h : ∀ j x, l[j]? = some x → w.cell? ((⟨b, 0, none⟩ : Addr).add j) = some x) :
    ∀ j x, l[j]? = some x → w2.cell? ((⟨b, 0, none⟩ : Addr).add j) = some x := fun j x hx => by
  rw [Addr.add_lit]
  have := h j x hx
  rw [Addr.add_lit] at this
  exact (World.cell?_of_block (a := ⟨b, 0 + j, none⟩) (hg.block b hlt hne)).trans this
theorem cells_alloc {w : World} {a : Addr} {l : List Value} {X : Obj} (h : ∀ j x, l[j]? = some x → w.cell? (a.add j) = some x) : ∀ j x, l[j]? = some x → (w.alloc X).cell? (a.add j) = some x :=
  fun j x hx => Lib.cell?_alloc_some _ (h j x hx)
theorem five_new (w : World) (x : Mv) (T : TypeId) : ∀ j u, (encM x)[j]? = some u → (w.alloc (.cells #[.string x.name, .bool x.call, .slice x.pa x.pn x.pc, .bool x.more, .slice x.ba x.bn x.bc] T)).cell? ((⟨w.heap.size, 0, none⟩ : Addr).add j) = some u := by
  intro j u hu
  rw [Addr.add_lit, Nat.zero_add, Go.Joins.cell_of_block (heap_alloc_new w _), ← Array.getElem?_toList]
  exact hu
theorem row_as {w : World} {base : Nat} {e : TypeId} {size : Nat} {v : Value} {n n' : Nat} {xs xs' : List Value} (h : w.ownsRow base e size v n xs) (hn : n = n') (hx : xs = xs') : w.ownsRow base e size v n' xs' := by subst hn hx; exact h
theorem third_blk (w : World) (X Y Z : Obj) : (((w.alloc X).alloc Y).alloc Z).drew.drew.heap[w.heap.size + 1 + 1]? = some Z := by
  show (((w.alloc X).alloc Y).alloc Z).heap[w.heap.size + 1 + 1]? = some Z
  have := heap_alloc_new ((w.alloc X).alloc Y) Z
  simpa using this
theorem fresh_row {W : World} {B : Nat} {x : Mv} {cs : Array Value} {T : TypeId} (h : W.heap[B]? = some (.cells (#[.string x.name, .bool x.call, .slice x.pa x.pn x.pc, .bool x.more, .slice x.ba x.bn x.bc] ++ cs) T)) : MsAt W (some ⟨B, 0, none⟩) [x] := by
  refine .inr ⟨B, 0, rfl, lt_of_block h, fun j y hy i v hv => ?_⟩
  have hi : i < 5 := by have := (List.getElem?_eq_some_iff.1 hv).1; rwa [encM_length] at this
  cases j with
  | zero =>
    simp at hy
    subst hy
    rw [Go.Joins.cell_of_block h, Nat.zero_mul, Nat.zero_add, Array.getElem?_append_left (by simpa using hi), ← Array.getElem?_toList]
    exact hv
  | succ j => simp at hy
end
section
open Go.RowKit Go.Shelf

def FBy (w : World) (B : Nat) (e f g : Int) : Prop := w.heap[B]? = some (.cells #[.int .i64 e, .int .i64 f, .int .i64 g] 29)
theorem FBy.facts {w : World} {B : Nat} {e f g : Int} (h : FBy w B e f g) :
    w.cell? ⟨B, 0, none⟩ = some (.int .i64 e) ∧ w.cell? ⟨B, 1, none⟩ = some (.int .i64 f) ∧ w.cell? ⟨B, 2, none⟩ = some (.int .i64 g) ∧ w.frozen? ⟨B, 0, none⟩ = false ∧ w.frozen? ⟨B, 1, none⟩ = false ∧ w.frozen? ⟨B, 2, none⟩ = false := by
  unfold FBy at h
  simp [World.cell?, World.frozen?, h]
theorem FBy.new (w : World) (e f g : Int) : FBy (w.alloc (.cells #[.int .i64 e, .int .i64 f, .int .i64 g] 29)) w.heap.size e f g := heap_alloc_new w _
theorem FBy.below {w w' : World} {B : Nat} {e f g : Int} (h : FBy w B e f g) (hb : Below w.heap.size w w') : FBy w' B e f g := (hb.block B (lt_of_block h)).trans h
theorem FBy.set {w : World} {B : Nat} {e f g : Int} (h : FBy w B e f g) (e' f' g' : Int) :
    FBy (((w.setCell ⟨B, 0, none⟩ (.int .i64 e')).setCell ⟨B, 1, none⟩ (.int .i64 f')).setCell ⟨B, 2, none⟩ (.int .i64 g')) B e' f' g' := by
  have h1 := Go.Joins.block_setCell (i := 0) h (.int .i64 e')
  have h2 := Go.Joins.block_setCell (i := 1) h1 (.int .i64 f')
  have h3 := Go.Joins.block_setCell (i := 2) h2 (.int .i64 g')
  unfold FBy
  simpa using h3
theorem FBy.frame {w w1 : World} {base B : Nat} (hb : Below base w w1) (hB : base ≤ B) (u v x : Value) : Below base w (((w1.setCell ⟨B, 0, none⟩ u).setCell ⟨B, 1, none⟩ v).setCell ⟨B, 2, none⟩ x) :=
  ((hb.setCell (p := ⟨B, 0, none⟩) hB u).setCell (p := ⟨B, 1, none⟩) hB v).setCell (p := ⟨B, 2, none⟩) hB x
theorem rat_ret {W : World} {F : Nat} {e f g : Int} (hF : FBy W F e f g) (tmps : Array Value) (h3 : tmps.getD 6 undef = .pointer (some ⟨F, 0, none⟩)) :
    (results Try.f67 tmps).run Try.prog W = .ok (.agg #[.int .i64 e, .int .i64 f, .int .i64 g]) W := by
  obtain ⟨c0, c1, c2, _⟩ := hF.facts
  simp at h3
  simp [results, Try.results67, go_sem, h3, c0, c1, c2]

set_option maxRecDepth 100000 in
set_option maxHeartbeats 1000000 in
/-- At: where token i stands; behind the last one, if there is none. -/
theorem rat_any (a : Option Addr) (c : Nat) (ts : List Tk) (i : Nat) (e0 : Int) (w : World) (hT : TAt w a ts) (hl : ts.length ≤ 1048576) :
    Calls Try.prog 67 #[.slice a ts.length c, .int .i64 (i : Int), .int .i64 e0] w fun e w' => e = .returned (.agg #[.int .i64 e0, .int .i64 (tokAt ts i).file, .int .i64 (tokAt ts i).lo]) ∧ Below w.heap.size w w' := by
  have hi0 : (0 : Int) ≤ (i : Int) := by omega
  by_cases hlt : i < ts.length
  · rcases hT with h0 | ⟨bb, off, rfl, hbb, hc⟩
    · rw [h0] at hlt; simp at hlt
    have hx : ts[i]? = some ts[i] := List.getElem?_eq_getElem hlt
    have hcx := hc i _ hx
    have HP : Hid (tokAt ts i = ts[i]) := tokAt_in hx
    generalize ts[i] = t at hcx HP
    obtain ⟨tk, tt, tsp, tfi, tf, tl, th, tn⟩ := t
    have c4 := hcx 4 _ rfl
    have c5 := hcx 5 _ rfl
    rw [HP.out]
    have hii : (i : Int) < (ts.length : Int) := by omega
    have HK : Hid (∀ W, Below w.heap.size w W → W.cell? ⟨bb, off + i * 11 + 4, none⟩ = some (.int .i64 tf) ∧ W.cell? ⟨bb, off + i * 11 + 5, none⟩ = some (.int .i64 tl)) := fun W hW =>
      ⟨(hW.cell (p := ⟨bb, _, none⟩) hbb).trans c4, (hW.cell (p := ⟨bb, _, none⟩) hbb).trans c5⟩
    obtain ⟨z0, z1, z2, z3, z4, z5⟩ := (FBy.new w 0 0 0).facts
    clear hcx hx hc HP
    go_enter Try.func67, Try.ntmps67
    go_wp2_with fail
    go_region_held3 (fun W => W.cell? ⟨bb, off + i * 11 + 4, none⟩ = some (.int .i64 tf) ∧ W.cell? ⟨bb, off + i * 11 + 5, none⟩ = some (.int .i64 tl))
      (exact HK.out _ (by repeat' (first | exact Below.refl _ _ | apply Below.drew | apply Below.setCell | apply Below.alloc | (simp; done))))
      (fail)
    all_goals go_wp2_with fail
    all_goals (have HF : FBy (w.alloc (.cells #[.int .i64 e0, .int .i64 tf, .int .i64 tl] 29)).drew w.heap.size e0 tf tl := FBy.new w e0 tf tl)
    all_goals exact bodyPost_ret (rat_ret HF _ rfl) rfl ⟨rfl, ((Below.refl _ w).alloc (Nat.le_refl _) _).drew⟩
  · rcases hn : ts.length with _ | n
    · have hts : ts = [] := List.eq_nil_of_length_eq_zero hn
      subst hts
      have hp : tokAt [] i = ⟨0, ⟨#[]⟩, false, false, -1, 0, 0, 0⟩ := by rw [tokAt_out (by simp)]; rfl
      rw [hp]
      clear hn hlt hp
      obtain ⟨z0, z1, z2, z3, z4, z5⟩ := (FBy.new w 0 0 0).facts
      have hnl : ¬ ((i : Int) < 0) := by omega
      go_enter Try.func67, Try.ntmps67
      go_wp2_with fail
      exact bodyPost_ret (rat_ret (FBy.new w e0 (-1) 0) _ rfl) rfl ⟨rfl, (Below.refl _ w).alloc (Nat.le_refl _) _⟩
    · rcases hT with h0 | ⟨bb, off, rfl, hbb, hc⟩
      · rw [h0] at hn; simp at hn
      have hx : ts[n]? = some (ts[n]'(by omega)) := List.getElem?_eq_getElem _
      have hcx := hc n _ hx
      have HP : Hid (tokAt ts i = ⟨0, ⟨#[]⟩, false, false, (ts[n]'(by omega)).file, (ts[n]'(by omega)).hi, 0, 0⟩) := by
        show _ = _
        rw [tokAt_out (by omega)]
        unfold endTk
        have : ts.getLast? = ts[n]? := by rw [List.getLast?_eq_getElem?, show ts.length - 1 = n by omega]
        rw [this, hx]
      generalize ts[n]'(by omega) = t at hcx HP
      obtain ⟨tk, tt, tsp, tfi, tf, tl, th, tn⟩ := t
      have c0 := hcx 0 _ rfl
      have c1 := hcx 1 _ rfl
      have c2 := hcx 2 _ rfl
      have c3 := hcx 3 _ rfl
      have c4 := hcx 4 _ rfl
      have c5 := hcx 5 _ rfl
      have c6 := hcx 6 _ rfl
      have c7 := hcx 7 _ rfl
      have c8 := hcx 8 _ rfl
      have c9 := hcx 9 _ rfl
      have c10 := hcx 10 _ rfl
      simp only [Nat.add_zero] at c0
      rw [HP.out]
      obtain ⟨N, hN⟩ : ∃ N, n + 1 = N := ⟨_, rfl⟩
      rw [hN]
      have hwn : IntKind.i64.wrap ((N : Int) - 1) = (n : Int) := by rw [IntKind.wrap_i64]; omega
      have hn0 : (0 : Int) ≤ (n : Int) := by omega
      have hnN : (n : Int) < (N : Int) := by omega
      have hnN2 : n < N := by omega
      have hN0 : (0 : Int) < (N : Int) := by omega
      have hnl : ¬ ((i : Int) < (N : Int)) := by omega
      obtain ⟨z0, z1, z2, z3, z4, z5⟩ := (FBy.new w 0 0 0).facts
      clear hcx hx hc HP hn hN hlt hl
      go_enter Try.func67, Try.ntmps67
      go_wp2_with fail
      exact bodyPost_ret (rat_ret ((FBy.new w e0 tf th).below ((Below.refl _ _).alloc (Nat.le_refl _) _)) _ rfl) rfl ⟨rfl, ((Below.refl _ w).alloc (Nat.le_refl _) _).alloc (by simp) _⟩
end
end Go.Proofs.Ytkfbhknhjpmomaa
