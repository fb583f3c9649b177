/- A node whose row grows: its block, its row, what lies in it. · What statements defer: leave, and close ahead of it; behind a return, and behind what is thrown. · Statements, plain: what is read goes on, the surroundings stay as many, and the steps are enough. -/
import Derived.Test.YtocklchafmlfkaaTgE
import Derived.Test.YtocklchafmlfkaaTrDedW
import Derived.Test.YtocklchafmlfkaaTgC
import Derived.Test.YtocklchafmlfkaaTgD
namespace Go.Proofs.Ytocklchafmlfkaa
section
open Go.RowKit Go.Shelf

/-- A node that is made, in its block, with its own row; Z is where it will be answered. -/
structure BkRow (base r : Nat) (P : Nat → Prop) (w : World) (k : Int) (Bn Z : Nat) (ks : List Nd) (nvs : List Nv) (a : Option Addr) (c : Nat) (W : World) : Prop where
  bN : W.heap[Bn]? = some (boxN ⟨k, -1, a, nvs.length, c⟩)
  bZ : W.heap[Z]? = some (boxN zeroN)
  row : W.ownsRow w.heap.size 27 3 (.slice a nvs.length c) nvs.length (cellsN nvs)
  nds : NdsIs W (fun b => (P b ∨ w.heap.size ≤ b) ∧ b ≠ Bn ∧ b ≠ Z ∧ (Value.slice a nvs.length c).ownBlock ≠ some b) nvs ks
  ne1 : (Value.slice a nvs.length c).ownBlock ≠ some Bn
  ne2 : (Value.slice a nvs.length c).ownBlock ≠ some Z
  fr : FrT base r w W
theorem rowA_of {W : World} {base : Nat} {v : Value} {n : Nat} {xs : List Value} (h : W.ownsRow base 27 3 v n xs) {b : Nat} (hb : v.ownBlock = some b) : base ≤ b ∧ ∃ cur, W.heap[b]? = some (.cells cur 27) := by
  rcases h.2 with ⟨e, _⟩ | ⟨g, cap, cur, e, hg, hh, _⟩
  · subst e
    cases hb
  · subst e
    have : g = b := by simpa [Value.ownBlock] using hb
    subst this
    exact ⟨hg, cur, hh⟩
theorem BkRow.frt {base r : Nat} {P : Nat → Prop} {w : World} {k : Int} {Bn Z : Nat} {ks : List Nd} {nvs : List Nv} {a : Option Addr} {c : Nat} {W W' : World} (h : BkRow base r P w k Bn Z ks nvs a c W) (hrw : r < w.heap.size) (hP : ∀ b, P b → b ≠ r) (hBn : w.heap.size ≤ Bn) (hZ : w.heap.size ≤ Z) (hf : FrT base r W W') : BkRow base r P w k Bn Z ks nvs a c W' := by
  refine ⟨boxN_frt h.bN hf (by omega), boxN_frt h.bZ hf (by omega), row_same h.row fun b hb _ => ?_, ⟨h.nds.1, fun j x k hx hk => (h.nds.2 j x k hx hk).frt hf fun b hb => hb.1.elim (hP b) (fun h => by omega)⟩, h.ne1, h.ne2, h.fr.trans hf⟩
  obtain ⟨k1, cur, k2⟩ := rowA_of h.row hb
  exact hf.cells b cur _ _ k2 (by decide) (by omega)
/-- Some more in its row. -/
theorem BkRow.more {base r : Nat} {la : Option Addr} {lc : Nat} {L : List Tk} {env : Env0} {d j : Nat} {P : Nat → Prop} {w : World} {k : Int} {Bn Z : Nat} {ks : List Nd} {nvs : List Nv} {a : Option Addr} {c : Nat} {W w7 : World} {us : List Nv} {ms : List Nd} {v' : Value} (h : BkRow base r P w k Bn Z ks nvs a c W) (hrw : r < w.heap.size) (hbs : base ≤ w.heap.size) (hBn : w.heap.size ≤ Bn) (hBZ : Bn ≠ Z)
    (hx : NdsIs W (fun b => (P b ∨ w.heap.size ≤ b) ∧ b ≠ Bn ∧ b ≠ Z ∧ (Value.slice a nvs.length c).ownBlock ≠ some b) us ms) (hr : RdAt W base r la lc L j env d) (hown : w7.ownsRow w.heap.size 27 3 v' (nvs ++ us).length (cellsN (nvs ++ us))) (hg : W.grownBy w7 (Value.slice a nvs.length c).ownBlock) (hob : v'.ownBlock = (Value.slice a nvs.length c).ownBlock ∨ v'.ownBlock = some W.heap.size) :
    ∃ a1 c1, v' = .slice a1 (nvs ++ us).length c1 ∧ w7.heap[Bn]? = some (boxN ⟨k, -1, a, nvs.length, c⟩) ∧ BkRow base r P w k Bn Z (ks ++ ms) (nvs ++ us) a1 c1 (w7.setCell ⟨Bn, 2, none⟩ v') ∧ RdAt (w7.setCell ⟨Bn, 2, none⟩ v') base r la lc L j env d := by
  have hlb := lt_of_block h.bN
  have hlz := lt_of_block h.bZ
  have hbl : ∀ b, b < W.heap.size → (Value.slice a nvs.length c).ownBlock ≠ some b → w7.heap[b]? = W.heap[b]? := fun b hb hne => hg.block b hb (fun e => hne e.symm)
  obtain ⟨a1, c1, rfl⟩ := row_val hown
  have hN7 := (hbl Bn hlb h.ne1).trans h.bN
  have hZ7 := (hbl _ hlz h.ne2).trans h.bZ
  have hno : ∀ b, b < w.heap.size → (Value.slice a nvs.length c).ownBlock ≠ some b := fun b hb e => by have := (rowA_of h.row e).1; omega
  have hF7 : FrT base r w w7 := by
    have hl := h.fr.low
    refine ⟨⟨hg.os.trans hl.os, hg.tape.trans hl.tape, hg.output.trans hl.output, Nat.le_trans hl.size hg.size, fun b hb => (hbl b (by omega) (hno b (by omega))).trans (hl.block b hb)⟩, fun b c T fz hb hT hne => ?_⟩
    have := lt_of_block hb
    exact (hbl b (by omega) (hno b (by omega))).trans (h.fr.cells b c T fz hb hT hne)
  have hR7 : RdAt w7 base r la lc L j env d := by
    obtain ⟨lo, hbr, vn, ms, hc, hn⟩ := hr
    refine ⟨lo, hbr, vn, ms, hc.other (B := w.heap.size) hrw (fun b off e hL => Nat.lt_of_lt_of_le (lo b off e hL) hbs) hg.size fun b hb => hbl b (by omega) (hno b hb), hn.same (fun b c hb _ => hbl b (lt_of_block hb) fun e => ?_) (fun b es cl hb _ => hbl b (lt_of_block hb) fun e => ?_)⟩
    · obtain ⟨_, cur, k2⟩ := rowA_of h.row e
      rw [k2] at hb
      injection hb with hb
      injection hb with _ hb
      revert hb
      decide
    · obtain ⟨_, cur, k2⟩ := rowA_of h.row e
      rw [k2] at hb
      cases hb
  obtain ⟨hR8, hF8⟩ := set_st hrw hbs (B := Bn) (by omega) hN7 hR7 hF7 (.slice a1 (nvs ++ us).length c1)
  have hso : ∀ b, b ≠ Bn → (w7.setCell ⟨Bn, 2, none⟩ (.slice a1 (nvs ++ us).length c1)).heap[b]? = w7.heap[b]? := fun b hb => Below.heap_setCell _ _ _ _ hb
  have hne' : ∀ b, b < W.heap.size → (Value.slice a nvs.length c).ownBlock ≠ some b → (Value.slice a1 (nvs ++ us).length c1).ownBlock ≠ some b := fun b hb hn e => by
    rcases hob with e' | e'
    · exact hn (e' ▸ e)
    · rw [e'] at e
      injection e with e
      omega
  refine ⟨a1, c1, rfl, hN7, ⟨(Go.Joins.block_setCell (i := 2) hN7 _).trans rfl, (hso _ (by omega)).trans hZ7, row_same hown fun b hb _ => hso b fun e => ?_, ?_, hne' Bn hlb h.ne1, hne' Z hlz h.ne2, hF8⟩, hR8⟩
  · subst e
    exact hne' b hlb h.ne1 hb
  · refine (((h.nds.app hx).mono (Q := fun b => ((P b ∨ w.heap.size ≤ b) ∧ b ≠ Bn ∧ b ≠ Z ∧ (Value.slice a nvs.length c).ownBlock ≠ some b) ∧ b < W.heap.size) fun b hb hlt => ⟨hb, hlt⟩).kept (w' := w7) fun b hb hlt => hbl b hlt hb.1.2.2.2).kept (fun b hb _ => hso b hb.1.2.1) |>.mono fun b hb _ => ⟨hb.1.1, hb.1.2.1, hb.1.2.2.1, hne' b hb.2 hb.1.2.2.2⟩
/-- An append of a row of its own to a row of nodes, which may be none. -/
theorem step_append_rowA {w : World} {ops : Array Oper} {o : Oper} {a : Act} {K : Act → World → Prop} {Q : Exit → Act → World → Prop} {E : Prop} (hgd : o.guard = none) (s x : Operand) (ho : o.op = .call { callee := .builtin .append, args := #[s, x], argTypes := #[25, 25] })
    (base base2 n cap : Nat) (av : Option Addr) (nvs us : List Nv) (g5 c : Nat) (hs : a.eval s = .slice av n cap) (hx : a.eval x = .slice (some ⟨g5, 0, none⟩) us.length c) (hnl : nvs.length = n) (hown : w.ownsRow base 27 3 (.slice av n cap) n (cellsN nvs)) (hown2 : w.ownsRow base2 27 3 (.slice (some ⟨g5, 0, none⟩) us.length c) us.length (cellsN us))
    (h1 : n ≤ 3000000) (h2 : us.length ≤ 3000000) (hbase : base ≤ w.heap.size)
    (h : ∀ v' w', w'.ownsRow base 27 3 v' (nvs ++ us).length (cellsN (nvs ++ us)) → w.grownBy w' (Value.slice av n cap).ownBlock → (v'.ownBlock = (Value.slice av n cap).ownBlock ∨ v'.ownBlock = some w.heap.size) → K (a.put o.dst v') w') :
    if Region.wanted o (yielded ops a.tmps) = true then Oper.wp Try.prog o a w K Q else E := by
  obtain ⟨i0, hi, hz0, hzz1, hzz2⟩ := info_parts info_node
  refine step_append_any hgd s x 25 ho base 27 i0 _ 3 40 Try.underlying25 hi hz0 hzz1 hzz2 (by rfl) (by decide) _ n (cellsN nvs) hs hown ⟨g5, 0, none⟩ us.length _ (cellsN us) hx (cellsN_length us) (row_cells hown2) (cellsN_one_cell us) (by unfold maxLen; omega) (by omega) hbase ?_
  intro v' w' hown' hg' hob'
  refine h v' w' ?_ hg' hob'
  rw [List.length_append, hnl, cellsN_append]
  exact hown'
end
section
open Go.RowKit Go.Shelf

/-- close, deferred. -/
def closeD (r : Nat) : Deferred := { target := .fn (.func 44) #[], args := #[.pointer (some ⟨r, 2, none⟩)] }

section
variable {fn : Func} {tmps : Array Value} {R : Ending → World → Prop} {base r : Nat} {la : Option Addr} {lc : Nat} {L : List Tk} {d : Nat} {W : World}
theorem leave_p {env : Env0} (u : FrameMode) (h : RdP W base r la lc L env (d + 1)) : CallsD Try.prog 52 #[.pointer (some ⟨r, 0, none⟩)] u W fun e u' W' => u' = u ∧ e = .returned (.tuple #[]) ∧ RdP W' base r la lc L env d ∧ FrT base r W W' := by
  obtain ⟨lo, hbr, i, vn, ms, N, hc, hn⟩ := h
  refine (leave_any u W hc).mono ?_
  rintro e' u' W' ⟨rfl, rfl, hc', hk'⟩
  exact ⟨rfl, rfl, ⟨lo, hbr, i, vn, ms, N, hc', hn.kept hc.box hk'⟩, FrT.of_kept hk' hbr (by have := hc.lt; omega)⟩
theorem leave_r {env : Env0} {i : Nat} (u : FrameMode) (h : RdAt W base r la lc L i env (d + 1)) : CallsD Try.prog 52 #[.pointer (some ⟨r, 0, none⟩)] u W fun e u' W' => u' = u ∧ e = .returned (.tuple #[]) ∧ RdAt W' base r la lc L i env d ∧ FrT base r W W' := by
  obtain ⟨lo, hbr, vn, ms, hc, hn⟩ := h
  refine (leave_any u W hc).mono ?_
  rintro e' u' W' ⟨rfl, rfl, hc', hk'⟩
  exact ⟨rfl, rfl, ⟨lo, hbr, vn, ms, hc', hn.kept hc.box hk'⟩, FrT.of_kept hk' hbr (by have := hc.lt; omega)⟩
theorem close_p {env : Env0} {g : List UInt8 → Int} (u : FrameMode) (hl : env.length ≤ 1000) (h : RdP W base r la lc L (env ++ [g]) d) : CallsD Try.prog 44 #[.pointer (some ⟨r, 2, none⟩)] u W fun e u' W' => u' = u ∧ e = .returned (.tuple #[]) ∧ RdP W' base r la lc L env d ∧ FrT base r W W' := by
  obtain ⟨lo, hbr, i, vn, ms, N, hc, hn⟩ := h
  refine (close_any u W hc hn hbr hl).mono ?_
  rintro e' u' W' ⟨rfl, rfl, ⟨vn2, ms2, hc', hn'⟩, hf⟩
  exact ⟨rfl, rfl, ⟨lo, hbr, i, vn2, ms2, N, hc', hn'⟩, hf⟩
theorem close_r {env : Env0} {g : List UInt8 → Int} {i : Nat} (u : FrameMode) (hl : env.length ≤ 1000) (h : RdAt W base r la lc L i (env ++ [g]) d) : CallsD Try.prog 44 #[.pointer (some ⟨r, 2, none⟩)] u W fun e u' W' => u' = u ∧ e = .returned (.tuple #[]) ∧ RdAt W' base r la lc L i env d ∧ FrT base r W W' := by
  obtain ⟨lo, hbr, vn, ms, hc, hn⟩ := h
  refine (close_any u W hc hn hbr hl).mono ?_
  rintro e' u' W' ⟨rfl, rfl, ⟨vn2, ms2, hc', hn'⟩, hf⟩
  exact ⟨rfl, rfl, ⟨lo, hbr, vn2, ms2, hc', hn'⟩, hf⟩

theorem leavesS_thrown {env : Env0} (e : Int) (p : Int × Int) (hc : RdP W base r la lc L env (d + 1)) (hR : ∀ W', RdP W' base r la lc L env d → FrT base r W W' → R (thrownT e p) W') : Leaves Try.prog fn tmps R [leaveD r] (.panicking (chainT e p)) W := by
  refine ⟨by simp, _, _, 52, #[.pointer (some ⟨r, 0, none⟩)], rfl, by simp [leaveD, go_sem], ?_⟩
  refine (leave_p (.panicking (chainT e p)) hc).mono ?_
  rintro e' u' W' ⟨rfl, rfl, hc', hk'⟩
  show Leaves Try.prog fn tmps R [] (settle (.panicking (chainT e p))) W'
  rw [settle_chain]
  exact hR W' hc' hk'
theorem leavesC_thrown {env : Env0} {g : List UInt8 → Int} (e : Int) (p : Int × Int) (hl : env.length ≤ 1000) (hc : RdP W base r la lc L (env ++ [g]) (d + 1)) (hR : ∀ W', RdP W' base r la lc L env d → FrT base r W W' → R (thrownT e p) W') : Leaves Try.prog fn tmps R [closeD r, leaveD r] (.panicking (chainT e p)) W := by
  refine ⟨by simp, _, _, 44, #[.pointer (some ⟨r, 2, none⟩)], rfl, by simp [closeD, go_sem], ?_⟩
  refine (close_p (.panicking (chainT e p)) hl hc).mono ?_
  rintro e' u' W' ⟨rfl, rfl, hc', hk'⟩
  show Leaves Try.prog fn tmps R [leaveD r] (settle (.panicking (chainT e p))) W'
  rw [settle_chain]
  exact leavesS_thrown e p hc' fun W2 h2 f2 => hR W2 h2 (hk'.trans f2)
/-- close alone. -/
theorem leavesO_thrown {env : Env0} {g : List UInt8 → Int} (e : Int) (p : Int × Int) (hl : env.length ≤ 1000) (hc : RdP W base r la lc L (env ++ [g]) d) (hR : ∀ W', RdP W' base r la lc L env d → FrT base r W W' → R (thrownT e p) W') : Leaves Try.prog fn tmps R [closeD r] (.panicking (chainT e p)) W := by
  refine ⟨by simp, _, _, 44, #[.pointer (some ⟨r, 2, none⟩)], rfl, by simp [closeD, go_sem], ?_⟩
  refine (close_p (.panicking (chainT e p)) hl hc).mono ?_
  rintro e' u' W' ⟨rfl, rfl, hc', hk'⟩
  show Leaves Try.prog fn tmps R [] (settle (.panicking (chainT e p))) W'
  rw [settle_chain]
  exact hR W' hc' hk'
theorem leavesS_back {env : Env0} {i : Nat} (hc : RdAt W base r la lc L i env (d + 1)) (hR : ∀ W', RdAt W' base r la lc L i env d → FrT base r W W' → ∃ v, (results fn tmps).run Try.prog W' = .ok v W' ∧ R (.returned v) W') : Leaves Try.prog fn tmps R [leaveD r] .returning W := by
  refine ⟨by simp, _, _, 52, #[.pointer (some ⟨r, 0, none⟩)], rfl, by simp [leaveD, go_sem], ?_⟩
  refine (leave_r .returning hc).mono ?_
  rintro e' u' W' ⟨rfl, rfl, hc', hk'⟩
  exact hR W' hc' hk'
theorem leavesC_back {env : Env0} {g : List UInt8 → Int} {i : Nat} (hl : env.length ≤ 1000) (hc : RdAt W base r la lc L i (env ++ [g]) (d + 1)) (hR : ∀ W', RdAt W' base r la lc L i env d → FrT base r W W' → ∃ v, (results fn tmps).run Try.prog W' = .ok v W' ∧ R (.returned v) W') : Leaves Try.prog fn tmps R [closeD r, leaveD r] .returning W := by
  refine ⟨by simp, _, _, 44, #[.pointer (some ⟨r, 2, none⟩)], rfl, by simp [closeD, go_sem], ?_⟩
  refine (close_r .returning hl hc).mono ?_
  rintro e' u' W' ⟨rfl, rfl, hc', hk'⟩
  exact leavesS_back hc' fun W2 h2 f2 => hR W2 h2 (hk'.trans f2)
theorem leavesO_back {env : Env0} {g : List UInt8 → Int} {i : Nat} (hl : env.length ≤ 1000) (hc : RdAt W base r la lc L i (env ++ [g]) d) (hR : ∀ W', RdAt W' base r la lc L i env d → FrT base r W W' → ∃ v, (results fn tmps).run Try.prog W' = .ok v W' ∧ R (.returned v) W') : Leaves Try.prog fn tmps R [closeD r] .returning W := by
  refine ⟨by simp, _, _, 44, #[.pointer (some ⟨r, 2, none⟩)], rfl, by simp [closeD, go_sem], ?_⟩
  refine (close_r .returning hl hc).mono ?_
  rintro e' u' W' ⟨rfl, rfl, hc', hk'⟩
  exact hR W' hc' hk'
end
theorem snoc_of_len {α : Type} {l : List α} {n : Nat} (h : l.length = n + 1) : ∃ l0 x, l = l0 ++ [x] ∧ l0.length = n := by
  have hne : l ≠ [] := fun e => by rw [e] at h; simp at h
  exact ⟨l.dropLast, l.getLast hne, (List.dropLast_concat_getLast hne).symm, by simp; omega⟩
/-- What is to be shown where something is thrown: nothing is deferred, or leave, or close and then leave, or close. -/
def postS (fn : Func) (R : Ending → World → Prop) (base r : Nat) (la : Option Addr) (lc : Nat) (L : List Tk) (m d : Nat) : Exit → Act → World → Prop
  | .panic c, a, w => (a.defers = [] ∧ R (.panicked c) w) ∨ ∃ e p, c = chainT e p ∧ ((a.defers = [leaveD r] ∧ ∃ env : Env0, env.length = m ∧ RdP w base r la lc L env (d + 1)) ∨ (a.defers = [closeD r, leaveD r] ∧ ∃ env : Env0, env.length = m + 1 ∧ RdP w base r la lc L env (d + 1)) ∨ (a.defers = [closeD r] ∧ ∃ env : Env0, env.length = m + 1 ∧ RdP w base r la lc L env d)) ∧ ∀ W', (∃ env : Env0, env.length = m ∧ RdP W' base r la lc L env d) → FrT base r w W' → R (thrownT e p) W'
  | e, a, w => bodyPostD Try.prog fn R e a w
theorem postS_imp {fn : Func} {R : Ending → World → Prop} {base r : Nat} {la : Option Addr} {lc : Nat} {L : List Tk} {m d : Nat} (hm : m ≤ 1000) : ∀ e a w, postS fn R base r la lc L m d e a w → bodyPostD Try.prog fn R e a w := by
  intro e a w h
  cases e with
  | panic c =>
    rcases h with ⟨hd, hr⟩ | ⟨e, p, rfl, hh, hr⟩
    · show Leaves Try.prog fn a.tmps R a.defers (.panicking c) w
      rw [hd]
      exact hr
    · show Leaves Try.prog fn a.tmps R a.defers (.panicking (chainT e p)) w
      rcases hh with ⟨hd, env, he, hp⟩ | ⟨hd, env, he, hp⟩ | ⟨hd, env, he, hp⟩
      · rw [hd]
        exact leavesS_thrown e p hp fun W' h1 h2 => hr W' ⟨env, he, h1⟩ h2
      · rw [hd]
        obtain ⟨e0, g, rfl, h0⟩ := snoc_of_len he
        exact leavesC_thrown e p (by omega) hp fun W' h1 h2 => hr W' ⟨e0, h0, h1⟩ h2
      · rw [hd]
        obtain ⟨e0, g, rfl, h0⟩ := snoc_of_len he
        exact leavesO_thrown e p (by omega) hp fun W' h1 h2 => hr W' ⟨e0, h0, h1⟩ h2
  | _ => exact h
end
section
theorem pln_ok {L : List Tk} {F : Nat} {k : Int} {d : Nat} {env : Env0} {i : Nat} {n : Nd} {j : Nat} {env' : Env0} (h : plnT L F k d env i = .ok (n, j, env')) : i < j ∧ env' = env := by
  unfold plnT at h
  split at h
  · cases h
    exact ⟨by omega, rfl⟩
  · split at h
    · cases h
    · rename_i m k' hrd
      have := rdX_le hrd
      split at h
      · cases h
        exact ⟨by omega, rfl⟩
      · cases h
theorem dlp_ok {L : List Tk} {F : Nat} {a : Int} {d : Nat} : ∀ (f : Nat) {env : Env0} {ks : List Nd} {i : Nat} {n : Nd} {j : Nat} {env' : Env0}, dlpT L F a d f env ks i = .ok (n, j, env') → env ≠ [] → i < j ∧ env'.length = env.length
  | 0, env, ks, i, n, j, env', h, hne => by unfold dlpT at h; cases h
  | f + 1, env, ks, i, n, j, env', h, hne => by
    unfold dlpT at h
    split at h
    · split at h
      · cases h
      · rename_i n2 j2 env2 hd
        obtain ⟨h1, h2, _⟩ := dcl_ok hd hne
        split at h
        · cases h
        · rename_i n3 j3 env3 hs
          obtain ⟨h3, rfl⟩ := str_ok hs
          have hne3 : env3 ≠ [] := fun e => hne (by rw [e] at h2; exact List.eq_nil_of_length_eq_zero h2.symm)
          obtain ⟨h5, h6⟩ := dlp_ok f h hne3
          exact ⟨by omega, h6.trans h2⟩
    · split at h
      · cases h
        exact ⟨by omega, rfl⟩
      · cases h
theorem ded_ok {L : List Tk} {F : Nat} {a : Int} {d : Nat} {env : Env0} {kd nm : Nd} {i : Nat} {n : Nd} {j : Nat} {env' : Env0} (h : dedT L F a d env kd nm i = .ok (n, j, env')) (hne : env ≠ []) : i < j ∧ env'.length = env.length := by
  unfold dedT at h
  split at h
  · cases h
  · rename_i n1 j1 env1 hs
    obtain ⟨h3, rfl⟩ := str_ok hs
    obtain ⟨h5, h6⟩ := dlp_ok _ h hne
    exact ⟨by omega, h6⟩
theorem dct_ok {L : List Tk} {F : Nat} {a : Int} {d : Nat} {env : Env0} {i : Nat} {n : Nd} {j : Nat} {env' : Env0} (h : dctT L F a d env i = .ok (n, j, env')) (hne : env ≠ []) : i < j ∧ env'.length = env.length := by
  unfold dctT at h
  split at h
  · split at h
    · cases h
    · rename_i n1 k1 env1 hd
      obtain ⟨h1, h2, _⟩ := dcl_ok hd hne
      have hne3 : env1 ≠ [] := fun e => hne (by rw [e] at h2; exact List.eq_nil_of_length_eq_zero h2.symm)
      obtain ⟨h5, h6⟩ := ded_ok h hne3
      exact ⟨by omega, h6.trans h2⟩
  · cases h
theorem dco_ok {L : List Tk} {F d : Nat} {env : Env0} {i : Nat} {n : Nd} {j : Nat} {env' : Env0} (h : dcoT L F d env i = .ok (n, j, env')) (hne : env ≠ []) : i < j ∧ env'.length = env.length := by
  unfold dcoT at h
  split at h
  · obtain ⟨h5, h6⟩ := dct_ok h hne
    exact ⟨by omega, h6⟩
  · exact dct_ok h hne
theorem ne_of_len {α : Type} {a b : List α} (h : b.length = a.length) (ha : a ≠ []) : b ≠ [] := fun e => ha (by rw [e] at h; exact List.eq_nil_of_length_eq_zero h.symm)

theorem st_ok (L : List Tk) (F : Nat) : ∀ (f m : Nat) (k : Int) (d : Nat) (env : Env0) (i : Nat) (ks : List Nd) (n : Nd) (j : Nat) (env' : Env0), stF L F f m k d env i ks = some (.ok (n, j, env')) → env ≠ [] → i < j ∧ env'.length = env.length
  | 0, m, k, d, env, i, ks, n, j, env', h, hne => by unfold stF at h; cases h
  | f + 1, 0, k, d, env, i, ks, n, j, env', h, hne => by
    rw [stF] at h
    split at h
    · cases h
    · split at h
      · split at h
        · cases h
        · cases h
        · rename_i n1 j1 env1 h1
          obtain ⟨h2, h3⟩ := st_ok L F f _ _ _ _ _ _ _ _ _ h1 (by simp)
          cases h
          refine ⟨h2, ?_⟩
          simp only [List.length_dropLast, h3]
          simp
      · split at h
        · split at h
          · cases h
          · cases h
          · rename_i n1 j1 env1 h1
            obtain ⟨h2, h3⟩ := st_ok L F f _ _ _ _ _ _ _ _ _ h1 hne
            split at h
            · split at h
              · cases h
              · cases h
              · rename_i n2 j2 env2 h4
                obtain ⟨h5, h6⟩ := st_ok L F f _ _ _ _ _ _ _ _ _ h4 (ne_of_len h3 hne)
                cases h
                exact ⟨by omega, h6.trans h3⟩
            · cases h
              exact ⟨h2, h3⟩
        · split at h
          · exact st_ok L F f _ _ _ _ _ _ _ _ _ h hne
          · split at h
            · injection h with h
              obtain ⟨h1, rfl⟩ := pln_ok h
              exact ⟨by omega, rfl⟩
            · split at h
              · injection h with h
                exact dco_ok h hne
              · injection h with h
                obtain ⟨h1, rfl⟩ := pln_ok h
                exact ⟨by omega, rfl⟩
  | f + 1, 1, k, d, env, i, ks, n, j, env', h, hne => by
    rw [stF] at h
    split at h
    · split at h
      · cases h
      · obtain ⟨h1, h2⟩ := st_ok L F f _ _ _ _ _ _ _ _ _ h hne
        exact ⟨by omega, h2⟩
    · cases h
  | f + 1, 2, k, d, env, i, ks, n, j, env', h, hne => by
    rw [stF] at h
    split at h
    · cases h
      exact ⟨by omega, rfl⟩
    · split at h
      · cases h
      · cases h
      · rename_i n1 j1 env1 h1
        obtain ⟨h2, h3⟩ := st_ok L F f _ _ _ _ _ _ _ _ _ h1 hne
        obtain ⟨h5, h6⟩ := st_ok L F f _ _ _ _ _ _ _ _ _ h (ne_of_len h3 hne)
        exact ⟨by omega, h6.trans h3⟩
  | f + 1, 3, k, d, env, i, ks, n, j, env', h, hne => by
    rw [stF] at h
    split at h
    · split at h
      · cases h
      · rename_i m1 j1 hrd
        have := rdX_le hrd
        split at h
        · split at h
          · cases h
          · cases h
          · rename_i n2 j2 env2 h4
            obtain ⟨h5, h6⟩ := st_ok L F f _ _ _ _ _ _ _ _ _ h4 hne
            cases h
            exact ⟨by omega, h6⟩
        · cases h
    · cases h
  | f + 1, m + 4, k, d, env, i, ks, n, j, env', h, hne => by rw [stF] at h; cases h

/-- So many steps are enough, by modes, for so many tokens. -/
def needS : Nat → Nat → Nat
  | 0, r => 4 * r + 2
  | 1, r => 4 * r + 1
  | 2, r => 4 * r + 3
  | _, r => 4 * r + 1
theorem st_some (L : List Tk) (F : Nat) : ∀ (f m : Nat) (k : Int) (d : Nat) (env : Env0) (i : Nat) (ks : List Nd), m < 4 → env ≠ [] → needS m (L.length - i) ≤ f → stF L F f m k d env i ks ≠ none
  | 0, m, k, d, env, i, ks, hm, hne, hf => by
    match m, hm, hf with
    | 0, _, hf => have hf : 4 * (L.length - i) + 2 ≤ 0 := hf; omega
    | 1, _, hf => have hf : 4 * (L.length - i) + 1 ≤ 0 := hf; omega
    | 2, _, hf => have hf : 4 * (L.length - i) + 3 ≤ 0 := hf; omega
    | 3, _, hf => have hf : 4 * (L.length - i) + 1 ≤ 0 := hf; omega
  | f + 1, 0, k, d, env, i, ks, hm, hne, hf => by
    rw [stF]
    have hf : 4 * (L.length - i) + 2 ≤ f + 1 := hf
    split
    · simp
    · rename_i hst
      have hil := stop_lt hst
      split
      · split
        · rename_i h1
          exact absurd h1 (st_some L F f 1 0 _ _ _ _ (by omega) (by simp) (by show 4 * _ + 1 ≤ f; omega))
        · simp
        · simp
      · split
        · split
          · rename_i h1
            exact absurd h1 (st_some L F f 3 _ _ _ _ _ (by omega) hne (by show 4 * _ + 1 ≤ f; omega))
          · simp
          · rename_i n1 j1 env1 h1
            obtain ⟨h2, h3⟩ := st_ok L F f _ _ _ _ _ _ _ _ _ h1 hne
            split
            · split
              · rename_i h4
                exact absurd h4 (st_some L F f 0 _ _ _ _ _ (by omega) (ne_of_len h3 hne) (by show 4 * _ + 2 ≤ f; omega))
              · simp
              · simp
            · simp
        · split
          · exact st_some L F f 3 _ _ _ _ _ (by omega) hne (by show 4 * _ + 1 ≤ f; omega)
          · split
            · simp
            · split <;> simp
  | f + 1, 1, k, d, env, i, ks, hm, hne, hf => by
    rw [stF]
    have hf : 4 * (L.length - i) + 1 ≤ f + 1 := hf
    split
    · split
      · simp
      · rename_i hst
        have hil := stop_lt hst
        exact st_some L F f 2 _ _ _ _ _ (by omega) hne (by show 4 * _ + 3 ≤ f; omega)
    · simp
  | f + 1, 2, k, d, env, i, ks, hm, hne, hf => by
    rw [stF]
    have hf : 4 * (L.length - i) + 3 ≤ f + 1 := hf
    split
    · simp
    · split
      · rename_i h1
        exact absurd h1 (st_some L F f 0 _ _ _ _ _ (by omega) hne (by show 4 * _ + 2 ≤ f; omega))
      · simp
      · rename_i n1 j1 env1 h1
        obtain ⟨h2, h3⟩ := st_ok L F f _ _ _ _ _ _ _ _ _ h1 hne
        have hil : i < L.length := by
          cases f with
          | zero => unfold stF at h1; cases h1
          | succ f =>
            rw [stF] at h1
            split at h1
            · cases h1
            · rename_i hst
              exact stop_lt hst
        exact st_some L F f 2 _ _ _ _ _ (by omega) (ne_of_len h3 hne) (by show 4 * _ + 3 ≤ f; omega)
  | f + 1, 3, k, d, env, i, ks, hm, hne, hf => by
    rw [stF]
    have hf : 4 * (L.length - i) + 1 ≤ f + 1 := hf
    split
    · rename_i hw
      have hwl := word_lt hw (by simp)
      split
      · simp
      · rename_i m1 j1 hrd
        have := rdX_le hrd
        split
        · split
          · rename_i h4
            exact absurd h4 (st_some L F f 0 _ _ _ _ _ (by omega) hne (by show 4 * _ + 2 ≤ f; omega))
          · simp
          · simp
        · simp
    · simp
  | f + 1, m + 4, k, d, env, i, ks, hm, hne, hf => by omega
end
end Go.Proofs.Ytocklchafmlfkaa
