/- The closed fact that the statements of trees ask first, plain. · Walk of the statements' own toks. · Walk of count: how many nodes name each token. · Nodes with a token are at most as many as tokens. · Walk of the closed fact that the statements of trees ask first. -/
import Derived.Test.YtocklchafmlfkaaTgH
import Derived.Test.YtocklchafmlfkaaLxTokens
import Derived.Test.YtocklchafmlfkaaRxJoin
import Derived.Test.YtocklchafmlfkaaLxC
import Derived.Test.YtocklchafmlfkaaTgJ
import Derived.Test.YtocklchafmlfkaaTgD
import Derived.Test.YtocklchafmlfkaaTgB
import Derived.Test.YtocklchafmlfkaaTgC
import Derived.Test.YtocklchafmlfkaaLxSmall
namespace Go.Proofs.Ytocklchafmlfkaa
section
/-- The text that is asked first. -/
def aliveT : List UInt8 := [116, 121, 112, 101, 100, 101, 102, 32, 105, 110, 116, 32, 84, 59, 32, 84, 32, 102, 40, 84, 32, 97, 41, 32, 123, 32, 105, 102, 32, 40, 97, 41, 32, 114, 101, 116, 117, 114, 110, 32, 97, 32, 43, 32, 49, 59, 32, 84, 32, 42, 112, 59, 32, 112, 32, 61, 32, 50, 59, 32, 125]
/-- What is asked of its tree. -/
def asksK : List Nd → Bool
  | [_, _, _, b] => decide (b.kids.length = 3)
  | _ => false
def asksU : List Nd → Bool
  | [_, g] => decide (g.kind = 3) && asksK g.kids
  | _ => false
def asksT : Got Nd → Bool
  | .error _ => false
  | .ok n => asksU n.kids
theorem aliveT_ok : asksT (parsL (toksF 0 aliveT).1) = true := by decide +kernel
theorem asksK_is : ∀ {gs : List Nd}, asksK gs = true → ∃ y1 y2 y3 b, gs = [y1, y2, y3, b] ∧ b.kids.length = 3
  | [], h => by cases h
  | [_], h => by cases h
  | [_, _], h => by cases h
  | [_, _, _], h => by cases h
  | [y1, y2, y3, b], h => ⟨y1, y2, y3, b, rfl, of_decide_eq_true h⟩
  | _ :: _ :: _ :: _ :: _ :: _, h => by cases h
theorem asksU_is : ∀ {gs : List Nd}, asksU gs = true → ∃ u g, gs = [u, g] ∧ g.kind = 3 ∧ asksK g.kids = true
  | [], h => by cases h
  | [_], h => by cases h
  | [u, g], h => by
    unfold asksU at h
    rw [Bool.and_eq_true] at h
    exact ⟨u, g, rfl, of_decide_eq_true h.1, h.2⟩
  | _ :: _ :: _ :: _, h => by cases h
theorem aliveT_is : ∃ (k t tg : Int) (u y1 y2 y3 b : Nd), parsL (toksF 0 aliveT).1 = .ok (.mk k t [u, .mk 3 tg [y1, y2, y3, b]]) ∧ b.kids.length = 3 := by
  have h := aliveT_ok
  cases hp : parsL (toksF 0 aliveT).1 with
  | error x => rw [hp] at h; cases h
  | ok n =>
    rw [hp] at h
    obtain ⟨k, t, ks⟩ := n
    obtain ⟨u, g, e1, h1, h2⟩ := asksU_is (show asksU ks = true from h)
    obtain ⟨kg, tg, gs⟩ := g
    obtain ⟨y1, y2, y3, b, e2, h3⟩ := asksK_is h2
    have h1 : kg = 3 := h1
    have e2 : gs = [y1, y2, y3, b] := e2
    subst e1 h1 e2
    exact ⟨k, t, tg, u, y1, y2, y3, b, rfl, h3⟩
end
section
open Go.RowKit Go.Shelf


/-- What toks answers. -/
def ToksT (l : List UInt8) (w : World) (e : Ending) (w' : World) : Prop := ∃ a c, e = .returned (.slice a (toksF 0 l).1.length c) ∧ TAt w' a (toksF 0 l).1 ∧ Below w.heap.size w w' ∧ (toksF 0 l).1.length ≤ c
set_option maxRecDepth 100000 in
set_option maxHeartbeats 1000000 in
theorem toksT_any (HR : RToks) (s : ByteArray) (w : World) : Calls Try.prog 6 #[.string s] w (ToksT s.data.toList w) := by
  have HT := hid (HR 0 s w)
  unfold TokPost faultV at HT
  clear HR
  unfold ToksT
  generalize (toksF 0 s.data.toList).1 = ts at HT ⊢
  go_enter Try.func6, Try.ntmps6
  go_wp2_with fail
  refine HT.out.mono ?_
  rintro e w1 ⟨a, c, rfl, hT, hb1, hcap⟩
  have HT1 := hid hT
  have HB1 := hid hb1
  have HC := hid hcap
  clear hT hb1 hcap HT
  go_wp2_with fail
  go_ret
  exact ⟨a, c, rfl, HT1.out.below ((Below.refl _ w1).alloc (Nat.le_refl _) _), HB1.out.trans (((Below.refl _ w1).alloc (Nat.le_refl _) _).mono HB1.out.size), HC.out⟩
end
section
open Go.RowKit Go.Shelf

mutual
/-- How many nodes there are. -/
def szN : Nd → Nat
  | .mk _ _ ks => 1 + szL ks
def szL : List Nd → Nat
  | [] => 0
  | n :: ks => szN n + szL ks
end
mutual
/-- How many nodes have a token. -/
def tkN : Nd → Nat
  | .mk _ tok ks => (if 0 ≤ tok then 1 else 0) + tkL ks
def tkL : List Nd → Nat
  | [] => 0
  | n :: ks => tkN n + tkL ks
end
theorem szN_mk (k t : Int) (ks : List Nd) : szN (.mk k t ks) = 1 + szL ks := by rw [szN]
theorem tkN_mk (k t : Int) (ks : List Nd) : tkN (.mk k t ks) = (if 0 ≤ t then 1 else 0) + tkL ks := by rw [tkN]
theorem szL_at : ∀ (ks : List Nd) (j : Nat) (n : Nd), ks[j]? = some n → szN n ≤ szL ks
  | [], j, n, h => by simp at h
  | m :: ks, 0, n, h => by simp at h; subst h; rw [szL]; omega
  | m :: ks, j + 1, n, h => by
    rw [szL]
    have := szL_at ks j n (by simpa using h)
    omega
theorem tkL_at : ∀ (ks : List Nd) (j : Nat) (n : Nd), ks[j]? = some n → tkL (ks.take (j + 1)) = tkL (ks.take j) + tkN n ∧ tkL (ks.take j) + tkN n ≤ tkL ks
  | [], j, n, h => by simp at h
  | m :: ks, 0, n, h => by
    simp at h; subst h
    simp [tkL]
  | m :: ks, j + 1, n, h => by
    obtain ⟨h1, h2⟩ := tkL_at ks j n (by simpa using h)
    simp only [List.take_succ_cons, tkL, h1]
    omega
theorem cntL_at (t : Nat) : ∀ (ks : List Nd) (j : Nat) (n : Nd), ks[j]? = some n → cntL (ks.take (j + 1)) t = cntL (ks.take j) t + cntN n t ∧ cntL (ks.take j) t + cntN n t ≤ cntL ks t
  | [], j, n, h => by simp at h
  | m :: ks, 0, n, h => by
    simp at h; subst h
    simp [cntL]
  | m :: ks, j + 1, n, h => by
    obtain ⟨h1, h2⟩ := cntL_at t ks j n (by simpa using h)
    simp only [List.take_succ_cons, cntL, h1]
    omega
/-- What a map of counts holds. -/
def CtIs (D : DataW Unit) (c : Nat → Nat) : Prop := Go.Maps.IsMap D ∧ ∀ (x : Int) zd, D.atKey (.int .i64 x) zd = if 0 ≤ x ∧ c x.toNat ≠ 0 then .lit (.int .i64 (c x.toNat : Int)) else zd
theorem CtIs.nil : CtIs (.map []) (fun _ => 0) := ⟨⟨[], rfl⟩, fun x zd => by rw [if_neg (fun h => h.2 rfl)]; rfl⟩
theorem CtIs.ext {D : DataW Unit} {c c' : Nat → Nat} (h : CtIs D c) (e : ∀ t, c t = c' t) : CtIs D c' := by
  have : c = c' := funext e
  rwa [← this]
theorem CtIs.more {D : DataW Unit} {c : Nat → Nat} (h : CtIs D c) (t : Nat) : CtIs (D.put (.int .i64 (t : Int)) (.lit (.int .i64 ((c t : Int) + 1)))) (fun y => c y + if (t : Int) = (y : Int) then 1 else 0) := by
  refine ⟨?_, fun x zd => ?_⟩
  · obtain ⟨es, rfl⟩ := h.1
    exact ⟨_, rfl⟩
  · by_cases hx : x = (t : Int)
    · subst hx
      rw [Go.Maps.atKey_put_same h.1 (show Go.WideAt.IsKeyLit (.int .i64 (t : Int)) from trivial)]
      rw [if_pos ⟨by omega, by simp⟩]
      simp
    · rw [Go.Maps.atKey_put_other (fun e => hx (by injection e)), h.2 x zd]
      by_cases h0 : 0 ≤ x
      · have hne : ¬ ((t : Int) = ((x.toNat : Nat) : Int)) := by omega
        simp only [if_neg hne, Nat.add_zero]
      · rw [if_neg (fun h => h0 h.1), if_neg (fun h => h0 h.1)]

theorem wf_small {t : Int} (h0 : -1 ≤ t) (h1 : t ≤ 1000001) : (Lit.int .i64 t).wf = true := by
  simp [Lit.wf, IntKind.min, IntKind.max, IntKind.signed, IntKind.bits]
  omega
theorem ct_look {w : World} {M m : Nat} {D : DataW Unit} {c : Nat → Nat} (hO : w.ownsMap Try.prog 3 (plainElem Try.prog 3) M m D) (hC : CtIs D c) (t : Nat) (ht : t ≤ 1000000) : (Instr.lookup 33 (.map (some M)) (.int .i64 (t : Int)) false).run Try.prog w = .ok (.int .i64 (c t : Int)) w := by
  obtain ⟨v, hr, ha, _⟩ := hO.lookup_int (t := 33) (Go.Maps.int_keyed Try.underlying3) Try.underlying33 Try.underlying3 (zeroI w) (Go.Maps.keyOf_int_mk Try.underlying3 (wf_small (t := (t : Int)) (by omega) (by omega)))
  rw [hC.2] at ha
  rw [hr]
  have ht' : ((t : Int)).toNat = t := by omega
  rw [ht'] at ha
  by_cases h0 : c t = 0
  · rw [if_neg (fun h => h.2 h0)] at ha
    cases ha
    rw [h0]
    rfl
  · rw [if_pos ⟨by omega, h0⟩] at ha
    cases ha
    rfl
theorem map_apart {w : World} {M m : Nat} {D : DataW Unit} (h : w.ownsMap Try.prog 3 (plainElem Try.prog 3) M m D) : ∃ es clock, w.heap[M]? = some (.map es clock) := by
  obtain ⟨es, clock, h1, _⟩ := h
  exact ⟨es, clock, h1⟩
theorem ct_same {w w' : World} {b n : Nat} {D : DataW Unit} (h : w.ownsMap Try.prog 3 (plainElem Try.prog 3) b n D) (hb : w'.heap[b]? = w.heap[b]?) : w'.ownsMap Try.prog 3 (plainElem Try.prog 3) b n D := by
  obtain ⟨es, clock, h1, h2⟩ := h
  exact ⟨es, clock, hb.trans h1, h2⟩
/-- A node's kid, where it lies. -/
theorem kid_cell {w : World} {P : Nat → Prop} {xa : Option Addr} {n xc : Nat} {ks : List Nd} (h : KidsAt w P (.slice xa n xc) ks) (j : Nat) (kd : Nd) (hj : ks[j]? = some kd) : ∃ g y, xa = some ⟨g, 0, none⟩ ∧ P g ∧ g < w.heap.size ∧ n = ks.length ∧ n ≤ xc ∧ xc ≤ maxLen ∧ NdIs w P y kd ∧ w.cell? ⟨g, j * 3, none⟩ = some (.int .i64 y.kind) ∧ w.cell? ⟨g, j * 3 + 1, none⟩ = some (.int .i64 y.tok) ∧ w.cell? ⟨g, j * 3 + 2, none⟩ = some (.slice y.a y.n y.c) := by
  obtain ⟨nvs, hrow, hnds, hown⟩ := h.row
  have hl := hnds.1
  have hjl : j < ks.length := (List.getElem?_eq_some_iff.1 hj).1
  obtain ⟨y, hy⟩ : ∃ y, nvs[j]? = some y := ⟨_, List.getElem?_eq_getElem (by omega)⟩
  rcases hrow.2 with ⟨e, h0⟩ | ⟨g, cap, cur, e, h1, hh, h2, h3, h4, h5⟩
  · omega
  · cases e
    have hc := row_cells hrow
    have hget : ∀ i v, (encN y)[i]? = some v → w.cell? ⟨g, j * 3 + i, none⟩ = some v := fun i v hv => by
      have := hc _ _ (cellsN_get nvs j i y v hy hv)
      rw [Addr.add_lit, Nat.zero_add] at this
      exact this
    exact ⟨g, y, rfl, hown g (by simp [Value.ownBlock]), lt_of_block hh, hl, h2, h3, hnds.2 j y kd hy hj, hget 0 _ rfl, hget 1 _ rfl, hget 2 _ rfl⟩
theorem wrap_next {j n : Nat} (h : j < n) (hn : n ≤ maxLen) : IntKind.i64.wrap ((j : Int) + 1) = (j : Int) + 1 := by
  unfold maxLen at hn
  rw [IntKind.wrap_i64]
  omega
/-- Ahead of a round. -/
def CtSt (M m1 : Nat) (c1 : Nat → Nat) (ks : List Nd) (w0 : World) (j : Nat) (wr : World) : Prop := ∃ D, wr.ownsMap Try.prog 3 (plainElem Try.prog 3) M (m1 + tkL (ks.take j)) D ∧ CtIs D (fun t => c1 t + cntL (ks.take j) t) ∧ Kept (· = M) w0 wr

set_option maxRecDepth 100000 in
set_option maxHeartbeats 2000000 in
theorem count_any : ∀ (f : Nat) (n : Nd), szN n ≤ f → ∀ (x : Nv) (P : Nat → Prop) (w : World) (M m : Nat) (D : DataW Unit) (c : Nat → Nat), NdIs w P x n → (∀ b, P b → b ≠ M) → w.ownsMap Try.prog 3 (plainElem Try.prog 3) M m D → CtIs D c → (∀ t, 3000 < t → cntN n t = 0) → m + tkN n ≤ 1000000 → (∀ t, c t + cntN n t ≤ 1000000) →
    Calls Try.prog 8 #[aggN x, .map (some M)] w fun e w' => e = .returned (.tuple #[]) ∧ (∃ D', w'.ownsMap Try.prog 3 (plainElem Try.prog 3) M (m + tkN n) D' ∧ CtIs D' (fun t => c t + cntN n t)) ∧ Kept (· = M) w w'
  | 0, n, hf, _, _, _, _, _, _, _, _, _, _, _, _, _, _ => by obtain ⟨k, t, ks⟩ := n; rw [szN_mk] at hf; omega
  | f + 1, n, hf, x, P, w, M, m, D, c, hx, hP, hO, hC, ht, hm, hc => by
    obtain ⟨k, tok, ks⟩ := n
    obtain ⟨xk, xt, xa, xn, xc⟩ := x
    have hxn : xn = ks.length := hx.len
    have htk : xt = tok := hx.tok
    subst hxn htk
    have hKd : KidsAt w P (.slice xa ks.length xc) ks := hx.kids
    rw [tkN_mk] at hm ⊢
    rw [szN_mk] at hf
    have hts : xt ≤ 3000 := by
      by_cases h0 : 3000 < xt
      · have := ht xt.toNat (by omega)
        rw [cntN_mk, if_pos (by omega)] at this
        omega
      · omega
    have hcl : ∀ t, c t + ((if xt = (t : Int) then 1 else 0) + cntL ks t) ≤ 1000000 := fun t => by have := hc t; rw [cntN_mk] at this; exact this
    have htl : ∀ t, 3000 < t → cntL ks t = 0 := fun t h => by have := ht t h; rw [cntN_mk] at this; omega
    have hMw : M < w.heap.size := by obtain ⟨es, cl, h⟩ := map_apart hO; exact lt_of_block h
    have hb0 := below_new w (boxN ⟨xk, xt, xa, ks.length, xc⟩)
    have hO0 : (w.alloc (boxN ⟨xk, xt, xa, ks.length, xc⟩)).ownsMap Try.prog 3 (plainElem Try.prog 3) M m D := ct_same hO (hb0.block _ hMw)
    obtain ⟨c1, hc1⟩ : ∃ c1 : Nat → Nat, ∀ y, c1 y = c y + if xt = (y : Int) then 1 else 0 := ⟨_, fun _ => rfl⟩
    obtain ⟨m1, hm1⟩ : ∃ m1, m1 = m + if 0 ≤ xt then 1 else 0 := ⟨_, rfl⟩
    have HB1 := hid (show m1 + tkL ks ≤ 1000000 by omega)
    have hmb : m ≤ 1000000 := by omega
    have HB2 := hid (fun t => show c1 t + cntL ks t ≤ 1000000 by have := hcl t; rw [hc1]; omega)
    obtain ⟨T, hTT⟩ : ∃ T, (if 0 ≤ xt then 1 else 0) + tkL ks = T := ⟨_, rfl⟩
    rw [hTT]
    have HPo : Hid (∀ (w' : World), (∃ D', w'.ownsMap Try.prog 3 (plainElem Try.prog 3) M (m1 + tkL ks) D' ∧ CtIs D' (fun t => c1 t + cntL ks t)) → Kept (· = M) w w' → ((∃ D', w'.ownsMap Try.prog 3 (plainElem Try.prog 3) M (m + T) D' ∧ CtIs D' (fun t => c t + cntN (.mk k xt ks) t)) ∧ Kept (· = M) w w')) := by
      rintro w' ⟨D', h1, h2⟩ h3
      exact ⟨⟨D', by rw [← hTT, ← Nat.add_assoc, ← hm1]; exact h1, h2.ext fun t => by rw [cntN_mk, hc1, Nat.add_assoc]⟩, h3⟩
    by_cases h0 : 0 ≤ xt
    · obtain ⟨t, rfl⟩ : ∃ t : Nat, xt = (t : Int) := ⟨xt.toNat, by omega⟩
      have hlk := ct_look hO0 hC t (by omega)
      have hct : c t + 1 ≤ 1000000 := by have := hcl t; rw [if_pos rfl] at this; omega
      have hw1 : IntKind.i64.wrap ((c t : Int) + 1) = (c t : Int) + 1 := by rw [IntKind.wrap_i64]; omega
      have hkey := Go.Maps.keyOf_int_mk (P := Try.prog) Try.underlying3 (wf_small (t := (t : Int)) (by omega) (by omega))
      have hval : plainElem (H := Unit) Try.prog 3 (.int .i64 ((c t : Int) + 1)) = some (.lit (.int .i64 ((c t : Int) + 1)), []) := plainElem_int Try.underlying3 (wf_small (by omega) (by omega))
      have hdt : decide (0 ≤ (t : Int)) = true := decide_eq_true (by omega)
      have HSt0 := hid (fun w2 (hO2 : w2.ownsMap Try.prog 3 (plainElem Try.prog 3) M (m + 1) (D.put (.int .i64 (t : Int)) (.lit (.int .i64 ((c t : Int) + 1))))) (hg2 : (w.alloc (boxN ⟨xk, (t : Int), xa, ks.length, xc⟩)).grownBy w2 (some M)) =>
        (show CtSt M m1 c1 ks w 0 w2 ∧ w2.heap[w.heap.size]? = some (boxN ⟨xk, (t : Int), xa, ks.length, xc⟩) from ⟨⟨_, by rw [hm1, if_pos h0]; simpa [tkL] using hO2, (hC.more t).ext fun y => by rw [hc1]; simp [cntL], ⟨hg2.os.trans hb0.os, hg2.tape.trans hb0.tape, hg2.output.trans hb0.output, Nat.le_trans hb0.size hg2.size, fun b hb hne => (hg2.block b (by simp; omega) (fun e => hne (by cases e; rfl))).trans (hb0.block b hb)⟩⟩, (hg2.block _ (by simp) (by intro e; cases e; omega)).trans (heap_alloc_new w _)⟩))
      clear hm1 hc1 hm hc hcl hTT
      dsimp only [boxN] at hlk hO0 HSt0
      unfold aggN
      go_enter Try.func8, Try.ntmps8
      go_wp2_with (at_mapUpdate; refine wpList_mapUpdate_own _ rfl _ _ _ 33 rfl 3 3 (Go.Maps.int_keyed Try.underlying3) Try.underlying33 _ M m D rfl hO0 (by unfold maxLen; omega) _ _ (.int .i64 (t : Int)) rfl rfl hkey (.lit (.int .i64 ((c t : Int) + 1))) [] hval ?_)
      intro w2 hO2 hg2
      obtain ⟨hSt, hB2⟩ := HSt0.out w2 hO2 hg2
      have HSt := hid hSt
      obtain ⟨⟨s0, s1, s2⟩, _⟩ := boxN_facts (x := ⟨xk, (t : Int), xa, ks.length, xc⟩) hB2
      dsimp only at s0 s1 s2
      clear hg2 hO2 hB2 hlk hkey hval hw1 hdt hO0 HSt0 hSt
      go_wp2_with fail
      go_loopw [17] (fun v wr => ∃ j : Nat, j ≤ ks.length ∧ v = .int .i64 (j : Int) ∧ Hid (CtSt M m1 c1 ks w j wr)) (fun v _ => ks.length - (intOf v).toNat)
      case atStart => exact ⟨0, Nat.zero_le _, rfl, HSt⟩
      case round =>
        obtain ⟨j, hj, rfl, hst⟩ := hrel
        by_cases hjl : j < ks.length
        · have hji : (j : Int) < (ks.length : Int) := by omega
          obtain ⟨kd, hkd⟩ : ∃ kd, ks[j]? = some kd := ⟨_, List.getElem?_eq_getElem hjl⟩
          obtain ⟨D', hO', hC', hk'⟩ := hst.out
          obtain ⟨g, y, ea, hPg, hgl, _, hnc, hcm, hy, e0, e1, e2⟩ := kid_cell (hKd.kept fun b hb hlt => hk'.block b hlt (hP b hb)) j kd hkd
          cases ea
          have hbk := below_new wr (boxN y)
          have hMr : M < wr.heap.size := by obtain ⟨es, cl, h⟩ := map_apart hO'; exact lt_of_block h
          have hT := tkL_at ks j kd hkd
          have hCn := fun t => cntL_at t ks j kd hkd
          have HI := hid (count_any f kd (by have := szL_at ks j kd hkd; omega) y P (wr.alloc (boxN y)) M (m1 + tkL (ks.take j)) D' (fun t => c1 t + cntL (ks.take j) t) (hy.kept fun b _ hlt => hbk.block b hlt) hP (ct_same hO' (hbk.block _ hMr)) hC' (fun t h => by have := htl t h; have := (hCn t).2; omega) (by have := hT.2; have := HB1.out; omega) (fun t => by have h1 := HB2.out t; have h2 := (hCn t).2; omega))
          have hw2 : IntKind.i64.wrap ((j : Int) + 1) = (j : Int) + 1 := wrap_next (by omega) hcm
          have hj0 : (0 : Int) ≤ (j : Int) := by omega
          have HKw := hid (hk'.trans (kept_of_below (X := (· = M)) hbk))
          have HT := hid hT.1
          have HCn := hid (fun t => (hCn t).1)
          unfold aggN at HI
          dsimp only [boxN] at HI HKw
          clear hO' hC' hk' hy hbk hst hT hCn
          go_wp2_with fail
          refine HI.out.mono ?_
          rintro e w3 ⟨rfl, ⟨D3, hO3, hC3⟩, hk3⟩
          have HS3 : Hid (CtSt M m1 c1 ks w (j + 1) w3) := ⟨D3, by rw [HT.out, ← Nat.add_assoc]; exact hO3, hC3.ext fun t => by rw [HCn.out t, ← Nat.add_assoc], HKw.out.trans hk3⟩
          clear hO3 hC3 hk3 HI HKw
          go_wp2_with fail
          go_roundw
          case rel => exact ⟨j + 1, by omega, rfl, HS3⟩
          case measure => simp [intOf]; omega
        · have hjk : j = ks.length := by omega
          subst hjk
          have hji : ¬ ((ks.length : Int) < (ks.length : Int)) := by omega
          obtain ⟨D', hO', hC', hk'⟩ := hst.out
          rw [List.take_length] at hO' hC'
          have HF := hid (HPo.out wr ⟨D', hO', hC'⟩ hk')
          clear hO' hC' hk' hst
          go_wp2_with fail
          go_end0
          exact ⟨rfl, HF.out⟩
    · have hdt : decide (0 ≤ xt) = false := decide_eq_false h0
      have HSt : Hid (CtSt M m1 c1 ks w 0 (w.alloc (boxN ⟨xk, xt, xa, ks.length, xc⟩))) := ⟨D, by rw [hm1, if_neg h0]; simpa [tkL] using hO0, hC.ext fun y => by rw [hc1, if_neg (by omega)]; simp [cntL], kept_of_below hb0⟩
      clear hm1 hc1 hm hc hcl hTT
      dsimp only [boxN] at HSt
      unfold aggN
      go_enter Try.func8, Try.ntmps8
      go_wp2_with fail
      go_loopw [17] (fun v wr => ∃ j : Nat, j ≤ ks.length ∧ v = .int .i64 (j : Int) ∧ Hid (CtSt M m1 c1 ks w j wr)) (fun v _ => ks.length - (intOf v).toNat)
      case atStart => exact ⟨0, Nat.zero_le _, rfl, HSt⟩
      case round =>
        obtain ⟨j, hj, rfl, hst⟩ := hrel
        by_cases hjl : j < ks.length
        · have hji : (j : Int) < (ks.length : Int) := by omega
          obtain ⟨kd, hkd⟩ : ∃ kd, ks[j]? = some kd := ⟨_, List.getElem?_eq_getElem hjl⟩
          obtain ⟨D', hO', hC', hk'⟩ := hst.out
          obtain ⟨g, y, ea, hPg, hgl, _, hnc, hcm, hy, e0, e1, e2⟩ := kid_cell (hKd.kept fun b hb hlt => hk'.block b hlt (hP b hb)) j kd hkd
          cases ea
          have hbk := below_new wr (boxN y)
          have hMr : M < wr.heap.size := by obtain ⟨es, cl, h⟩ := map_apart hO'; exact lt_of_block h
          have hT := tkL_at ks j kd hkd
          have hCn := fun t => cntL_at t ks j kd hkd
          have HI := hid (count_any f kd (by have := szL_at ks j kd hkd; omega) y P (wr.alloc (boxN y)) M (m1 + tkL (ks.take j)) D' (fun t => c1 t + cntL (ks.take j) t) (hy.kept fun b _ hlt => hbk.block b hlt) hP (ct_same hO' (hbk.block _ hMr)) hC' (fun t h => by have := htl t h; have := (hCn t).2; omega) (by have := hT.2; have := HB1.out; omega) (fun t => by have h1 := HB2.out t; have h2 := (hCn t).2; omega))
          have hw2 : IntKind.i64.wrap ((j : Int) + 1) = (j : Int) + 1 := wrap_next (by omega) hcm
          have hj0 : (0 : Int) ≤ (j : Int) := by omega
          have HKw := hid (hk'.trans (kept_of_below (X := (· = M)) hbk))
          have HT := hid hT.1
          have HCn := hid (fun t => (hCn t).1)
          unfold aggN at HI
          dsimp only [boxN] at HI HKw
          clear hO' hC' hk' hy hbk hst hT hCn
          go_wp2_with fail
          refine HI.out.mono ?_
          rintro e w3 ⟨rfl, ⟨D3, hO3, hC3⟩, hk3⟩
          have HS3 : Hid (CtSt M m1 c1 ks w (j + 1) w3) := ⟨D3, by rw [HT.out, ← Nat.add_assoc]; exact hO3, hC3.ext fun t => by rw [HCn.out t, ← Nat.add_assoc], HKw.out.trans hk3⟩
          clear hO3 hC3 hk3 HI HKw
          go_wp2_with fail
          go_roundw
          case rel => exact ⟨j + 1, by omega, rfl, HS3⟩
          case measure => simp [intOf]; omega
        · have hjk : j = ks.length := by omega
          subst hjk
          have hji : ¬ ((ks.length : Int) < (ks.length : Int)) := by omega
          obtain ⟨D', hO', hC', hk'⟩ := hst.out
          rw [List.take_length] at hO' hC'
          have HF := hid (HPo.out wr ⟨D', hO', hC'⟩ hk')
          clear hO' hC' hk' hst
          go_wp2_with fail
          go_end0
          exact ⟨rfl, HF.out⟩
end
section
def sumT (c : Nat → Nat) : Nat → Nat
  | 0 => 0
  | N + 1 => sumT c N + c N
theorem sumT_add (a b : Nat → Nat) : ∀ N, sumT (fun t => a t + b t) N = sumT a N + sumT b N
  | 0 => rfl
  | N + 1 => by rw [sumT, sumT, sumT, sumT_add a b N]; omega
theorem sumT_congr {a b : Nat → Nat} (h : ∀ t, a t = b t) (N : Nat) : sumT a N = sumT b N := by
  have : a = b := funext h
  rw [this]
theorem sumT_zero : ∀ N, sumT (fun _ => 0) N = 0
  | 0 => rfl
  | N + 1 => by rw [sumT, sumT_zero N]
theorem sumT_ind (t : Nat) : ∀ N, t < N → 1 ≤ sumT (fun y => if (t : Int) = (y : Int) then 1 else 0) N
  | 0, h => by omega
  | N + 1, h => by
    rw [sumT]
    by_cases e : t = N
    · subst e
      rw [if_pos rfl]
      omega
    · have := sumT_ind t N (by omega)
      omega
theorem sumT_le {c : Nat → Nat} : ∀ N, (∀ t, t < N → c t ≤ 1) → sumT c N ≤ N
  | 0, _ => Nat.le_refl _
  | N + 1, h => by
    rw [sumT]
    have := sumT_le N fun t ht => h t (by omega)
    have := h N (by omega)
    omega
mutual
theorem tk_sum (N : Nat) : ∀ n : Nd, (∀ t, N ≤ t → cntN n t = 0) → tkN n ≤ sumT (cntN n) N
  | .mk k tok ks, h => by
    have hk := tkL_sum N ks fun t ht => by have := h t ht; rw [cntN_mk] at this; omega
    rw [tkN_mk]
    rw [sumT_congr (fun t => cntN_mk k tok ks t) N, sumT_add]
    by_cases h0 : 0 ≤ tok
    · obtain ⟨t, rfl⟩ : ∃ t : Nat, tok = (t : Int) := ⟨tok.toNat, by omega⟩
      have hlt : t < N := by
        by_cases hlt : t < N
        · exact hlt
        · have := h t (by omega)
          rw [cntN_mk, if_pos rfl] at this
          omega
      have := sumT_ind t N hlt
      rw [if_pos h0]
      omega
    · rw [if_neg h0]
      omega
theorem tkL_sum (N : Nat) : ∀ ks : List Nd, (∀ t, N ≤ t → cntL ks t = 0) → tkL ks ≤ sumT (cntL ks) N
  | [], h => by rw [tkL]; omega
  | n :: ks, h => by
    have h1 := tk_sum N n fun t ht => by have := h t ht; rw [cntL_cons] at this; omega
    have h2 := tkL_sum N ks fun t ht => by have := h t ht; rw [cntL_cons] at this; omega
    rw [tkL, sumT_congr (fun t => cntL_cons n ks t) N, sumT_add]
    omega
end
theorem tk_le {N : Nat} {n : Nd} (h1 : ∀ t, N ≤ t → cntN n t = 0) (h2 : ∀ t, t < N → cntN n t ≤ 1) : tkN n ≤ N := Nat.le_trans (tk_sum N n h1) (sumT_le N h2)
end
section
open Go.RowKit Go.Shelf

set_option maxRecDepth 100000 in
set_option maxHeartbeats 2000000 in
theorem aliveT_any (HR : RToks) (w : World) : Calls Try.prog 5 #[] w fun e w' => e = .returned (.bool true) ∧ Below w.heap.size w w' := by
  have HT : Hid (∀ W, Calls Try.prog 6 #[.string ⟨#[116, 121, 112, 101, 100, 101, 102, 32, 105, 110, 116, 32, 84, 59, 32, 84, 32, 102, 40, 84, 32, 97, 41, 32, 123, 32, 105, 102, 32, 40, 97, 41, 32, 114, 101, 116, 117, 114, 110, 32, 97, 32, 43, 32, 49, 59, 32, 84, 32, 42, 112, 59, 32, 112, 32, 61, 32, 50, 59, 32, 125]⟩] W (ToksT aliveT W)) := fun W => toksT_any HR ⟨aliveT.toArray⟩ W
  have HP := hid (fun a c W hT => Parse_any a c (toksF 0 aliveT).1 W hT (Nat.le_trans (toks_small 0 aliveT).1 (by decide)) (toks_small 0 aliveT).2)
  obtain ⟨k, t, tg, u, n1, n2, n3, b, hpars, hb3⟩ := aliveT_is
  unfold PrPost aggN at HP
  rw [hpars] at HP
  unfold ToksT at HT
  generalize (toksF 0 aliveT).1 = L at *
  go_enter Try.func5, Try.ntmps5
  go_wp2_with fail
  refine (HT.out _).mono ?_
  rintro e w1 ⟨a, c, rfl, hT1, hb1, _⟩
  have HB1 := hid hb1
  have HP1 := hid (HP.out a c w1 hT1)
  clear hT1 hb1 HT HP
  go_wp2_with fail
  refine HP1.out.mono ?_
  rintro e w2 ⟨hb2, x, rfl, hx⟩
  have HB2 := hid (HB1.out.trans (hb2.mono HB1.out.size))
  obtain ⟨xk, xt, xa, xn, xc⟩ := x
  have hxn : xn = 2 := hx.len
  subst hxn
  obtain ⟨g, y, ea, _, hgl, _, hnc, hcm, hy, e0, e1, e2⟩ := kid_cell (show KidsAt w2 (w1.heap.size ≤ ·) (.slice xa 2 xc) [u, .mk 3 tg [n1, n2, n3, b]] from hx.kids) 1 _ rfl
  cases ea
  obtain ⟨yk, yt, ya, yn, yc⟩ := y
  have hyk : yk = 3 := hy.kind
  have hyn : yn = 4 := hy.len
  subst hyk hyn
  obtain ⟨g2, z, ea, _, hgl2, _, hnc2, hcm2, hz, f0, f1, f2⟩ := kid_cell (show KidsAt w2 (w1.heap.size ≤ ·) (.slice ya 4 yc) [n1, n2, n3, b] from hy.kids) 3 _ rfl
  cases ea
  obtain ⟨zk, zt, za, zn, zc⟩ := z
  have hzn : zn = 3 := hz.len.trans hb3
  subst hzn
  dsimp only at e0 e1 e2 f0 f1 f2
  have HB3 := hid (HB2.out.trans (((below_new w2 (.cells #[.int .i64 xk, .int .i64 xt, .slice (some ⟨g, 0, none⟩) 2 xc] 27)).trans ((below_new _ (.cells #[.int .i64 0, .int .i64 (-1), .int .i64 0] 30)).mono (by simp))).mono HB2.out.size))
  clear hb2 HP1 HB1 hx hy hz hpars hb3 HB2
  have HK1 := hid (fun W => Key_any ⟨#[119, 104, 105, 108, 101]⟩ W)
  have HK2 := hid (fun W => Key_any ⟨#[84]⟩ W)
  rw [show keyW (⟨#[119, 104, 105, 108, 101]⟩ : ByteArray).data.toList = true from rfl] at HK1
  rw [show keyW (⟨#[84]⟩ : ByteArray).data.toList = false from rfl] at HK2
  go_wp2_with fail
  refine (HK1.out _).mono ?_
  generalize (w2.alloc (.cells #[.int .i64 xk, .int .i64 xt, .slice (some ⟨g, 0, none⟩) 2 xc] 27)).alloc (.cells #[.int .i64 0, .int .i64 (-1), .int .i64 0] 30) = w3 at *
  rintro e w4 ⟨rfl, m4, rfl⟩
  have HB4 := hid (HB3.out.trans ((dN_below (Below.refl w3.heap.size w3) m4).mono HB3.out.size))
  generalize w3.drewN m4 = w4 at *
  go_wp2_with fail
  refine (HK2.out _).mono ?_
  rintro e w5 ⟨rfl, m5, rfl⟩
  have HB5 := hid (HB4.out.trans ((dN_below (Below.refl w4.heap.size w4) m5).mono HB4.out.size))
  generalize w4.drewN m5 = w5 at *
  go_wp2_with fail
  go_ret
  exact ⟨rfl, HB5.out⟩
end
end Go.Proofs.Ytocklchafmlfkaa
