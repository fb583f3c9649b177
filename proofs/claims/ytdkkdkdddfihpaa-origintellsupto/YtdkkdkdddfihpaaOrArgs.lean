/- What the arguments of the statement are in memory: files, and tokens with their calls. -/
import Derived.Test.YtdkkdkdddfihpaaOrTells
import Derived.ProofKit
import Derived.OpenShut
import Derived.Deep.Slices
import Derived.Lib.SmallJoins
namespace Go.Proofs.Ytdkkdkdddfihpaa
open Go.ChangeShapes Go.WideShapes Go.ChangeAt Go.RowKit

theorem ownOr : ownKnob Try.prog.godebug = none := by kernel_rfl
theorem laidOutOr : laidOutB Try.prog = true := by kernel_rfl
theorem cellsSr : Try.prog.cellsOf 46 = 2 := by kernel_rfl
theorem cellsCl : Try.prog.cellsOf 36 = 3 := by kernel_rfl
theorem cellsTo : Try.prog.cellsOf 29 = 11 := by kernel_rfl
theorem cellsSt : Try.prog.cellsOf 9 = 1 := by kernel_rfl
theorem cellsIn : Try.prog.cellsOf 3 = 1 := by kernel_rfl
theorem cellsBo : Try.prog.cellsOf 4 = 1 := by kernel_rfl
theorem cellsSs : Try.prog.cellsOf 26 = 1 := by kernel_rfl
theorem cellsCs : Try.prog.cellsOf 27 = 1 := by kernel_rfl

section
variable {H : Type} {enc : TypeId × Value → H} {W : World}

theorem bulk_range (len : Nat) (D : Nat → DataW H) (g : Nat → Nat) (h : ∀ i, i < len → g i ≤ Rows.uptoBulk (D i)) : ((List.range len).map g).sum ≤ Rows.uptoBulkAll ((List.range len).map D) := by
  induction len with
  | zero => simp
  | succ n ih =>
    have e : ∀ l r : List (DataW H), Rows.uptoBulkAll (l ++ r) = Rows.uptoBulkAll l + Rows.uptoBulkAll r := by
      intro l r
      induction l with
      | nil => simp [Rows.uptoBulkAll]
      | cons x l ih => simp only [List.cons_append, Rows.uptoBulkAll, ih]; omega
    rw [List.range_succ, List.map_append, List.map_append, e, List.sum_append]
    have h1 := ih (fun i hi => h i (by omega))
    have h2 := h n (by omega)
    simp only [List.map_cons, List.map_nil, List.sum_cons, List.sum_nil, Rows.uptoBulkAll]
    omega
theorem sum_const (n : Nat) (c : Nat) : ((List.range n).map fun _ => c).sum = n * c := by
  induction n with
  | zero => simp
  | succ n ih => rw [List.range_succ, List.map_append, List.sum_append, ih]; simp; rw [Nat.add_mul, Nat.one_mul]
theorem mem_sum {n : Nat} (g : Nat → Nat) {i : Nat} (h : i < n) : g i ≤ ((List.range n).map g).sum := by
  induction n with
  | zero => omega
  | succ n ih =>
    rw [List.range_succ, List.map_append, List.sum_append]
    simp only [List.map_cons, List.map_nil, List.sum_cons, List.sum_nil]
    by_cases hi : i = n
    · subst hi; omega
    · have := ih (by omega); omega
theorem spot {a : Addr} {v : Value} (h : W.cell? a = some v) : ∃ b off, a = ⟨b, off, none⟩ := by
  obtain ⟨b, off, sp⟩ := a
  have hs : sp = none := World.cell?_spot h
  subst hs
  exact ⟨b, off, rfl⟩

/-- A source in memory. -/
theorem open_sr {fuel : Nat} {cs : List Value} {x : DataW H × List MemPlace} (h : DataW.trod enc Try.prog W 0 (fun _ => true) true fuel 46 cs = some x) :
    ∃ s : Sr, cs = [.string s.1, .string s.2] ∧ s.2.size + 3 ≤ Rows.uptoBulk x.1 := by
  obtain ⟨y0, y1, n, rfl, hl, h0, h1⟩ := trod_struct2 Try.underlying46 h
  rw [cellsSr] at hl
  dsimp only at h0 h1
  rw [cellsSt] at h0 h1
  obtain ⟨s0, e0, rfl, z0⟩ := DataW.trod_string Try.underlying9 h0
  obtain ⟨s1, e1, rfl, z1⟩ := DataW.trod_string Try.underlying9 h1
  match cs, hl with
  | [c0, c1], _ =>
    simp at e0 e1
    subst e0 e1
    refine ⟨(s0, s1), rfl, ?_⟩
    have h1 : s1.data.toList.length = s1.size := by simp
    simp only [Rows.uptoBulk, Rows.uptoBulkAll, h1]
    omega

set_option maxRecDepth 100000 in
/-- Files that came in. -/
theorem open_fl {base : Nat} {v : Value} {d : DataW H} {p : List MemPlace} (hv : Value.okWide Try.prog W .any base 23 v) (h : DataW.Trod enc Try.prog W 0 (fun _ => true) true 23 v d p) :
    ∃ a cap fs, v = .slice a fs.length cap ∧ FlAt W a fs ∧ (∀ (k : Nat) x, fs[k]? = some x → x.2.size ≤ Rows.uptoBulk d) ∧ fs.length ≤ Rows.uptoBulk d := by
  obtain ⟨a0, len0, cap0, rfl⟩ := okWide_slice Try.underlying23 hv
  obtain ⟨fuel, hf⟩ := h
  rcases Go.Deep.open_slice Try.underlying23 hf with ⟨hcs, hx⟩ | ⟨a, len, cap, m, n, D, Pl, hcs, _, hlc, hcm, hm, hx, hel⟩
  · simp [Value.cells] at hcs
    obtain ⟨rfl, rfl, rfl⟩ := hcs
    exact ⟨none, 0, [], rfl, .inl rfl, fun k x hx => (by simp at hx), by simp⟩
  · simp [Value.cells] at hcs
    obtain ⟨rfl, rfl, rfl⟩ := hcs
    simp only [Prod.mk.injEq] at hx
    obtain ⟨rfl, rfl⟩ := hx
    simp only [if_true] at hm
    subst hm
    have each : ∀ i, i < len0 → ∃ s : Sr, (W.cell? (a.add (i * 2)) = some (.string s.1) ∧ W.cell? ((a.add (i * 2)).add 1) = some (.string s.2)) ∧ s.2.size + 3 ≤ Rows.uptoBulk (D i) := by
      intro i hi
      obtain ⟨cs', hc', ht⟩ := hel i (by omega)
      rw [cellsSr] at hc'
      obtain ⟨s, rfl, hbk⟩ := open_sr ht
      have hcc := (World.cells?_some hc').2
      refine ⟨s, ⟨?_, ?_⟩, hbk⟩
      · have := hcc.2 0 (by omega); simpa [Addr.add] using this
      · have := hcc.2 1 (by omega); simpa using this
    obtain ⟨F, hF⟩ := Go.Deep.choose_lt each
    have hsum := bulk_range len0 D (fun i => (F i).2.size + 3) (fun i hi => (hF i hi).2)
    have hlen := bulk_range len0 D (fun _ => 1) (fun i hi => by have := (hF i hi).2; omega)
    rw [sum_const] at hlen
    refine ⟨some a, m, (List.range len0).map F, by simp, ?_, ?_, ?_⟩
    · by_cases h0 : len0 = 0
      · subst h0; exact .inl (by simp)
      · obtain ⟨b, off, rfl⟩ := spot (W := W) (a := a) (by have := (hF 0 (by omega)).1.1; simpa [Addr.add] using this)
        have hb := World.block_lt_of_cell? _ _ (by have := (hF 0 (by omega)).1.1; simpa [Addr.add] using this)
        refine .inr ⟨b, off, rfl, hb, fun j x hx => ?_⟩
        have hj : j < len0 := by have := (List.getElem?_eq_some_iff.1 hx).1; simpa using this
        have hxe : x = F j := by simp [hj] at hx; exact hx.symm
        subst hxe
        have := (hF j hj).1
        simp only [Addr.add_lit] at this
        exact this
    · intro k x hx
      have hj : k < len0 := by have := (List.getElem?_eq_some_iff.1 hx).1; simpa using this
      have hxe : x = F k := by simp [hj] at hx; exact hx.symm
      subst hxe
      have := mem_sum (n := len0) (fun i => (F i).2.size + 3) hj
      simp only [Rows.uptoBulk]
      omega
    · simp only [List.length_map, List.length_range, Rows.uptoBulk]
      omega

theorem open_cl {fuel : Nat} {cs : List Value} {x : DataW H × List MemPlace} (h : DataW.trod enc Try.prog W 0 (fun _ => true) true fuel 36 cs = some x) :
    ∃ c : Cl, cs = encC c ∧ 1 ≤ Rows.uptoBulk x.1 := by
  obtain ⟨y0, y1, y2, n, rfl, hl, h0, h1, h2⟩ := Go.Deep.trod_struct3 Try.underlying36 h
  rw [cellsCl] at hl
  dsimp only at h0 h1 h2
  rw [cellsSt] at h0
  rw [cellsIn] at h1 h2
  obtain ⟨s0, e0, rfl, z0⟩ := DataW.trod_string Try.underlying9 h0
  obtain ⟨n1, e1, rfl, _⟩ := DataW.trod_int Try.underlying3 h1
  obtain ⟨n2, e2, rfl, _⟩ := DataW.trod_int Try.underlying3 h2
  match cs, hl with
  | [c0, c1, c2], _ =>
    simp at e0 e1 e2
    subst e0 e1 e2
    exact ⟨⟨s0, n1, n2⟩, rfl, by simp [Rows.uptoBulk]⟩

instance : Inhabited Cl := ⟨⟨⟨#[]⟩, 0, 0⟩⟩
instance : Inhabited Ov := ⟨⟨0, ⟨#[]⟩, false, false, 0, 0, 0, 0, none, 0, 0, none, 0, [], 0⟩⟩

/-- A struct of eleven fields. -/
theorem trod_struct11 {P : Program} {w : World} {base : Nat} {spare : Nat → Bool} {held : Bool} {t : TypeId} {f0 f1 f2 f3 f4 f5 f6 f7 f8 f9 f10 : Field} {fuel : Nat} {cs : List Value} {x : DataW H × List MemPlace} (ht : P.underlying t = some (.struct #[f0, f1, f2, f3, f4, f5, f6, f7, f8, f9, f10])) (h : DataW.trod enc P w base spare held fuel t cs = some x) :
    ∃ y0 y1 y2 y3 y4 y5 y6 y7 y8 y9 y10 n, x.1 = .agg [y0.1, y1.1, y2.1, y3.1, y4.1, y5.1, y6.1, y7.1, y8.1, y9.1, y10.1] ∧ cs.length = P.cellsOf t ∧ DataW.trod enc P w base spare held n f0.type ((cs.drop f0.offset).take (P.cellsOf f0.type)) = some y0 ∧ DataW.trod enc P w base spare held n f1.type ((cs.drop f1.offset).take (P.cellsOf f1.type)) = some y1 ∧ DataW.trod enc P w base spare held n f2.type ((cs.drop f2.offset).take (P.cellsOf f2.type)) = some y2 ∧ DataW.trod enc P w base spare held n f3.type ((cs.drop f3.offset).take (P.cellsOf f3.type)) = some y3 ∧ DataW.trod enc P w base spare held n f4.type ((cs.drop f4.offset).take (P.cellsOf f4.type)) = some y4 ∧ DataW.trod enc P w base spare held n f5.type ((cs.drop f5.offset).take (P.cellsOf f5.type)) = some y5 ∧ DataW.trod enc P w base spare held n f6.type ((cs.drop f6.offset).take (P.cellsOf f6.type)) = some y6 ∧ DataW.trod enc P w base spare held n f7.type ((cs.drop f7.offset).take (P.cellsOf f7.type)) = some y7 ∧ DataW.trod enc P w base spare held n f8.type ((cs.drop f8.offset).take (P.cellsOf f8.type)) = some y8 ∧ DataW.trod enc P w base spare held n f9.type ((cs.drop f9.offset).take (P.cellsOf f9.type)) = some y9 ∧ DataW.trod enc P w base spare held n f10.type ((cs.drop f10.offset).take (P.cellsOf f10.type)) = some y10 := by
  obtain ⟨xs, n, _, rfl, hl, hlen, hf⟩ := DataW.trod_struct ht h
  match xs, hlen with
  | [y0, y1, y2, y3, y4, y5, y6, y7, y8, y9, y10], _ => exact ⟨y0, y1, y2, y3, y4, y5, y6, y7, y8, y9, y10, n, by simp, hl, by simpa using hf 0 f0 rfl, by simpa using hf 1 f1 rfl, by simpa using hf 2 f2 rfl, by simpa using hf 3 f3 rfl, by simpa using hf 4 f4 rfl, by simpa using hf 5 f5 rfl, by simpa using hf 6 f6 rfl, by simpa using hf 7 f7 rfl, by simpa using hf 8 f8 rfl, by simpa using hf 9 f9 rfl, by simpa using hf 10 f10 rfl⟩

set_option maxRecDepth 100000 in
/-- Calls that came in. -/
theorem open_cs {fuel : Nat} {c : Value} {x : DataW H × List MemPlace} (hf : DataW.trod enc Try.prog W 0 (fun _ => true) true fuel 27 [c] = some x) :
    ∃ a cap cs, c = .slice a cs.length cap ∧ CsAt W a cs ∧ cs.length + 1 ≤ Rows.uptoBulk x.1 := by
  rcases Go.Deep.open_slice Try.underlying27 hf with ⟨hcs, hx⟩ | ⟨a, len, cap, m, n, D, Pl, hcs, _, hlc, hcm, hm, hx, hel⟩
  · simp at hcs
    subst hcs
    subst hx
    exact ⟨none, 0, [], rfl, .inl rfl, by simp [Rows.uptoBulk]⟩
  · simp at hcs
    subst hcs
    subst hx
    simp only [if_true] at hm
    subst hm
    have each : ∀ i, i < len → ∃ s : Cl, (∀ (j : Nat) v, (encC s)[j]? = some v → W.cell? ((a.add (i * 3)).add j) = some v) ∧ 1 ≤ Rows.uptoBulk (D i) := by
      intro i hi
      obtain ⟨cs', hc', ht⟩ := hel i (by omega)
      rw [cellsCl] at hc'
      obtain ⟨s, rfl, hbk⟩ := open_cl ht
      have hcc := (World.cells?_some hc').2
      refine ⟨s, fun j v hj => ?_, hbk⟩
      have hj3 : j < 3 := (List.getElem?_eq_some_iff.1 hj).1
      have h1 := hcc.2 j (by omega)
      rw [h1, hj]
    obtain ⟨F, hF⟩ := Go.Deep.choose_lt (α := Cl) each
    have hlen := bulk_range len D (fun _ => 1) (fun i hi => (hF i hi).2)
    rw [sum_const] at hlen
    refine ⟨some a, m, (List.range len).map F, by simp, ?_, ?_⟩
    · by_cases h0 : len = 0
      · subst h0; exact .inl (by simp)
      · have h00 : W.cell? a = some (.string (F 0).name) := by have := (hF 0 (by omega)).1 0 _ rfl; simpa [Addr.add] using this
        obtain ⟨b, off, rfl⟩ := spot h00
        have hb := World.block_lt_of_cell? _ _ h00
        refine .inr ⟨b, off, rfl, hb, fun j x hx i v hv => ?_⟩
        have hj : j < len := by have := (List.getElem?_eq_some_iff.1 hx).1; simpa using this
        have hxe : x = F j := by simp [hj] at hx; exact hx.symm
        subst hxe
        have := (hF j hj).1 i v hv
        simp only [Addr.add_lit] at this
        exact this
    · simp only [List.length_map, List.length_range, Rows.uptoBulk]
      omega
theorem open_any {fuel : Nat} {c : Value} {x : DataW H × List MemPlace} (hf : DataW.trod enc Try.prog W 0 (fun _ => true) true fuel 26 [c] = some x) : ∃ a n cap, c = .slice a n cap := by
  rcases Go.Deep.open_slice Try.underlying26 hf with ⟨hcs, hx⟩ | ⟨a, len, cap, m, n, D, Pl, hcs, _, hlc, hcm, hm, hx, hel⟩
  · simp at hcs; exact ⟨_, _, _, hcs⟩
  · simp at hcs; exact ⟨_, _, _, hcs⟩

set_option maxRecDepth 100000 in
/-- A token that came in. -/
theorem open_to {fuel : Nat} {cs : List Value} {x : DataW H × List MemPlace} (h : DataW.trod enc Try.prog W 0 (fun _ => true) true fuel 29 cs = some x) :
    ∃ t : Ov, cs = encO t ∧ CsAt W t.ca t.calls ∧ t.hi ≤ 9223372036854775807 ∧ t.calls.length + 1 ≤ Rows.uptoBulk x.1 := by
  obtain ⟨y0, y1, y2, y3, y4, y5, y6, y7, y8, y9, y10, n, hxe, hl, h0, h1, h2, h3, h4, h5, h6, h7, h8, h9, h10⟩ := trod_struct11 Try.underlying29 h
  rw [cellsTo] at hl
  dsimp only at h0 h1 h2 h3 h4 h5 h6 h7 h8 h9 h10
  rw [cellsIn] at h0
  rw [cellsSt] at h1
  rw [cellsBo] at h2
  rw [cellsBo] at h3
  rw [cellsIn] at h4
  rw [cellsIn] at h5
  rw [cellsIn] at h6
  rw [cellsIn] at h7
  rw [cellsSs] at h8
  rw [cellsCs] at h9
  rw [cellsIn] at h10
  match cs, hl with
  | [c0, c1, c2, c3, c4, c5, c6, c7, c8, c9, c10], _ =>
    simp only [List.drop_succ_cons, List.drop_zero, List.take_succ_cons, List.take_zero] at h0 h1 h2 h3 h4 h5 h6 h7 h8 h9 h10
    obtain ⟨n0, e0, r0, w0⟩ := DataW.trod_int Try.underlying3 h0
    obtain ⟨n1, e1, r1, w1⟩ := DataW.trod_string Try.underlying9 h1
    obtain ⟨n2, e2, r2⟩ := DataW.trod_bool Try.underlying4 h2
    obtain ⟨n3, e3, r3⟩ := DataW.trod_bool Try.underlying4 h3
    obtain ⟨n4, e4, r4, w4⟩ := DataW.trod_int Try.underlying3 h4
    obtain ⟨n5, e5, r5, w5⟩ := DataW.trod_int Try.underlying3 h5
    obtain ⟨n6, e6, r6, w6⟩ := DataW.trod_int Try.underlying3 h6
    obtain ⟨n7, e7, r7, w7⟩ := DataW.trod_int Try.underlying3 h7
    obtain ⟨ha, hn, hc, e8⟩ := open_any h8
    obtain ⟨ca, cc, calls, e9, hC, hlC⟩ := open_cs h9
    obtain ⟨n10, e10, r10, w10⟩ := DataW.trod_int Try.underlying3 h10
    simp only [List.cons.injEq, and_true] at e0 e1 e2 e3 e4 e5 e6 e7 e10
    subst e0 e1 e2 e3 e4 e5 e6 e7 e8 e9 e10
    refine ⟨⟨n0, n1, n2, n3, n4, n5, n6, n7, ha, hn, hc, ca, cc, calls, n10⟩, rfl, hC, ?_, ?_⟩
    · simp only [Lit.wf, Bool.and_eq_true, decide_eq_true_eq] at w6
      have h3 : IntKind.i64.max = 9223372036854775807 := by decide
      rw [h3] at w6
      exact w6.2
    · rw [hxe]
      simp only [Rows.uptoBulk, Rows.uptoBulkAll]
      omega

set_option maxRecDepth 100000 in
/-- Tokens that came in. -/
theorem open_os {base : Nat} {v : Value} {d : DataW H} {p : List MemPlace} (hv : Value.okWide Try.prog W .any base 24 v) (h : DataW.Trod enc Try.prog W 0 (fun _ => true) true 24 v d p) :
    ∃ a cap ts, v = .slice a ts.length cap ∧ OsAt W a ts ∧ (∀ (k : Nat) t, ts[k]? = some t → t.hi ≤ 9223372036854775807 ∧ t.calls.length ≤ Rows.uptoBulk d) ∧ ts.length ≤ Rows.uptoBulk d := by
  obtain ⟨a0, len0, cap0, rfl⟩ := okWide_slice Try.underlying24 hv
  obtain ⟨fuel, hf⟩ := h
  rcases Go.Deep.open_slice Try.underlying24 hf with ⟨hcs, hx⟩ | ⟨a, len, cap, m, n, D, Pl, hcs, _, hlc, hcm, hm, hx, hel⟩
  · simp [Value.cells] at hcs
    obtain ⟨rfl, rfl, rfl⟩ := hcs
    exact ⟨none, 0, [], rfl, .inl rfl, fun k x hx => (by simp at hx), by simp⟩
  · simp [Value.cells] at hcs
    obtain ⟨rfl, rfl, rfl⟩ := hcs
    simp only [Prod.mk.injEq] at hx
    obtain ⟨rfl, rfl⟩ := hx
    simp only [if_true] at hm
    subst hm
    have each : ∀ i, i < len0 → ∃ t : Ov, (∀ (j : Nat) v, (encO t)[j]? = some v → W.cell? ((a.add (i * 11)).add j) = some v) ∧ CsAt W t.ca t.calls ∧ t.hi ≤ 9223372036854775807 ∧ t.calls.length + 1 ≤ Rows.uptoBulk (D i) := by
      intro i hi
      obtain ⟨cs', hc', ht⟩ := hel i (by omega)
      rw [cellsTo] at hc'
      obtain ⟨t, rfl, hC, hh, hbk⟩ := open_to ht
      have hcc := (World.cells?_some hc').2
      refine ⟨t, fun j v hj => ?_, hC, hh, hbk⟩
      have hj3 : j < 11 := (List.getElem?_eq_some_iff.1 hj).1
      have h1 := hcc.2 j (by omega)
      rw [h1, hj]
    obtain ⟨F, hF⟩ := Go.Deep.choose_lt (α := Ov) each
    have hsum := bulk_range len0 D (fun i => (F i).calls.length + 1) (fun i hi => (hF i hi).2.2.2)
    have hlen := bulk_range len0 D (fun _ => 1) (fun i hi => by have := (hF i hi).2.2.2; omega)
    rw [sum_const] at hlen
    refine ⟨some a, m, (List.range len0).map F, by simp, ?_, ?_, ?_⟩
    · by_cases h0 : len0 = 0
      · subst h0; exact .inl (by simp)
      · have h00 : W.cell? a = some (.int .i64 (F 0).kind) := by have := (hF 0 (by omega)).1 0 _ rfl; simpa [Addr.add] using this
        obtain ⟨b, off, rfl⟩ := spot h00
        have hb := World.block_lt_of_cell? _ _ h00
        refine .inr ⟨b, off, rfl, hb, fun j x hx => ?_⟩
        have hj : j < len0 := by have := (List.getElem?_eq_some_iff.1 hx).1; simpa using this
        have hxe : x = F j := by simp [hj] at hx; exact hx.symm
        subst hxe
        refine ⟨(hF j hj).2.1, fun i v hv => ?_⟩
        have := (hF j hj).1 i v hv
        simp only [Addr.add_lit] at this
        exact this
    · intro k x hx
      have hj : k < len0 := by have := (List.getElem?_eq_some_iff.1 hx).1; simpa using this
      have hxe : x = F k := by simp [hj] at hx; exact hx.symm
      subst hxe
      have := mem_sum (n := len0) (fun i => (F i).calls.length + 1) hj
      refine ⟨(hF k hj).2.2.1, ?_⟩
      simp only [Rows.uptoBulk]
      omega
    · simp only [List.length_map, List.length_range, Rows.uptoBulk]
      omega
end
end Go.Proofs.Ytdkkdkdddfihpaa
