/- Names that were made, in memory; walks of open, close, declare, isType. · Walks of isType, open, close, declare. · Walks of open, close, declare. · Walks of close, declare. · Walk of declare. · Walk of declare. -/
import Derived.Test.YtocklchafmlfkaaTgB
import Derived.Maps.OwnOps
import Derived.Maps.Views
import Derived.BigRegion
namespace Go.Proofs.Ytocklchafmlfkaa
section
open Go.RowKit Go.Shelf

/-- What names are in some surroundings: 0, none; 1, a thing; 2, a type. -/
def MapIs (D : DataW Unit) (g : List UInt8 → Int) : Prop := Go.Maps.IsMap D ∧ ∀ x, (g x = 0 ∧ ∀ zd, D.atKey (.string x) zd = zd) ∨ (g x ≠ 0 ∧ ∀ zd, D.atKey (.string x) zd = .lit (.int .i64 (g x)))
/-- The surroundings that are open, the outermost ones first. -/
abbrev Env0 := List (List UInt8 → Int)
structure NmIs (w : World) (base : Nat) (vn : Value) (ms : List (Option Nat)) (env : Env0) (N : Nat) : Prop where
  len : ms.length = env.length
  row : w.ownsRow base 81 1 vn ms.length (ms.map Value.map)
  maps : ∀ (j b : Nat) g, ms[j]? = some (some b) → env[j]? = some g → base ≤ b ∧ ∃ n D, n ≤ N ∧ w.ownsMap Try.prog 9 (plainElem Try.prog 3) b n D ∧ MapIs D g
  nil0 : ∀ (j : Nat) g, ms[j]? = some Option.none → env[j]? = some g → ∀ x, g x = 0
  apart : ∀ (i j b : Nat), ms[i]? = some (some b) → ms[j]? = some (some b) → i = j
theorem map_same {w w' : World} {b n : Nat} {D : DataW Unit} (h : w.ownsMap Try.prog 9 (plainElem Try.prog 3) b n D) (hb : w'.heap[b]? = w.heap[b]?) : w'.ownsMap Try.prog 9 (plainElem Try.prog 3) b n D := by
  obtain ⟨es, clock, h1, h2⟩ := h
  exact ⟨es, clock, hb.trans h1, h2⟩
theorem map_block {w : World} {b n : Nat} {D : DataW Unit} (h : w.ownsMap Try.prog 9 (plainElem Try.prog 3) b n D) : ∃ es clock, w.heap[b]? = some (.map es clock) := by
  obtain ⟨es, clock, h1, _⟩ := h
  exact ⟨es, clock, h1⟩
theorem NmIs.row_block {w : World} {base : Nat} {vn : Value} {ms : List (Option Nat)} {env : Env0} {N : Nat} (h : NmIs w base vn ms env N) (b : Nat) (hb : vn.ownBlock = some b) : base ≤ b ∧ ∃ c, w.heap[b]? = some (.cells c 81) := by
  rcases h.row.2 with ⟨e, _⟩ | ⟨g, cap, cur, e, hg, hh, _⟩
  · rw [e] at hb; cases hb
  · rw [e] at hb; cases hb; exact ⟨hg, cur, hh⟩
theorem NmIs.same {w w' : World} {base : Nat} {vn : Value} {ms : List (Option Nat)} {env : Env0} {N : Nat} (h : NmIs w base vn ms env N) (h1 : ∀ b c, w.heap[b]? = some (.cells c 81) → base ≤ b → w'.heap[b]? = w.heap[b]?) (h2 : ∀ b es clock, w.heap[b]? = some (.map es clock) → base ≤ b → w'.heap[b]? = w.heap[b]?) : NmIs w' base vn ms env N := by
  refine ⟨h.len, row_same h.row fun b hb _ => ?_, fun j b g hm hg => ?_, h.nil0, h.apart⟩
  · obtain ⟨k1, c, k2⟩ := h.row_block b hb
    exact h1 b c k2 k1
  · obtain ⟨k1, n, D, hn, ho, hD⟩ := h.maps j b g hm hg
    obtain ⟨es, clock, k2⟩ := map_block ho
    exact ⟨k1, n, D, hn, map_same ho (h2 b es clock k2 k1), hD⟩
theorem NmIs.mono {w : World} {base : Nat} {vn : Value} {ms : List (Option Nat)} {env : Env0} {N N' : Nat} (h : NmIs w base vn ms env N) (hN : N ≤ N') : NmIs w base vn ms env N' :=
  ⟨h.len, h.row, fun j b g hm hg => by obtain ⟨k1, n, D, hn, r⟩ := h.maps j b g hm hg; exact ⟨k1, n, D, Nat.le_trans hn hN, r⟩, h.nil0, h.apart⟩
theorem NmIs.below {w w' : World} {base : Nat} {vn : Value} {ms : List (Option Nat)} {env : Env0} {N : Nat} (h : NmIs w base vn ms env N) (hb : Below w.heap.size w w') : NmIs w' base vn ms env N := h.same (fun b _ h _ => hb.block b (lt_of_block h)) (fun b _ _ h _ => hb.block b (lt_of_block h))
theorem NmIs.kept {w w' : World} {base r : Nat} {vn : Value} {ms : List (Option Nat)} {env : Env0} {N : Nat} (h : NmIs w base vn ms env N) {c0 : Array Value} (hr : w.heap[r]? = some (.cells c0 53)) (hk : Kept (· = r) w w') : NmIs w' base vn ms env N := by
  refine h.same (fun b c hb _ => hk.block b (lt_of_block hb) fun e => ?_) (fun b es cl hb _ => hk.block b (lt_of_block hb) fun e => ?_)
  · subst e
    rw [hb] at hr
    injection hr with hr
    injection hr with _ hr
    revert hr
    decide
  · subst e
    rw [hb] at hr
    cases hr
/-- What is left alone: all that lay ahead of base, and all cells but the reader's and the names'. -/
structure FrT (base r : Nat) (w w' : World) : Prop where
  low : Below base w w'
  cells : ∀ (b : Nat) c (T : TypeId) fz, w.heap[b]? = some (.cells c T fz) → T ≠ 81 → b ≠ r → w'.heap[b]? = w.heap[b]?
theorem FrT.refl (base r : Nat) (w : World) : FrT base r w w := ⟨Below.refl _ _, fun _ _ _ _ _ _ _ => rfl⟩
theorem FrT.trans {base r : Nat} {a b c : World} (h : FrT base r a b) (k : FrT base r b c) : FrT base r a c :=
  ⟨h.low.trans k.low, fun g cs T fz hg hT hr => by have e := h.cells g cs T fz hg hT hr; rw [← e]; exact k.cells g cs T fz (by rw [e]; exact hg) hT hr⟩
theorem FrT.of_kept {base r : Nat} {w w' : World} (h : Kept (· = r) w w') (hr : base ≤ r) (hb : base ≤ w.heap.size) : FrT base r w w' :=
  ⟨h.below hb fun k hk e => by omega, fun b _ _ _ hc _ hne => h.block b (lt_of_block hc) hne⟩
theorem FrT.of_below {base r : Nat} {w w' : World} (h : Below w.heap.size w w') (hb : base ≤ w.heap.size) : FrT base r w w' :=
  ⟨h.mono hb, fun b _ _ _ hc _ _ => h.block b (lt_of_block hc)⟩
/-- A reader, with its names. -/
structure RdAt (w : World) (base r : Nat) (la : Option Addr) (lc : Nat) (L : List Tk) (i : Nat) (env : Env0) (d : Nat) : Prop where
  lo : ∀ b off, la = some ⟨b, off, none⟩ → L ≠ [] → b < base
  hr : base ≤ r
  st : ∃ vn ms, CrAt w r la lc L i vn d ∧ NmIs w base vn ms env i
/-- A reader where something was thrown: wherever it is. -/
structure RdP (w : World) (base r : Nat) (la : Option Addr) (lc : Nat) (L : List Tk) (env : Env0) (d : Nat) : Prop where
  lo : ∀ b off, la = some ⟨b, off, none⟩ → L ≠ [] → b < base
  hr : base ≤ r
  st : ∃ i vn ms N, CrAt w r la lc L i vn d ∧ NmIs w base vn ms env N
theorem RdAt.thrown {w : World} {base r : Nat} {la : Option Addr} {lc : Nat} {L : List Tk} {i : Nat} {env : Env0} {d : Nat} (h : RdAt w base r la lc L i env d) : RdP w base r la lc L env d := by
  obtain ⟨vn, ms, hc, hn⟩ := h.st
  exact ⟨h.lo, h.hr, i, vn, ms, i, hc, hn⟩
theorem RdAt.size {w : World} {base r : Nat} {la : Option Addr} {lc : Nat} {L : List Tk} {i : Nat} {env : Env0} {d : Nat} (h : RdAt w base r la lc L i env d) : base ≤ w.heap.size := by
  obtain ⟨vn, ms, hc, _⟩ := h.st
  have := h.hr
  have := hc.lt
  omega
theorem RdAt.below {w w' : World} {base r : Nat} {la : Option Addr} {lc : Nat} {L : List Tk} {i : Nat} {env : Env0} {d : Nat} (h : RdAt w base r la lc L i env d) (hb : Below w.heap.size w w') : RdAt w' base r la lc L i env d := by
  obtain ⟨vn, ms, hc, hn⟩ := h.st
  exact ⟨h.lo, h.hr, vn, ms, hc.below hb, hn.below hb⟩
/-- Behind what turns the reader's place alone. -/
theorem RdAt.of_cr {w w' : World} {base r : Nat} {la : Option Addr} {lc : Nat} {L : List Tk} {i : Nat} {env : Env0} {d : Nat} {vn : Value} {ms : List (Option Nat)} (lo : ∀ b off, la = some ⟨b, off, none⟩ → L ≠ [] → b < base) (hr : base ≤ r) (hc : CrAt w r la lc L i vn d) (hn : NmIs w base vn ms env i) {i' d' : Nat} (hc' : CrAt w' r la lc L i' vn d') (hk : Kept (· = r) w w') (hi : i ≤ i') : RdAt w' base r la lc L i' env d' :=
  ⟨lo, hr, vn, ms, hc', (hn.kept hc.box hk).mono hi⟩

/-- Whether a name is a type's, as far as the first k surroundings tell. -/
def tyN (env : Env0) (x : List UInt8) : Nat → Bool
  | 0 => false
  | k + 1 => match env[k]? with
    | some g => if g x = 0 then tyN env x k else decide (g x = 2)
    | none => false
def isTyE (env : Env0) (x : List UInt8) : Bool := tyN env x env.length

theorem zeroI (w : World) : (zeroValue 3).run Try.prog w = .ok (.int .i64 0) w := by rfl
/-- What is looked up. -/
theorem look_ok {w : World} {b n : Nat} {D : DataW Unit} {g : List UInt8 → Int} (h : w.ownsMap Try.prog 9 (plainElem Try.prog 3) b n D) (hD : MapIs D g) (x : ByteArray) (hx : x.size ≤ maxLen) :
    (Instr.lookup 81 (.map (some b)) (.string x) true).run Try.prog w = .ok (.tuple #[.int .i64 (g x.data.toList), .bool (decide (g x.data.toList ≠ 0))]) w := by
  obtain ⟨es, clock, hb, F, _, rfl⟩ := h
  have hkey : keyOf Try.prog 9 (.string x) = some (.string x.data.toList) := by
    first | exact Go.Maps.keyOf_string_mk Try.underlying9 hx | (simp [keyOf, Try.underlying9, mapKey, hx])
  rcases Go.Maps.fit_look true (Go.Maps.string_keyed Try.underlying9) Try.underlying81 (zeroI w) hb F hkey with ⟨hrun, _, hat⟩ | ⟨e0, y, _, _, hrun, hRv, hat, _⟩
  · rcases hD.2 x.data.toList with ⟨h0, _⟩ | ⟨_, h1⟩
    · rw [hrun, h0]; rfl
    · have e1 := hat (.lit (.bool true))
      rw [h1] at e1
      cases e1
  · rcases hD.2 x.data.toList with ⟨_, h1⟩ | ⟨h0, h1⟩
    · have e1 := hat (.lit (.bool true))
      have e2 := hat (.lit (.bool false))
      rw [h1] at e1 e2
      rw [← e1] at e2
      cases e2
    · have e1 := hat (.lit (.bool true))
      rw [h1] at e1
      obtain ⟨a, hv, hz, _⟩ := plainElem_int_inv (H := Unit) Try.underlying3 hRv
      rw [hz] at e1
      cases e1
      rw [hrun, hv]
      simp [h0]
end
section
open Go.RowKit Go.Shelf

theorem NmIs.cell {w : World} {base : Nat} {vn : Value} {ms : List (Option Nat)} {env : Env0} {N : Nat} (h : NmIs w base vn ms env N) (j : Nat) (o : Option Nat) (hj : ms[j]? = some o) : ∃ g cap, vn = .slice (some ⟨g, 0, none⟩) ms.length cap ∧ base ≤ g ∧ g < w.heap.size ∧ w.cell? ⟨g, j, none⟩ = some (.map o) ∧ w.frozen? ⟨g, j, none⟩ = false ∧ ms.length ≤ cap := by
  have hl : j < ms.length := (List.getElem?_eq_some_iff.1 hj).1
  rcases h.row.2 with ⟨_, h0⟩ | ⟨g, cap, cur, e, hg, hh, hn, _, hs, ht⟩
  · omega
  · refine ⟨g, cap, e, hg, lt_of_block hh, ?_, by simp [World.frozen?, hh], hn⟩
    have h1 : (ms.map Value.map)[j]? = some (.map o) := by rw [List.getElem?_map, hj]; rfl
    rw [← ht, List.getElem?_take_of_lt (by omega), Array.getElem?_toList] at h1
    rw [Go.Joins.cell_of_block hh]
    exact h1
theorem look_nil (x : ByteArray) (W : World) : (Instr.lookup 81 (.map none) (.string x) true).run Try.prog W = .ok (.tuple #[.int .i64 0, .bool false]) W := by kernel_rfl
theorem tyN_some {env : Env0} {x : List UInt8} {k : Nat} {g : List UInt8 → Int} (h : env[k]? = some g) : tyN env x (k + 1) = if g x = 0 then tyN env x k else decide (g x = 2) := by
  rw [tyN, h]

set_option maxRecDepth 100000 in
set_option maxHeartbeats 1000000 in
theorem isType_any (base : Nat) (vn : Value) (ms : List (Option Nat)) (env : Env0) (N : Nat) (x : ByteArray) (hx : x.size ≤ 1048576) (w : World) (h : NmIs w base vn ms env N) (hl : ms.length ≤ 1048576) :
    Calls Try.prog 49 #[vn, .string x] w fun e w' => e = .returned (.bool (isTyE env x.data.toList)) ∧ ∃ n, w' = w.drewN n := by
  obtain ⟨av, cv, rfl⟩ := row_val h.row
  have HN := hid h
  have HT : Hid (isTyE env x.data.toList = tyN env x.data.toList ms.length) := by show _ = _; unfold isTyE; rw [h.len]
  rw [HT.out]
  have hw0 : IntKind.i64.wrap ((ms.length : Int) - 1) = (ms.length : Int) - 1 := by rw [IntKind.wrap_i64]; omega
  clear h
  go_enter Try.func49, Try.ntmps49
  go_wp2_with fail
  go_loopw [5] (fun v wr => ∃ k : Nat, k ≤ ms.length ∧ v = .int .i64 ((k : Int) - 1) ∧ wr = w ∧ tyN env x.data.toList ms.length = tyN env x.data.toList k) (fun v _ => (intOf v + 1).toNat)
  case atStart => exact ⟨ms.length, Nat.le_refl _, rfl, rfl, rfl⟩
  case round =>
    obtain ⟨k, hk, rfl, rfl, hty⟩ := hrel
    have HTy := hid hty
    clear hty
    cases k with
    | zero =>
      have e0 : ((0 : Nat) : Int) - 1 = -1 := by omega
      rw [e0]
      go_wp2_with fail
      go_ret
      exact ⟨ret_bool (by rw [HTy.out]; rfl), 0, rfl⟩
    | succ k =>
      have e0 : ((k + 1 : Nat) : Int) - 1 = (k : Int) := by omega
      rw [e0]
      obtain ⟨o, ho⟩ : ∃ o, ms[k]? = some o := ⟨_, List.getElem?_eq_getElem (by omega)⟩
      obtain ⟨gv, hgv⟩ : ∃ g, env[k]? = some g := ⟨_, List.getElem?_eq_getElem (by have := HN.out.len; omega)⟩
      obtain ⟨gb, cap, ea, hg1, hg2, hc, _, hcap⟩ := HN.out.cell k o ho
      cases ea
      have hk0 : (0 : Int) ≤ (k : Int) := by omega
      have hkl : (k : Int) < (ms.length : Int) := by omega
      have hwk : IntKind.i64.wrap ((k : Int) - 1) = (k : Int) - 1 := by rw [IntKind.wrap_i64]; omega
      cases o with
      | none =>
        have hz := HN.out.nil0 k gv ho hgv x.data.toList
        have hlk := look_nil x wr
        have HT2 : Hid (tyN env x.data.toList ms.length = tyN env x.data.toList k) := by show _ = _; rw [HTy.out, tyN_some hgv, if_pos hz]
        go_wp2_with fail
        go_roundw
        case rel => exact ⟨k, by omega, rfl, trivial, HT2.out⟩
        case measure => simp [intOf]
      | some b =>
        obtain ⟨_, n, D, _, ho2, hD⟩ := HN.out.maps k b gv ho hgv
        have hlk := look_ok ho2 hD x (by unfold maxLen; omega)
        by_cases hz : gv x.data.toList = 0
        · rw [hz] at hlk
          have HT2 : Hid (tyN env x.data.toList ms.length = tyN env x.data.toList k) := by show _ = _; rw [HTy.out, tyN_some hgv, if_pos hz]
          simp only [ne_eq, not_true_eq_false, decide_false] at hlk
          go_wp2_with fail
          go_roundw
          case rel => exact ⟨k, by omega, rfl, trivial, HT2.out⟩
          case measure => simp [intOf]
        · rw [decide_eq_true (by exact hz)] at hlk
          have HT2 : Hid (tyN env x.data.toList ms.length = decide (gv x.data.toList = 2)) := by show _ = _; rw [HTy.out, tyN_some hgv, if_neg hz]
          generalize gv x.data.toList = gx at hlk hz HT2
          go_wp2_with fail
          go_ret
          exact ⟨ret_bool (by rw [HT2.out, Bool.eq_iff_iff]; simp), 0, rfl⟩
end
section
open Go.RowKit Go.Shelf

theorem info_map : (Try.prog.info? 81).map (fun i => (i.zero, i.size, i.bytes)) = some (some (.map none), 1, 8) := by kernel_rfl
theorem one_cell (w : World) (v : Value) (T : TypeId) : ∀ j u, [v][j]? = some u → (w.alloc (.cells #[v] T)).cell? ((⟨w.heap.size, 0, none⟩ : Addr).add j) = some u := by
  intro j u hu
  rw [Addr.add_lit, Nat.zero_add, World.cell?_alloc_mark]
  simpa using hu
theorem reader_apart {w : World} {r b : Nat} {c0 c : Array Value} {T : TypeId} (hr : w.heap[r]? = some (.cells c0 53)) (hb : w.heap[b]? = some (.cells c T)) (hT : T ≠ 53) : b ≠ r := fun e => by
  subst e
  rw [hb] at hr
  injection hr with hr
  injection hr with _ hr
  exact hT hr
theorem cells_apart {w : World} {b k : Nat} {c : Array Value} {T : TypeId} {fz : Nat × Nat} {c' : Array Value} (h1 : w.heap[b]? = some (.cells c T fz)) (h2 : w.heap[k]? = some (.cells c' 81)) (hT : T ≠ 81) : b ≠ k := fun e => by
  subst e
  rw [h1] at h2
  injection h2 with h2
  injection h2 with _ h2
  exact hT h2
/-- Behind open. -/
theorem open_next {base r : Nat} {la : Option Addr} {lc : Nat} {L : List Tk} {i : Nat} {vn v' : Value} {d : Nat} {ms : List (Option Nat)} {env : Env0} {N : Nat} {w w2 : World} {o : Obj} (h : CrAt w r la lc L i vn d) (hn : NmIs w base vn ms env N) (hbr : base ≤ r) (hlo : ∀ b off, la = some ⟨b, off, none⟩ → L ≠ [] → b < base)
    (hown : w2.ownsRow base 81 1 v' (ms.length + 1) (ms.map Value.map ++ [.map none])) (hg : (w.alloc o).grownBy w2 vn.ownBlock) :
    w2.heap[r]? = some (boxR la L.length lc i vn d) ∧ CrAt (w2.setCell ⟨r, 2, none⟩ v') r la lc L i v' d ∧ NmIs (w2.setCell ⟨r, 2, none⟩ v') base v' (ms ++ [none]) (env ++ [fun _ => 0]) N ∧ FrT base r w (w2.setCell ⟨r, 2, none⟩ v') := by
  have hrl := h.lt
  have hbl : ∀ b, b < w.heap.size → vn.ownBlock ≠ some b → w2.heap[b]? = w.heap[b]? := fun b hb hne => (hg.block b (by simp; omega) (fun e => hne e.symm)).trans ((below_new w o).block b hb)
  have hrow : ∀ b, vn.ownBlock = some b → base ≤ b ∧ ∃ c, w.heap[b]? = some (.cells c 81) := fun b hb => hn.row_block b hb
  have hrne : vn.ownBlock ≠ some r := fun e => by
    obtain ⟨_, c, hc⟩ := hrow r e
    exact reader_apart h.box hc (by decide) rfl
  have hr2 := (hbl r hrl hrne).trans h.box
  have hsz : w.heap.size ≤ w2.heap.size := Nat.le_trans (by simp) hg.size
  have hlow : Below base w w2 := ⟨hg.os, hg.tape, hg.output, hsz, fun b hb => hbl b (by omega) (fun e => by have := (hrow b e).1; omega)⟩
  have hlow3 : Below base w (w2.setCell ⟨r, 2, none⟩ v') := hlow.setCell (by exact hbr) _
  have hbox := Go.Joins.block_setCell (i := 2) hr2 v'
  refine ⟨hr2, ?_, ?_, ?_⟩
  · refine ⟨by simpa using hbox, ?_, h.far, h.le, h.few, h.low⟩
    by_cases hL : L = []
    · exact .inl hL
    rcases h.toks with h0 | ⟨b, off, rfl, hlt, hc⟩
    · exact .inl h0
    · exact .inr ⟨b, off, rfl, Nat.lt_of_lt_of_le hlt hlow3.size, fun j x hx k v hv => (hlow3.cell (p := ⟨b, _, none⟩) (hlo b off rfl hL)).trans (hc j x hx k v hv)⟩
  · have hl : (ms ++ [none]).length = ms.length + 1 := by simp
    have hrow2 : w2.ownsRow base 81 1 v' (ms ++ [none]).length ((ms ++ [none]).map Value.map) := by rw [hl, List.map_append]; exact hown
    have hrow3 := row_same (w' := w2.setCell ⟨r, 2, none⟩ v') hrow2 fun b hb _ => Below.heap_setCell _ _ _ _ (by
      rcases hown.2 with ⟨e, _⟩ | ⟨g, cap, cur, e, _, hh, _⟩
      · rw [e] at hb; cases hb
      · rw [e] at hb; cases hb
        exact reader_apart hr2 hh (by decide))
    refine ⟨by simp [hn.len], hrow3, fun j b g hm hgj => ?_, fun j g hm hgj x => ?_, fun a j b ha hj => ?_⟩
    · by_cases hj : j < ms.length
      · rw [List.getElem?_append_left hj] at hm
        rw [List.getElem?_append_left (by rw [← hn.len]; exact hj)] at hgj
        obtain ⟨k1, n, D, hN, ho, hD⟩ := hn.maps j b g hm hgj
        obtain ⟨es, cl, hb⟩ := map_block ho
        refine ⟨k1, n, D, hN, map_same ho ?_, hD⟩
        have hb1 : vn.ownBlock ≠ some b := fun e => by
          obtain ⟨_, c, hc⟩ := hrow b e
          rw [hb] at hc; cases hc
        rw [Below.heap_setCell _ _ _ _ (fun e => by
          have e' : b = r := e
          subst e'
          have := h.box
          rw [hb] at this; cases this)]
        exact hbl b (lt_of_block hb) hb1
      · rw [List.getElem?_append_right (by omega)] at hm
        have hz : j - ms.length = 0 := by have := (List.getElem?_eq_some_iff.1 hm).1; simp at this; omega
        rw [hz] at hm
        cases hm
    · by_cases hj : j < ms.length
      · rw [List.getElem?_append_left hj] at hm
        rw [List.getElem?_append_left (by rw [← hn.len]; exact hj)] at hgj
        exact hn.nil0 j g hm hgj x
      · rw [List.getElem?_append_right (by rw [← hn.len]; omega)] at hgj
        have hz : j - env.length = 0 := by have := (List.getElem?_eq_some_iff.1 hgj).1; simp at this; omega
        rw [hz] at hgj
        cases hgj
        rfl
    · have key : ∀ k, (ms ++ [none])[k]? = some (some b) → ms[k]? = some (some b) := fun k hk => by
        by_cases hj : k < ms.length
        · rwa [List.getElem?_append_left hj] at hk
        · rw [List.getElem?_append_right (by omega)] at hk
          have hz : k - ms.length = 0 := by have := (List.getElem?_eq_some_iff.1 hk).1; simp at this; omega
          rw [hz] at hk
          cases hk
      exact hn.apart a j b (key a ha) (key j hj)
  · refine ⟨hlow3, fun b c T fz hc hT hne => ?_⟩
    rw [Below.heap_setCell _ _ _ _ hne]
    exact hbl b (lt_of_block hc) fun e => by
      obtain ⟨_, c', hc'⟩ := hrow b e
      exact cells_apart hc hc' hT rfl

set_option maxRecDepth 100000 in
set_option maxHeartbeats 1000000 in
theorem open_any {base r : Nat} {la : Option Addr} {lc : Nat} {L : List Tk} {i : Nat} {env : Env0} {d : Nat} (w : World) (h : RdAt w base r la lc L i env d) (hl : env.length ≤ 1000) :
    Calls Try.prog 19 #[.pointer (some ⟨r, 2, none⟩)] w fun e w' => e = .returned (.tuple #[]) ∧ RdAt w' base r la lc L i (env ++ [fun _ => 0]) d ∧ FrT base r w w' := by
  have hbs := h.size
  obtain ⟨lo, hbr, vn, ms, hc, hn⟩ := h
  obtain ⟨i0, hi, hz0, hz1, hz2⟩ := info_parts info_map
  obtain ⟨⟨b0, b1, b2, b3⟩, q1, q2, q3⟩ := hc.facts
  have hml : ms.length ≤ 1000 := by rw [hn.len]; exact hl
  have hown := hn.row
  obtain ⟨av, cv, rfl⟩ := row_val hown
  have HO := hid (fun v' w2 => open_next (v' := v') (w2 := w2) (o := .cells #[.map none] 81) hc hn hbr lo)
  have hrl := hc.lt
  have hrn : r ≠ w.heap.size := by omega
  clear hc hn
  go_enter Try.func19, Try.ntmps19
  go_wp2_with (at_builtin; refine wpList_append_own_at _ rfl _ _ 51 rfl base 81 i0 _ 1 8 Try.underlying51 hi hz0 hz1 hz2 rfl (by decide) _ _ _ rfl (hown.alloc _) ⟨w.heap.size, 0, none⟩ 1 1 [.map none] rfl rfl (one_cell w _ _) (by simp; rfl) (by unfold maxLen; omega) (by omega) (by simp; omega) ?_)
  intro v' w2 hown2 hg2 _ _
  obtain ⟨p1, p2, p3, p4⟩ := HO.out v' w2 hown2 hg2
  have HP := hid (And.intro p2 (And.intro p3 p4))
  have c2 : w2.cell? ⟨r, 2, none⟩ = some (.slice av ms.length cv) := by simp [World.cell?, p1]
  have f2 : w2.frozen? ⟨r, 2, none⟩ = false := by simp [World.frozen?, p1]
  obtain ⟨a2, d2, rfl⟩ := row_val hown2
  clear p1 p2 p3 p4 hown2 hg2 hown b0 b1 b2 b3 q1 q2 q3
  go_wp2_with fail
  go_end0
  exact ⟨rfl, ⟨lo, hbr, _, _, HP.out.1, HP.out.2.1⟩, HP.out.2.2⟩
end
section
open Go.RowKit Go.Shelf

/-- Behind close. -/
theorem close_next {base r : Nat} {la : Option Addr} {lc : Nat} {L : List Tk} {i : Nat} {d : Nat} {ms : List (Option Nat)} {o : Option Nat} {env : Env0} {g : List UInt8 → Int} {N gb cap : Nat} {w w1 : World} (hb : Below w.heap.size w w1) (h : CrAt w r la lc L i (.slice (some ⟨gb, 0, none⟩) (ms.length + 1) cap) d) (hn : NmIs w base (.slice (some ⟨gb, 0, none⟩) (ms.length + 1) cap) (ms ++ [o]) (env ++ [g]) N) :
    CrAt (w1.setCell ⟨r, 2, none⟩ (.slice (some ⟨gb, 0, none⟩) ms.length cap)) r la lc L i (.slice (some ⟨gb, 0, none⟩) ms.length cap) d ∧ NmIs (w1.setCell ⟨r, 2, none⟩ (.slice (some ⟨gb, 0, none⟩) ms.length cap)) base (.slice (some ⟨gb, 0, none⟩) ms.length cap) ms env N ∧ Kept (· = r) w (w1.setCell ⟨r, 2, none⟩ (.slice (some ⟨gb, 0, none⟩) ms.length cap)) := by
  have hk : Kept (· = r) w (w1.setCell ⟨r, 2, none⟩ (.slice (some ⟨gb, 0, none⟩) ms.length cap)) := Kept.setCell (X := (· = r)) (a := ⟨r, 2, none⟩) (kept_of_below hb) rfl _
  have hbox := Go.Joins.block_setCell (i := 2) (h.below hb).box (.slice (some ⟨gb, 0, none⟩) ms.length cap)
  have hn3 := hn.kept h.box hk
  have hlen : ms.length = env.length := by have := hn.len; simp at this; exact this
  refine ⟨h.kept hk (by simpa using hbox) h.le h.low, ⟨hlen, ?_, fun j b g' hm hg' => ?_, fun j g' hm hg' => ?_, fun a j b ha hj => ?_⟩, hk⟩
  · refine ⟨by simp, ?_⟩
    have hln : (ms ++ [o]).length = ms.length + 1 := by simp
    rcases hn3.row.2 with ⟨e, _⟩ | ⟨g', cap', cur, e, hg, hh, hle, hml, hsz, ht⟩
    · cases e
    · rw [hln] at e hle ht
      cases e
      refine .inr ⟨gb, cap, cur, rfl, hg, hh, by omega, hml, hsz, ?_⟩
      have := congrArg (List.take ms.length) ht
      rw [List.take_take, Nat.min_eq_left (by omega)] at this
      simpa using this
  · have hj : j < ms.length := (List.getElem?_eq_some_iff.1 hm).1
    exact hn3.maps j b g' (by rw [List.getElem?_append_left hj]; exact hm) (by rw [List.getElem?_append_left (by omega)]; exact hg')
  · have hj : j < ms.length := (List.getElem?_eq_some_iff.1 hm).1
    exact hn3.nil0 j g' (by rw [List.getElem?_append_left hj]; exact hm) (by rw [List.getElem?_append_left (by omega)]; exact hg')
  · have h1 : a < ms.length := (List.getElem?_eq_some_iff.1 ha).1
    have h2 : j < ms.length := (List.getElem?_eq_some_iff.1 hj).1
    exact hn3.apart a j b (by rw [List.getElem?_append_left h1]; exact ha) (by rw [List.getElem?_append_left h2]; exact hj)

set_option maxRecDepth 100000 in
set_option maxHeartbeats 1000000 in
theorem close_any {base r : Nat} {la : Option Addr} {lc : Nat} {L : List Tk} {i : Nat} {env : Env0} {g : List UInt8 → Int} {d N : Nat} {vn : Value} {ms' : List (Option Nat)} (u : FrameMode) (w : World) (hc : CrAt w r la lc L i vn d) (hn : NmIs w base vn ms' (env ++ [g]) N) (hbr : base ≤ r) (hl : env.length ≤ 1000) :
    CallsD Try.prog 44 #[.pointer (some ⟨r, 2, none⟩)] u w fun e u' w' => u' = u ∧ e = .returned (.tuple #[]) ∧ (∃ vn2 ms2, CrAt w' r la lc L i vn2 d ∧ NmIs w' base vn2 ms2 env N) ∧ FrT base r w w' := by
  have hbs : base ≤ w.heap.size := by have := hc.lt; omega
  obtain ⟨ms, o, rfl⟩ : ∃ ms o, ms' = ms ++ [o] := by
    rcases List.eq_nil_or_concat ms' with e | ⟨ms, o, e⟩
    · have := hn.len; rw [e] at this; simp at this
    · exact ⟨ms, o, by simpa using e⟩
  have hml : ms.length ≤ 1000 := by have := hn.len; simp at this; omega
  obtain ⟨gb, cap, ea, hg1, hg2, _, _, hcap⟩ := hn.cell ms.length o (by simp)
  have hln : (ms ++ [o]).length = ms.length + 1 := by simp
  rw [hln] at ea hcap
  subst ea
  obtain ⟨⟨b0, b1, b2, b3⟩, q1, q2, q3⟩ := hc.facts
  have HO := hid (fun w1 hb => close_next (w1 := w1) hb hc hn)
  have hrl := hc.lt
  have hw1 : IntKind.i64.wrap (((ms.length + 1 : Nat) : Int) - 1) = (ms.length : Int) := by rw [IntKind.wrap_i64]; omega
  clear hc hn hln
  obtain ⟨M, hM⟩ : ∃ M, ms.length = M := ⟨_, rfl⟩
  rw [hM] at b2 hw1 hcap
  have h0M : (0 : Int) ≤ (M : Int) := by omega
  have hMc : (M : Int) ≤ (cap : Int) := by omega
  have hM1 : ¬ ((M : Int) < 0) := by omega
  go_enter_d Try.func44, Try.ntmps44
  go_wp2_with fail
  go_region
  go_wp2_with fail
  go_end0
  have hf := HO.out w (Below.refl _ _)
  rw [hM] at hf
  have hd := (Below.refl (w.setCell ⟨r, 2, none⟩ (.slice (some ⟨gb, 0, none⟩) M cap)).heap.size (w.setCell ⟨r, 2, none⟩ (.slice (some ⟨gb, 0, none⟩) M cap))).drew
  exact ⟨rfl, ⟨_, _, hf.1.below hd, hf.2.1.below hd⟩, (FrT.of_kept hf.2.2 hbr hbs).trans (FrT.of_below hd (by simpa using hbs))⟩
end
section
open Go.RowKit Go.Shelf

/-- A name is made. -/
def updG (g : List UInt8 → Int) (x : List UInt8) (a : Int) : List UInt8 → Int := fun y => if y = x then a else g y
theorem MapIs.put {D : DataW Unit} {g : List UInt8 → Int} (h : MapIs D g) (x : List UInt8) (a : Int) (ha : a ≠ 0) : MapIs (D.put (.string x) (.lit (.int .i64 a))) (updG g x a) := by
  refine ⟨?_, fun y => ?_⟩
  · obtain ⟨es, rfl⟩ := h.1
    exact ⟨_, rfl⟩
  · unfold updG
    by_cases hy : y = x
    · subst hy
      rw [if_pos rfl]
      exact .inr ⟨ha, fun zd => Go.Maps.atKey_put_same h.1 (show Go.WideAt.IsKeyLit (.string y) from trivial) _ _⟩
    · rw [if_neg hy]
      have e : ∀ zd, (D.put (.string x) (.lit (.int .i64 a))).atKey (.string y) zd = D.atKey (.string y) zd := fun zd => Go.Maps.atKey_put_other (fun e => hy (by injection e)) _ _
      rcases h.2 y with ⟨h0, h1⟩ | ⟨h0, h1⟩
      · exact .inl ⟨h0, fun zd => (e zd).trans (h1 zd)⟩
      · exact .inr ⟨h0, fun zd => (e zd).trans (h1 zd)⟩
theorem MapIs.nil : MapIs (.map []) (fun _ => 0) := ⟨⟨[], rfl⟩, fun _ => .inl ⟨rfl, fun _ => rfl⟩⟩
theorem MapIs.ext {D : DataW Unit} {g g' : List UInt8 → Int} (h : MapIs D g) (e : ∀ x, g x = g' x) : MapIs D g' := by
  have : g = g' := funext e
  rwa [← this]
theorem snoc_at {α : Type} {l : List α} {x y : α} {j : Nat} (h : (l ++ [x])[j]? = some y) : (j < l.length ∧ l[j]? = some y) ∨ (j = l.length ∧ y = x) := by
  by_cases hj : j < l.length
  · rw [List.getElem?_append_left hj] at h; exact .inl ⟨hj, h⟩
  · rw [List.getElem?_append_right (by omega)] at h
    have hz : j - l.length = 0 := by have := (List.getElem?_eq_some_iff.1 h).1; simp at this; omega
    rw [hz] at h
    simp at h
    exact .inr ⟨by omega, h.symm⟩
/-- Behind a name's mark. -/
theorem upd_next {base r : Nat} {la : Option Addr} {lc : Nat} {L : List Tk} {i : Nat} {vn : Value} {d : Nat} {ms : List (Option Nat)} {b n : Nat} {env : Env0} {g : List UInt8 → Int} {N : Nat} {D : DataW Unit} {w w2 : World} (hc : CrAt w r la lc L i vn d) (hn : NmIs w base vn (ms ++ [some b]) (env ++ [g]) N) (hlo : ∀ b off, la = some ⟨b, off, none⟩ → L ≠ [] → b < base) (hbb : base ≤ b) (hmb : ∃ es cl, w.heap[b]? = some (.map es cl)) (hnN : n ≤ N) (hD : MapIs D g) (x : List UInt8) (a : Int) (ha : a ≠ 0)
    (hown : w2.ownsMap Try.prog 9 (plainElem Try.prog 3) b (n + 1) (D.put (.string x) (.lit (.int .i64 a)))) (hg : w.grownBy w2 (some b)) :
    CrAt w2 r la lc L i vn d ∧ NmIs w2 base vn (ms ++ [some b]) (env ++ [updG g x a]) (N + 1) ∧ FrT base r w w2 := by
  obtain ⟨es, cl, hmb⟩ := hmb
  have hbl : ∀ k, k < w.heap.size → k ≠ b → w2.heap[k]? = w.heap[k]? := fun k hk hne => hg.block k hk (fun e => hne (by cases e; rfl))
  have hcb : ∀ k c T fz, w.heap[k]? = some (.cells c T fz) → k ≠ b := fun k c T fz hk e => by subst e; rw [hk] at hmb; cases hmb
  have hlen : ms.length = env.length := by have := hn.len; simp at this; exact this
  have hlow : Below base w w2 := ⟨hg.os, hg.tape, hg.output, hg.size, fun k hk => hbl k (by have := lt_of_block hmb; omega) (by omega)⟩
  refine ⟨⟨(hbl r hc.lt (hcb _ _ _ _ hc.box)).trans hc.box, ?_, hc.far, hc.le, hc.few, hc.low⟩, ⟨by simp [hlen], row_same hn.row (fun k hk hlt => ?_), fun j k g' hm hg' => ?_, fun j g' hm hg' => ?_, hn.apart⟩, ⟨hlow, fun k c T fz hk _ _ => hbl k (lt_of_block hk) (hcb _ _ _ _ hk)⟩⟩
  · by_cases hL : L = []
    · exact .inl hL
    rcases hc.toks with h0 | ⟨k, off, rfl, hlt, hcc⟩
    · exact .inl h0
    · exact .inr ⟨k, off, rfl, Nat.lt_of_lt_of_le hlt hlow.size, fun j x hx q v hv => (hlow.cell (p := ⟨k, _, none⟩) (hlo k off rfl hL)).trans (hcc j x hx q v hv)⟩
  · obtain ⟨_, c, hcell⟩ := hn.row_block k hk
    exact hbl k hlt (hcb _ _ _ _ hcell)
  · rcases snoc_at hm with ⟨hj, hm'⟩ | ⟨hj, e⟩
    · have hg2 : env[j]? = some g' := by rwa [List.getElem?_append_left (by omega)] at hg'
      obtain ⟨k1, n', D', hN', ho, hD'⟩ := hn.maps j k g' hm (by rw [List.getElem?_append_left (by omega)]; exact hg2)
      obtain ⟨es', cl', hk⟩ := map_block ho
      refine ⟨k1, n', D', by omega, map_same ho (hbl k (lt_of_block hk) fun e => ?_), hD'⟩
      subst e
      have := hn.apart j ms.length k hm (by simp)
      omega
    · cases e
      have hg2 : g' = updG g x a := by
        rcases snoc_at hg' with ⟨h1, _⟩ | ⟨_, h2⟩
        · omega
        · exact h2
      subst hg2
      exact ⟨hbb, n + 1, _, by omega, hown, hD.put x a ha⟩
  · rcases snoc_at hm with ⟨hj, hm'⟩ | ⟨hj, e⟩
    · exact hn.nil0 j g' hm (by rw [List.getElem?_append_left (by omega)] at hg' ⊢; exact hg')
    · cases e
/-- Behind the making of a map. -/
theorem make_next {base r : Nat} {la : Option Addr} {lc : Nat} {L : List Tk} {i : Nat} {d : Nat} {ms : List (Option Nat)} {env : Env0} {g : List UInt8 → Int} {N gb cap : Nat} {w : World} (hc : CrAt w r la lc L i (.slice (some ⟨gb, 0, none⟩) (ms.length + 1) cap) d) (hn : NmIs w base (.slice (some ⟨gb, 0, none⟩) (ms.length + 1) cap) (ms ++ [none]) (env ++ [g]) N) (hlo : ∀ b off, la = some ⟨b, off, none⟩ → L ≠ [] → b < base) (hbr : base ≤ r) :
    CrAt ((w.alloc (.map #[] 0)).setCell ⟨gb, ms.length, none⟩ (.map (some w.heap.size))) r la lc L i (.slice (some ⟨gb, 0, none⟩) (ms.length + 1) cap) d ∧ NmIs ((w.alloc (.map #[] 0)).setCell ⟨gb, ms.length, none⟩ (.map (some w.heap.size))) base (.slice (some ⟨gb, 0, none⟩) (ms.length + 1) cap) (ms ++ [some w.heap.size]) (env ++ [g]) N ∧ FrT base r w ((w.alloc (.map #[] 0)).setCell ⟨gb, ms.length, none⟩ (.map (some w.heap.size))) ∧
    ((w.alloc (.map #[] 0)).setCell ⟨gb, ms.length, none⟩ (.map (some w.heap.size))).ownsMap Try.prog 9 (plainElem Try.prog 3) w.heap.size 0 (.map [] : DataW Unit) ∧ (∀ x, g x = 0) ∧ base ≤ w.heap.size := by
  have hln : (ms ++ [(none : Option Nat)]).length = ms.length + 1 := by simp
  have hlen : ms.length = env.length := by have := hn.len; simp at this; exact this
  obtain ⟨hgb, c0, hgc⟩ := hn.row_block gb rfl
  have hgl := lt_of_block hgc
  have hrl := hc.lt
  have hgr : gb ≠ r := reader_apart hc.box hgc (by decide)
  have hbl : ∀ k, k < w.heap.size → k ≠ gb → ((w.alloc (.map #[] 0)).setCell ⟨gb, ms.length, none⟩ (.map (some w.heap.size))).heap[k]? = w.heap[k]? := fun k hk hne => (Below.heap_setCell _ _ _ _ hne).trans ((below_new w _).block k hk)
  have hnew : ((w.alloc (.map #[] 0)).setCell ⟨gb, ms.length, none⟩ (.map (some w.heap.size))).heap[w.heap.size]? = some (.map #[] 0) := (Below.heap_setCell _ _ _ _ (by show w.heap.size ≠ gb; omega)).trans (heap_alloc_new w _)
  have hlow : Below base w ((w.alloc (.map #[] 0)).setCell ⟨gb, ms.length, none⟩ (.map (some w.heap.size))) := (((Below.refl base w).alloc (by omega) _).setCell (by exact hgb) _)
  have hg0 : ∀ x, g x = 0 := hn.nil0 ms.length g (by simp) (by rw [hlen]; simp)
  have hom : ((w.alloc (.map #[] 0)).setCell ⟨gb, ms.length, none⟩ (.map (some w.heap.size))).ownsMap Try.prog 9 (plainElem Try.prog 3) w.heap.size 0 (.map [] : DataW Unit) := map_same (World.ownsMap_made w Try.prog 9 (plainElem Try.prog 3)) (hnew.trans (heap_alloc_new w _).symm)
  have hmb : ∀ k es cl, w.heap[k]? = some (.map es cl) → k ≠ gb := fun k es cl hk e => by subst e; rw [hk] at hgc; cases hgc
  refine ⟨⟨(hbl r hrl (fun e => hgr e.symm)).trans hc.box, ?_, hc.far, hc.le, hc.few, hc.low⟩, ⟨by simp [hlen], ?_, fun j k g' hm hg' => ?_, fun j g' hm hg' => ?_, fun p q b hp hq => ?_⟩, ⟨hlow, fun k c T fz hk hT _ => hbl k (lt_of_block hk) (cells_apart hk hgc hT)⟩, hom, hg0, by omega⟩
  · by_cases hL : L = []
    · exact .inl hL
    rcases hc.toks with h0 | ⟨k, off, rfl, hlt, hcc⟩
    · exact .inl h0
    · exact .inr ⟨k, off, rfl, Nat.lt_of_lt_of_le hlt hlow.size, fun j x hx q v hv => (hlow.cell (p := ⟨k, _, none⟩) (hlo k off rfl hL)).trans (hcc j x hx q v hv)⟩
  · have hln2 : (ms ++ [some w.heap.size]).length = ms.length + 1 := by simp
    rcases hn.row.2 with ⟨e, _⟩ | ⟨g', cap', cur, e, hg, hh, hle, hml, hsz, ht⟩
    · cases e
    · rw [hln] at e hle ht
      cases e
      have hh1 := ((below_new w (.map #[] 0)).block gb hgl).trans hh
      have hh2 := Go.Joins.block_setCell (i := ms.length) hh1 (.map (some w.heap.size))
      refine ⟨by simp, .inr ⟨gb, cap, cur.setIfInBounds ms.length (.map (some w.heap.size)), by rw [hln2], hg, by simpa using hh2, by rw [hln2]; omega, hml, by simpa using hsz, ?_⟩⟩
      rw [hln2, Array.toList_setIfInBounds]
      rw [Nat.mul_one] at ht ⊢
      rw [List.take_set, ht]
      simp
  · rcases snoc_at hm with ⟨hj, hm'⟩ | ⟨hj, e⟩
    · obtain ⟨k1, n', D', hN', ho, hD'⟩ := hn.maps j k g' (by rw [List.getElem?_append_left hj]; exact hm') hg'
      obtain ⟨es', cl', hk⟩ := map_block ho
      exact ⟨k1, n', D', hN', map_same ho (hbl k (lt_of_block hk) (hmb k es' cl' hk)), hD'⟩
    · cases e
      have hg2 : g' = g := by
        rcases snoc_at hg' with ⟨h1, _⟩ | ⟨_, h2⟩
        · omega
        · exact h2
      subst hg2
      exact ⟨by omega, 0, _, Nat.zero_le _, hom, MapIs.nil.ext fun x => (hg0 x).symm⟩
  · rcases snoc_at hm with ⟨hj, hm'⟩ | ⟨hj, e⟩
    · exact hn.nil0 j g' (by rw [List.getElem?_append_left hj]; exact hm') hg'
    · cases e
  · have key : ∀ k, (ms ++ [some w.heap.size])[k]? = some (some b) → (b < w.heap.size ∧ (ms ++ [none])[k]? = some (some b)) ∨ (k = ms.length ∧ b = w.heap.size) := fun k hk => by
      rcases snoc_at hk with ⟨h1, h2⟩ | ⟨h1, h2⟩
      · obtain ⟨gk, hgk⟩ : ∃ g', (env ++ [g])[k]? = some g' := ⟨_, List.getElem?_eq_getElem (by simp; omega)⟩
        have h3 : (ms ++ [none])[k]? = some (some b) := by rw [List.getElem?_append_left h1]; exact h2
        obtain ⟨_, _, _, _, ho, _⟩ := hn.maps k b gk h3 hgk
        exact .inl ⟨ho.lt, h3⟩
      · cases h2; exact .inr ⟨h1, rfl⟩
    rcases key p hp with ⟨a1, a2⟩ | ⟨a1, a2⟩
    · rcases key q hq with ⟨b1, b2⟩ | ⟨b1, b2⟩
      · exact hn.apart p q b a2 b2
      · omega
    · rcases key q hq with ⟨b1, b2⟩ | ⟨b1, b2⟩
      · omega
      · omega
end
section
open Go.RowKit Go.Shelf

theorem key_str (x : ByteArray) (hx : x.size ≤ maxLen) : keyOf Try.prog 9 (.string x) = some (.string x.data.toList) := by
  first | exact Go.Maps.keyOf_string_mk Try.underlying9 hx | (simp [keyOf, Try.underlying9, mapKey, hx])

theorem eq_some (b : Nat) (W : World) : (binOp BinOp.eql 81 (.map (some b)) (.map none)).run Try.prog W = .ok (.bool false) W := by first | rfl | kernel_rfl
theorem eq_nil (W : World) : (binOp BinOp.eql 81 (.map none) (.map none)).run Try.prog W = .ok (.bool true) W := by first | rfl | kernel_rfl

set_option maxRecDepth 100000 in
set_option maxHeartbeats 1000000 in
theorem declare_any {base r : Nat} {la : Option Addr} {lc : Nat} {L : List Tk} {i : Nat} {vn : Value} {d : Nat} {ms' : List (Option Nat)} {env : Env0} {g : List UInt8 → Int} {N : Nat} (x : ByteArray) (a : Int) (w : World) (hc : CrAt w r la lc L i vn d) (hn : NmIs w base vn ms' (env ++ [g]) N) (hlo : ∀ b off, la = some ⟨b, off, none⟩ → L ≠ [] → b < base) (hbr : base ≤ r) (hx : x.size ≤ 1048576) (ha : a = 1 ∨ a = 2) (hN : N ≤ 1048576) (hl : env.length ≤ 1000) :
    Calls Try.prog 43 #[vn, .string x, .int .i64 a] w fun e w' => e = .returned (.tuple #[]) ∧ CrAt w' r la lc L i vn d ∧ (∃ ms2, NmIs w' base vn ms2 (env ++ [updG g x.data.toList a]) (N + 1)) ∧ FrT base r w w' := by
  obtain ⟨ms, o, rfl⟩ : ∃ ms o, ms' = ms ++ [o] := by
    rcases List.eq_nil_or_concat ms' with e | ⟨ms, o, e⟩
    · have := hn.len; rw [e] at this; simp at this
    · exact ⟨ms, o, by simpa using e⟩
  have hml : ms.length ≤ 1000 := by have := hn.len; simp at this; omega
  obtain ⟨gb, cap, ea, hg1, hg2, hcell, hfz, hcap⟩ := hn.cell ms.length o (by simp)
  have hln : (ms ++ [o]).length = ms.length + 1 := by simp
  rw [hln] at ea hcap
  subst ea
  have hw1 : IntKind.i64.wrap (((ms.length + 1 : Nat) : Int) - 1) = (ms.length : Int) := by rw [IntKind.wrap_i64]; omega
  have hkey := key_str x (by unfold maxLen; omega)
  have ha0 : a ≠ 0 := by omega
  have hval : plainElem (H := Unit) Try.prog 3 (.int .i64 a) = some (.lit (.int .i64 a), []) := plainElem_int Try.underlying3 (by rcases ha with rfl | rfl <;> decide)
  have h0M : (0 : Int) ≤ (ms.length : Int) := by omega
  have hM1 : (ms.length : Int) < ((ms.length + 1 : Nat) : Int) := by omega
  have hlen : env.length = ms.length := by have := hn.len; simp at this; omega
  cases o with
  | some b =>
    obtain ⟨hbb, n, D, hnN, ho, hD⟩ := hn.maps ms.length b g (by simp) (by rw [← hlen]; simp)
    have hq1 := eq_some b
    have HU := hid (fun w2 => upd_next (w2 := w2) hc hn hlo hbb (map_block ho) hnN hD x.data.toList a ha0)
    have HO := hid ho
    clear hc hn hD ho hlen hln
    generalize ms.length = M at *
    go_enter Try.func43, Try.ntmps43
    go_wp2_with (at_mapUpdate; refine wpList_mapUpdate_own _ rfl _ _ _ 81 rfl 9 3 (Go.Maps.string_keyed Try.underlying9) Try.underlying81 _ b n D rfl HO.out (by unfold maxLen; omega) _ _ (.string x.data.toList) rfl rfl hkey (.lit (.int .i64 a)) [] hval ?_)
    intro w2 hown2 hg2'
    obtain ⟨p1, p2, p3⟩ := HU.out w2 hown2 hg2'
    have HP := hid (And.intro p1 (And.intro p2 p3))
    clear p1 p2 p3 hown2 hg2'
    go_wp2_with fail
    go_end0
    exact ⟨rfl, HP.out.1, ⟨_, HP.out.2.1⟩, HP.out.2.2⟩
  | none =>
    obtain ⟨q1, q2, q3, q4, q5, q6⟩ := make_next hc hn hlo hbr
    have HU := hid (fun w2 => upd_next (w2 := w2) q1 q2 hlo q6 (map_block q4) (Nat.zero_le _) (MapIs.nil.ext fun y => (q5 y).symm) x.data.toList a ha0)
    have HO := hid q4
    have HF := hid q3
    have hgn : gb ≠ w.heap.size := by omega
    have hmm : ∀ W : World, (Instr.makeMap 81 none).run Try.prog W = .ok (.map (some W.heap.size)) (W.alloc (.map #[] 0)) := fun W => by first | rfl | kernel_rfl
    have hq0 := eq_nil
    have hcm : (w.alloc (.map #[] 0)).setCell ⟨gb, ms.length, none⟩ (.map (some w.heap.size)) = (w.setCell ⟨gb, ms.length, none⟩ (.map (some w.heap.size))).alloc (.map #[] 0) := World.setCell_alloc_past _ _ _ _ hg2
    rw [hcm] at HU HO HF
    clear hc hn q1 q2 q3 q4 hlen hln hcm
    generalize ms.length = M at *
    go_enter Try.func43, Try.ntmps43
    go_wp2_with (at_mapUpdate; refine wpList_mapUpdate_own _ rfl _ _ _ 81 rfl 9 3 (Go.Maps.string_keyed Try.underlying9) Try.underlying81 _ w.heap.size 0 (.map []) rfl HO.out (by unfold maxLen; omega) _ _ (.string x.data.toList) rfl rfl hkey (.lit (.int .i64 a)) [] hval ?_)
    intro w2 hown2 hg2'
    obtain ⟨p1, p2, p3⟩ := HU.out w2 hown2 hg2'
    have HP := hid (And.intro p1 (And.intro p2 (HF.out.trans p3)))
    clear p1 p2 p3 hown2 hg2'
    go_wp2_with fail
    go_end0
    exact ⟨rfl, HP.out.1, ⟨_, HP.out.2.1⟩, HP.out.2.2⟩
end
end Go.Proofs.Ytocklchafmlfkaa
