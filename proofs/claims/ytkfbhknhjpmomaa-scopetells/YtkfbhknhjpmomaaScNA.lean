/- Sizes of trees; nodes in a row; how many names there can be. · Walk of the resolver's nodes: one behind the other. · Walk of the resolver's node and function. · Walk of the resolver's function. -/
import Derived.Test.YtkfbhknhjpmomaaScVA
namespace Go.Proofs.Ytkfbhknhjpmomaa
section
open Go.RowKit Go.Shelf Go.Maps Go.WideMaps
mutual
def zN : Nd → Nat
  | .mk _ _ ks => 1 + zL ks
def zL : List Nd → Nat
  | [] => 0
  | n :: r => zN n + zL r
end
theorem zN_mk (k t : Int) (ks : List Nd) : zN (.mk k t ks) = 1 + zL ks := by rw [zN]
theorem zL_nil : zL [] = 0 := by rw [zL]
theorem zL_cons (n : Nd) (r : List Nd) : zL (n :: r) = zN n + zL r := by rw [zL]
theorem zN_pos : ∀ n : Nd, 1 ≤ zN n
  | .mk k t ks => by rw [zN_mk]; omega
theorem zL_app : ∀ (a b : List Nd), zL (a ++ b) = zL a + zL b
  | [], b => by rw [List.nil_append, zL_nil]; omega
  | n :: a, b => by rw [List.cons_append, zL_cons, zL_cons, zL_app a b]; omega
theorem zL_len : ∀ ks : List Nd, ks.length ≤ zL ks
  | [] => Nat.zero_le _
  | n :: r => by rw [zL_cons]; have := zN_pos n; have := zL_len r; simp; omega
theorem drop_at {ks : List Nd} {j : Nat} {k : Nd} (h : ks[j]? = some k) : ks.drop j = k :: ks.drop (j + 1) := by
  obtain ⟨h1, rfl⟩ := List.getElem?_eq_some_iff.1 h
  exact List.drop_eq_getElem_cons h1
theorem zL_drop {ks : List Nd} {j : Nat} {k : Nd} (h : ks[j]? = some k) : zL (ks.drop j) = zN k + zL (ks.drop (j + 1)) := by rw [drop_at h, zL_cons]
/-- How many names there are more, and binds. -/
def lenOk (R : GotB) (f : Fr) (z : Nat) : Prop := ∀ f' b, R = .ok (f', b) → b.length ≤ z ∧ f'.length ≤ f.length + z
theorem lenOk.then {x : GotB} {g : Fr → GotB} {f : Fr} {z1 z2 : Nat} (h1 : lenOk x f z1) (h2 : ∀ f', lenOk (g f') f' z2) : lenOk (thenR x g) f (z1 + z2) := by
  intro f' b h
  rcases x with y | ⟨f1, b1⟩
  · cases h
  · simp only [thenR] at h
    rcases hg : g f1 with y | ⟨f2, b2⟩
    · rw [hg] at h; cases h
    · rw [hg] at h
      cases h
      have := h1 _ _ rfl
      have := h2 f1 _ _ hg
      simp
      omega
theorem lenOk.keep {x : GotB} {f g : Fr} {z : Nat} (h : lenOk x g z) : lenOk (keepF f x) f z := by
  intro f' b h1
  rcases x with y | ⟨f1, b1⟩
  · cases h1
  · cases h1
    exact ⟨(h _ _ rfl).1, by omega⟩
theorem lenOk.wide {x : GotB} {f : Fr} {z z' : Nat} (h : lenOk x f z) (hz : z ≤ z') : lenOk x f z' := fun f' b e => by have := h f' b e; omega
theorem lenOk_us (L : List Tk) (t : Nat) (f : Fr) (fs : List Fr) : lenOk (usR L t f fs) f 1 := by
  intro f' b h
  unfold usR at h
  split at h
  · cases h; simp
  · cases h
theorem lenOk_mk (L : List Tk) (t : Nat) (f : Fr) : lenOk (mkR L t f) f 1 := by
  intro f' b h
  unfold mkR at h
  split at h
  · cases h
  · cases h; simp
theorem lenOk_ok (f : Fr) (z : Nat) : lenOk (.ok (f, [])) f z := by
  intro f' b h
  cases h
  simp
theorem rs_len (L : List Tk) : ∀ N, (∀ n f fs, zN n ≤ N → lenOk (rsN L n f fs) f (zN n)) ∧ (∀ ks f fs, zL ks ≤ N → lenOk (rsL L ks f fs) f (zL ks))
  | 0 => by
    refine ⟨fun n f fs h => by have := zN_pos n; omega, fun ks f fs h => ?_⟩
    cases ks with
    | nil => rw [rsL_nil]; exact lenOk_ok _ _
    | cons n r => rw [zL_cons] at h; have := zN_pos n; omega
  | N + 1 => by
    have ih := rs_len L N
    have hn : ∀ n f fs, zN n ≤ N + 1 → lenOk (rsN L n f fs) f (zN n) := by
      intro n f fs h
      obtain ⟨kd, tk, ks⟩ := n
      rw [zN_mk] at h ⊢
      rw [rsN_mk]
      have hk : ∀ f fs, lenOk (rsL L ks f fs) f (zL ks) := fun f fs => ih.2 ks f fs (by omega)
      split
      · exact (lenOk_mk L _ f).then fun f' => hk f' fs
      · split
        · exact (lenOk_us L _ f fs).then fun f' => hk f' fs
        · split
          · split
            · exact (hk f fs).wide (by omega)
            · exact (lenOk_us L _ f fs).then fun f' => hk f' fs
          · split
            · match ks, ih with
              | [], _ => rw [rsF]; exact lenOk_ok _ _; all_goals simp
              | [a], _ => rw [rsF]; exact lenOk_ok _ _; all_goals simp
              | t :: m :: r, ih =>
                rw [rsF_two]
                rw [zL_cons, zL_cons] at h ⊢
                have hp : ∀ (r : List Nd) (f : Fr) (fs : List Fr), zL r ≤ N → lenOk (rsP L r f fs) f (zL r) := by
                  intro r
                  induction r with
                  | nil => intro f fs _; rw [rsP]; exact lenOk_ok _ _
                  | cons n r ihr =>
                    intro f fs hz
                    rw [zL_cons] at hz ⊢
                    rw [rsP_cons]
                    split
                    · obtain ⟨a, b, c⟩ := n
                      rw [zN_mk] at hz ⊢
                      rw [rsB_mk]
                      exact (ih.2 c f fs (by omega)).wide (by omega)
                    · exact (ih.1 n f fs (by omega)).then fun f' => ihr f' fs (by omega)
                have h1 := ((ih.1 t f fs (by omega)).then fun f' => ih.1 m f' fs (by omega)).then (g := fun f' => keepF f' (rsP L r [] (f' :: fs))) (z2 := zL r) fun f' => (hp r [] (f' :: fs) (by omega)).keep
                exact h1.wide (by omega)
            · split
              · exact ((hk [] (f :: fs)).keep).wide (by omega)
              · exact (hk f fs).wide (by omega)
    refine ⟨hn, fun ks => ?_⟩
    induction ks with
    | nil => intro f fs _; rw [rsL_nil]; exact lenOk_ok _ _
    | cons n r ihr =>
      intro f fs h
      rw [zL_cons] at h ⊢
      rw [rsL_cons]
      exact (hn n f fs (by omega)).then fun f' => ihr f' fs (by omega)
/-- Nodes in a row, wherever it begins. -/
def NwAt (w : World) (base : Nat) (v : Value) (ks : List Nd) : Prop := ∃ a c, v = .slice a ks.length c ∧ ks.length ≤ c ∧ ∀ j kd, ks[j]? = some kd → ∃ g off y, a = some ⟨g, off, none⟩ ∧ g < base ∧ g < w.heap.size ∧ NdIs w (· < base) y kd ∧ w.cell? ⟨g, off + j * 3, none⟩ = some (.int .i64 y.kind) ∧ w.cell? ⟨g, off + j * 3 + 1, none⟩ = some (.int .i64 y.tok) ∧ w.cell? ⟨g, off + j * 3 + 2, none⟩ = some (.slice y.a y.n y.c)
theorem NwAt.same {w w' : World} {base : Nat} {v : Value} {ks : List Nd} (h : NwAt w base v ks) (hz : w.heap.size ≤ w'.heap.size) (hb : ∀ b, b < base → b < w.heap.size → w'.heap[b]? = w.heap[b]?) : NwAt w' base v ks := by
  obtain ⟨a, c, h1, hc, h2⟩ := h
  refine ⟨a, c, h1, hc, fun j kd hj => ?_⟩
  obtain ⟨g, off, y, k1, k2, k3, k4, k5, k6, k7⟩ := h2 j kd hj
  have e := hb g k2 k3
  refine ⟨g, off, y, k1, k2, by omega, k4.kept hb, ?_, ?_, ?_⟩
  · simpa [World.cell?, e] using k5
  · simpa [World.cell?, e] using k6
  · simpa [World.cell?, e] using k7
theorem NwAt.of {w : World} {base : Nat} {a : Option Addr} {n c : Nat} {ks : List Nd} (h : KidsAt w (· < base) (.slice a n c) ks) : NwAt w base (.slice a n c) ks := by
  obtain ⟨nvs, hrow, hnds, hown⟩ := h.row
  have hl := hnds.1
  rcases hrow.2 with ⟨e, h0⟩ | ⟨g, cap, cur, e, h1, hh, h2, h3, h4, h5⟩
  · cases e
    have : ks = [] := List.eq_nil_of_length_eq_zero (by omega)
    subst this
    exact ⟨none, 0, rfl, Nat.le_refl _, fun j kd hj => by simp at hj⟩
  · cases e
    refine ⟨_, _, by rw [hl], by omega, fun j kd hj => ?_⟩
    have hjl : j < ks.length := (List.getElem?_eq_some_iff.1 hj).1
    obtain ⟨y, hy⟩ : ∃ y, nvs[j]? = some y := ⟨_, List.getElem?_eq_getElem (by omega)⟩
    have hc := row_cells hrow
    have hget : ∀ i v, (encN y)[i]? = some v → w.cell? ⟨g, j * 3 + i, none⟩ = some v := fun i v hv => by
      have := hc _ _ (cellsN_get nvs j i y v hy hv)
      rw [Addr.add_lit, Nat.zero_add] at this
      exact this
    exact ⟨g, 0, y, rfl, hown g (by simp [Value.ownBlock]), lt_of_block hh, hnds.2 j y kd hy hj, by have := hget 0 _ rfl; simpa using this, by have := hget 1 _ rfl; simpa using this, by have := hget 2 _ rfl; simpa using this⟩
end
section
open Go.RowKit Go.Shelf Go.Maps Go.WideMaps
section
variable (base r : Nat) (la : Option Addr) (lc : Nat) (L : List Tk)
def NdC (N : Nat) : Prop := ∀ (n : Nd) (x : Nv) (w : World) (bs : List (Nat × Nat)) (ba : Option Addr) (bc B mb : Nat) (sv : Value) (f : Fr) (fs : List Fr), zN n ≤ N → wfN L.length n → NdIs w (· < base) x n → RvAt w base r la lc L bs ba bc → SvAt w B sv mb f fs → base ≤ mb → B ≤ w.heap.size → bs.length + zN n ≤ 100000 → f.length + zN n ≤ 100000 →
  Calls Try.prog 19 #[.pointer (some ⟨r, 0, none⟩), aggN x, sv] w (RnPost base r la lc L bs (Value.slice ba bs.length bc).ownBlock mb (rsN L n f fs) w)
def NlC (N : Nat) : Prop := ∀ (ks : List Nd) (v : Value) (w : World) (bs : List (Nat × Nat)) (ba : Option Addr) (bc B mb : Nat) (sv : Value) (f : Fr) (fs : List Fr), zL ks ≤ N → wfL L.length ks → NwAt w base v ks → RvAt w base r la lc L bs ba bc → SvAt w B sv mb f fs → base ≤ mb → B ≤ w.heap.size → bs.length + zL ks ≤ 100000 → f.length + zL ks ≤ 100000 →
  Calls Try.prog 42 #[.pointer (some ⟨r, 0, none⟩), v, sv] w (RnPost base r la lc L bs (Value.slice ba bs.length bc).ownBlock mb (rsL L ks f fs) w)
/-- Ahead of a round. -/
def NlSt (ks : List Nd) (bs : List (Nat × Nat)) (row : Option Nat) (B mb : Nat) (sv : Value) (fs : List Fr) (R : GotB) (w : World) (j : Nat) (wr : World) : Prop := ∃ (f' : Fr) (b' : List (Nat × Nat)) (ba' : Option Addr) (bc' : Nat),
  (R = match rsL L (ks.drop j) f' fs with
    | .error y => .error y
    | .ok (f2, b2) => .ok (f2, b' ++ b2)) ∧ RvAt wr base r la lc L (bs ++ b') ba' bc' ∧ SvAt wr B sv mb f' fs ∧ (∀ g, (Value.slice ba' (bs ++ b').length bc').ownBlock = some g → row = some g ∨ w.heap.size ≤ g) ∧ Kept (rX r mb row) w wr ∧ (bs ++ b').length + zL (ks.drop j) ≤ 100000 ∧ f'.length + zL (ks.drop j) ≤ 100000 ∧ (∃ v0 v1, sv = .agg #[v0, v1] ∧ wr.heap[w.heap.size]? = some (.cells #[v0, v1] 65))
end
section
variable {base r : Nat} {la : Option Addr} {lc : Nat} {L : List Tk}
theorem SvAt.map {w : World} {B mb : Nat} {sv : Value} {f : Fr} {fs : List Fr} (h : SvAt w B sv mb f fs) : MfAt w mb f := by
  obtain ⟨m, b1, v', h1, h2, h3, h4, h5, h6, h7, h8⟩ := h
  exact h7
/-- Surroundings, behind what turned the resolver and their own map. -/
theorem SvAt.kept {w w' : World} {bs : List (Nat × Nat)} {ba : Option Addr} {bc B mb : Nat} {sv : Value} {f f' : Fr} {fs : List Fr} (h : SvAt w B sv mb f fs) (hr : RvAt w base r la lc L bs ba bc) (hk : Kept (rX r mb (Value.slice ba bs.length bc).ownBlock) w w') (hm : MfAt w' mb f') : SvAt w' B sv mb f' fs :=
  h.turn (fun b hb hl hn hc => hk.block b hl (fun hx => by
    rcases hx with e | e | e
    · exact hc (e ▸ hr.selfO)
    · exact hn e
    · exact hc (hr.rowO e))) hm
/-- A round. -/
theorem nl_step {ks : List Nd} {bs : List (Nat × Nat)} {row : Option Nat} {B mb : Nat} {sv : Value} {fs : List Fr} {R : GotB} {w wr w2 : World} {j : Nat} {kd : Nd} {f1 f2 : Fr} {b1 b2 : List (Nat × Nat)} {ba1 : Option Addr} {bc1 : Nat} {W : World} {v0 v1 : Value} {e : Ending} (hkd : ks[j]? = some kd)
    (hR : R = match rsL L (ks.drop j) f1 fs with
      | .error y => .error y
      | .ok (f2, b2) => .ok (f2, b1 ++ b2)) (hrs : rsN L kd f1 fs = .ok (f2, b2)) (hv : RvAt wr base r la lc L (bs ++ b1) ba1 bc1) (hs : SvAt wr B sv mb f1 fs) (hrow : ∀ g, (Value.slice ba1 (bs ++ b1).length bc1).ownBlock = some g → row = some g ∨ w.heap.size ≤ g) (hk : Kept (rX r mb row) w wr) (hl1 : (bs ++ b1).length + zL (ks.drop j) ≤ 100000) (hl2 : f1.length + zL (ks.drop j) ≤ 100000) (hsv : sv = .agg #[v0, v1]) (hbx : wr.heap[w.heap.size]? = some (.cells #[v0, v1] 65))
    (hW : Below wr.heap.size wr W) (hq : RnPost base r la lc L (bs ++ b1) (Value.slice ba1 (bs ++ b1).length bc1).ownBlock mb (.ok (f2, b2)) W e w2) :
    e = .returned (.tuple #[]) ∧ NlSt base r la lc L ks bs row B mb sv fs R w (j + 1) w2 := by
  obtain ⟨he, hm2, ⟨ba2, bc2, hv2, hrow2⟩, hk2⟩ := hq
  have hwz := hW.size
  have hkz := hk.size
  have hlen := (rs_len L (zN kd)).1 kd f1 fs (Nat.le_refl _) _ _ hrs
  have hz := zL_drop hkd
  refine ⟨he, f2, b1 ++ b2, ba2, bc2, ?_, ?_, ?_, ?_, ?_, ?_, ?_, v0, v1, hsv, ?_⟩
  · rw [hR, drop_at hkd, rsL_cons]
    unfold thenR
    rw [hrs]
    dsimp only
    rcases rsL L (ks.drop (j + 1)) f2 fs with y | ⟨f3, b3⟩
    · rfl
    · simp
  · rw [← List.append_assoc]; exact hv2
  · have hsW := hs.turn (w' := W) (fun b _ hlt _ _ => hW.block b hlt) (hs.map.same (hW.block mb hs.map.lt))
    exact hsW.kept (hv.below hW) hk2 hm2
  · intro g hg
    rw [← List.append_assoc] at hg
    rcases hrow2 g hg with h | h
    · exact hrow g h
    · exact .inr (by omega)
  · refine kept_then (kept_then hk (kept_of_below (X := fun _ => False) hW) (fun b _ h => h.elim)) hk2 (fun b hb h => ?_)
    rcases h with h | h | h
    · exact .inl h
    · exact .inr (.inl h)
    · rcases hrow b h with h | h
      · exact .inr (.inr h)
      · omega
  · have := hlen.1
    simp only [List.length_append] at hl1 ⊢
    omega
  · have := hlen.2
    omega
  · have hlt := lt_of_block hbx
    refine (hk2.block _ (by omega) (fun hx => ?_)).trans ((hW.block _ hlt).trans hbx)
    rcases hx with h | h | h
    · have := hv.box
      rw [← h, hbx] at this
      cases this
    · have hm := hs.map
      rw [← h] at hm
      exact hm.noCell ⟨_, _, _, hbx, by decide, by decide⟩
    · rcases hv.row.2 with ⟨e2, _⟩ | ⟨g, cap, cur, e2, _, hh, _⟩
      · rw [e2] at h; cases h
      · rw [e2] at h
        have : g = w.heap.size := by simpa [Value.ownBlock] using h
        subst this
        rw [hbx] at hh
        cases hh
set_option maxRecDepth 100000 in
set_option maxHeartbeats 4000000 in
theorem nodes_step (N : Nat) (hN : NdC base r la lc L N) : NlC base r la lc L N := by
  intro ks v w bs ba bc B mb sv f fs hz hwf hv hR hS hbm hB hl1 hl2
  obtain ⟨va, vc, rfl, hvc, hkid⟩ := hv
  have hn100 := zL_len ks
  have hMf := hS.map
  obtain ⟨m, b1, v', hsv, hmB, hb1, hmm, hm, hb, hM, hF⟩ := id hS
  have hb0 := below_new w (.cells #[.map (some mb), .func (.func 43) #[] #[.pointer (some ⟨m, 0, none⟩), .pointer (some ⟨b1, 0, none⟩)]] 65)
  have hbx := heap_alloc_new w (.cells #[.map (some mb), .func (.func 43) #[] #[.pointer (some ⟨m, 0, none⟩), .pointer (some ⟨b1, 0, none⟩)]] 65)
  generalize hRR : rsL L ks f fs = R
  have HSt : Hid (NlSt base r la lc L ks bs (Value.slice ba bs.length bc).ownBlock B mb sv fs R w 0 (w.alloc (.cells #[.map (some mb), .func (.func 43) #[] #[.pointer (some ⟨m, 0, none⟩), .pointer (some ⟨b1, 0, none⟩)]] 65))) := by
    refine ⟨f, [], ba, bc, ?_, by rw [List.append_nil]; exact hR.below hb0, hS.turn (fun b _ hlt _ _ => hb0.block b hlt) (hMf.same (hb0.block mb hMf.lt)), fun g hg => .inl (by rw [List.append_nil] at hg; exact hg), kept_of_below hb0, by rw [List.append_nil]; simpa using hl1, by simpa using hl2, _, _, hsv, hbx⟩
    rw [List.drop_zero, hRR]
    rcases R with y | ⟨f2, b2⟩
    · rfl
    · rfl
  have HV : Hid (NwAt w base (.slice va ks.length vc) ks) := ⟨va, vc, rfl, hvc, hkid⟩
  have HR := hid hR
  have HS := hid hS
  have HWf := hid hwf
  have HBr := hid (And.intro hR.hr (fun b h => (hR.row.lt b h).1))
  subst hsv
  clear hMf hm hb hM hF hb0 hbx hkid hR hS hwf hRR
  go_enter Try.func42, Try.ntmps42
  go_wp2_with fail
  generalize w.alloc (.cells #[.map (some mb), .func (.func 43) #[] #[.pointer (some ⟨m, 0, none⟩), .pointer (some ⟨b1, 0, none⟩)]] 65) = w1 at HSt ⊢
  go_loopw [10] (fun v wr => ∃ j : Nat, j ≤ ks.length ∧ v = .int .i64 (j : Int) ∧ Hid (NlSt base r la lc L ks bs (Value.slice ba bs.length bc).ownBlock B mb (.agg #[.map (some mb), .func (.func 43) #[] #[.pointer (some ⟨m, 0, none⟩), .pointer (some ⟨b1, 0, none⟩)]]) fs R w j wr)) (fun v _ => ks.length - (intOf v).toNat)
  case atStart => exact ⟨0, Nat.zero_le _, rfl, HSt.out⟩
  case round =>
    obtain ⟨j, hj, rfl, hst⟩ := hrel
    obtain ⟨f1, b1', ba1, bc1, hR1, hv1, hs1, hrow1, hk1, hl1', hl2', v0, v1, hsv, hbx⟩ := hst.out
    simp at hsv
    obtain ⟨rfl, rfl⟩ := hsv
    have hbl := lt_of_block hbx
    have x0 : wr.cell? ⟨w.heap.size, 0, none⟩ = some (.map (some mb)) := by unfold World.cell?; rw [hbx]; rfl
    have x1 : wr.cell? ⟨w.heap.size, 1, none⟩ = some (.func (.func 43) #[] #[.pointer (some ⟨m, 0, none⟩), .pointer (some ⟨b1, 0, none⟩)]) := by unfold World.cell?; rw [hbx]; rfl
    by_cases hjl : j < ks.length
    · have hji : (j : Int) < (ks.length : Int) := by omega
      obtain ⟨kd, hkd⟩ : ∃ kd, ks[j]? = some kd := ⟨_, List.getElem?_eq_getElem hjl⟩
      have hVr := HV.out.same hk1.size (fun b hb hlt => hk1.block b hlt (fun hx => by
        rcases hx with e | e | e
        · have := HBr.out.1; omega
        · omega
        · have := HBr.out.2 b e; omega))
      obtain ⟨a0, c0, hae, _, hkids⟩ := hVr
      cases hae
      obtain ⟨g, off, y, ea, hgb, hgl, hy, e0, e1, e2⟩ := hkids j kd hkd
      subst ea
      have hbk := below_new wr (boxN y)
      have hzk := zL_drop hkd
      have hzkN : zN kd ≤ N := by
        have h1 : zL ks = zL (ks.take j) + zL (ks.drop j) := by rw [← zL_app, List.take_append_drop]
        omega
      have hwk : wfN L.length kd := (wfL_mem.1 HWf.out) kd (List.mem_of_getElem? hkd)
      have HI := hid (hN kd y (wr.alloc (boxN y)) (bs ++ b1') ba1 bc1 B mb _ f1 fs hzkN hwk (hy.kept fun b _ hlt => hbk.block b hlt) (hv1.below hbk) (hs1.turn (fun b _ hlt _ _ => hbk.block b hlt) (hs1.map.same (hbk.block mb hs1.map.lt))) hbm (by have := hbk.size; have := hk1.size; omega) (by omega) (by omega))
      have hw2 : IntKind.i64.wrap ((j : Int) + 1) = (j : Int) + 1 := by rw [IntKind.wrap_i64]; omega
      have hj0 : (0 : Int) ≤ (j : Int) := by omega
      have hjd : decide ((j : Int) < (ks.length : Int)) = true := decide_eq_true hji
      have HA := hid (And.intro hkd (And.intro hR1 (And.intro hv1 (And.intro hs1 (And.intro hrow1 (And.intro hk1 (And.intro hbx (And.intro hbk hzkN))))))))
      unfold aggN at HI
      clear hst hR1 hv1 hs1 hrow1 hk1 hbx hbk hkids hy hkd
      cases hr : rsN L kd f1 fs with
      | error ye =>
        rw [hr] at HI
        have HRs := hid hr
        clear hr
        go_wp2_with fail
        refine HI.out.mono ?_
        rintro e w2 ⟨rfl, hk2⟩
        have HE : Hid (RnPost base r la lc L bs (Value.slice ba bs.length bc).ownBlock mb R w (thrownS ye.1 (placeT L ye.2)) w2) := by
          obtain ⟨q1, q2, q3, q4, q5, q6, q7, q8, q9⟩ := HA.out
          have hRe : R = .error ye := by
            rw [q2, drop_at q1, rsL_cons]
            unfold thenR
            rw [HRs.out]
          rw [hRe]
          refine ⟨rfl, kept_then (kept_then q6 (kept_of_below (X := fun _ => False) q8) (fun b _ h => h.elim)) hk2 (fun b hb h => ?_)⟩
          rcases h with h | h | h
          · exact .inl h
          · exact .inr (.inl h)
          · rcases q5 b h with h | h
            · exact .inr (.inr h)
            · omega
        exact ⟨rfl, HE.out⟩
      | ok z =>
        obtain ⟨f2, b2⟩ := z
        rw [hr] at HI
        have HRs := hid hr
        clear hr
        go_wp2_with fail
        refine HI.out.mono ?_
        intro e w2 hq
        obtain ⟨q1, q2, q3, q4, q5, q6, q7, q8, q9⟩ := HA.out
        obtain ⟨rfl, hst2⟩ := nl_step q1 q2 HRs.out q3 q4 q5 q6 hl1' hl2' rfl q7 q8 hq
        have HSt2 := hid hst2
        clear hst2 hq q1 q2 q3 q4 q5 q6 q7 q8 q9
        go_wp2_with fail
        go_roundw
        case rel => exact ⟨j + 1, hjl, by go_num, HSt2.out⟩
        case measure => simp [intOf]; omega
    · obtain rfl : j = ks.length := by omega
      have hjd : decide ((ks.length : Int) < (ks.length : Int)) = false := by simp
      have HE : Hid (RnPost base r la lc L bs (Value.slice ba bs.length bc).ownBlock mb R w (.returned (.tuple #[])) wr) := by
        rw [List.drop_length, rsL_nil] at hR1
        dsimp only at hR1
        rw [List.append_nil] at hR1
        rw [hR1]
        exact ⟨rfl, hs1.map, ⟨ba1, bc1, hv1, hrow1⟩, hk1⟩
      clear hst hR1 hv1 hs1 hrow1 hk1 hbx
      go_wp2_with fail
      go_end0
      exact HE.out
end
end
section
open Go.RowKit Go.Shelf Go.Maps Go.WideMaps
section
variable {w w' : World}
set_option maxRecDepth 100000 in
set_option maxHeartbeats 1000000 in
theorem within_fix (k : Nat) (cs : Array Value) :
    Calls Try.prog 20 #[.func (.func k) #[] cs] w fun e w' => ∃ mb m2 b2, e = .returned (.agg #[.map (some mb), .func (.func 43) #[] #[.pointer (some ⟨m2, 0, none⟩), .pointer (some ⟨b2, 0, none⟩)]]) ∧ w.heap.size ≤ b2 ∧ b2 < mb ∧ mb < m2 ∧ m2 < w'.heap.size ∧ w'.heap[m2]? = some (.cells #[.map (some mb)] 61) ∧ w'.heap[b2]? = some (.cells #[.func (.func k) #[] cs] 63) ∧ MfAt w' mb [] ∧ Below w.heap.size w w' := by
  have hmm : ∀ W : World, (Instr.makeMap 61 none).run Try.prog W = .ok (.map (some W.heap.size)) (W.alloc (.map #[] 0)) := fun W => by first | rfl | kernel_rfl
  have hmf : ∀ (fn : Fn) (first cap : Array Value) (w : World), (Instr.makeFunc fn first cap).run Try.prog w = .ok (.func fn first cap) w := fun _ _ _ _ => rfl
  have h1 := below_new w (.cells #[.func (.func k) #[] cs] 63)
  have s1 : (w.alloc (.cells #[.func (.func k) #[] cs] 63)).heap.size = w.heap.size + 1 := by simp
  have k1 := heap_alloc_new w (.cells #[.func (.func k) #[] cs] 63)
  generalize hw1 : w.alloc (.cells #[.func (.func k) #[] cs] 63) = w1 at h1 s1 k1
  have h2 := below_new w1 (.cells #[.map (some (w.heap.size + 1 + 1)), .func (.func 43) #[] #[.pointer (some ⟨w.heap.size + 1 + 1 + 1, 0, none⟩), .pointer (some ⟨w.heap.size, 0, none⟩)]] 65)
  have s2 : (w1.alloc (.cells #[.map (some (w.heap.size + 1 + 1)), .func (.func 43) #[] #[.pointer (some ⟨w.heap.size + 1 + 1 + 1, 0, none⟩), .pointer (some ⟨w.heap.size, 0, none⟩)]] 65)).heap.size = w.heap.size + 1 + 1 := by simp [s1]
  have k2 := heap_alloc_new w1 (.cells #[.map (some (w.heap.size + 1 + 1)), .func (.func 43) #[] #[.pointer (some ⟨w.heap.size + 1 + 1 + 1, 0, none⟩), .pointer (some ⟨w.heap.size, 0, none⟩)]] 65)
  rw [s1] at k2
  generalize hw2 : w1.alloc (.cells #[.map (some (w.heap.size + 1 + 1)), .func (.func 43) #[] #[.pointer (some ⟨w.heap.size + 1 + 1 + 1, 0, none⟩), .pointer (some ⟨w.heap.size, 0, none⟩)]] 65) = w2 at h2 s2 k2
  have h3 := (Below.refl _ w2).alloc (Nat.le_refl _) (.map #[] 0)
  have s3 : (w2.alloc (.map #[] 0)).heap.size = w.heap.size + 1 + 1 + 1 := by simp [s2]
  have k3 := World.ownsMap_made (H := Unit) w2 Try.prog 9 (plainElem Try.prog 3)
  rw [s2] at k3
  generalize hw3 : w2.alloc (.map #[] 0) = w3 at h3 s3 k3
  have h4 := below_new w3 (.cells #[.map (some (w.heap.size + 1 + 1))] 61)
  have k4 := heap_alloc_new w3 (.cells #[.map (some (w.heap.size + 1 + 1))] 61)
  have s4 : (w3.alloc (.cells #[.map (some (w.heap.size + 1 + 1))] 61)).heap.size = w.heap.size + 1 + 1 + 1 + 1 := by simp [s3]
  rw [s3] at k4
  generalize hw4 : w3.alloc (.cells #[.map (some (w.heap.size + 1 + 1))] 61) = w4 at h4 s4 k4
  have hb : Below w.heap.size w w4 := ((h1.trans (h2.mono (by omega))).trans (h3.mono (by omega))).trans (h4.mono (by omega))
  have hsv : w.heap.size + 1 + 1 + 1 < w4.heap.size ∧ w4.heap[w.heap.size + 1 + 1 + 1]? = some (.cells #[.map (some (w.heap.size + 1 + 1))] 61) ∧ w4.heap[w.heap.size]? = some (.cells #[.func (.func k) #[] cs] 63) ∧ MfAt w4 (w.heap.size + 1 + 1) [] :=
    ⟨by omega, k4, (h4.block _ (by omega)).trans ((h3.block _ (by omega)).trans ((h2.block _ (by omega)).trans k1)), ⟨_, map_same k3 (h4.block _ (by omega)), ScTold.none⟩⟩
  have hres : w4.heap[w.heap.size + 1]? = _ := (h4.block _ (by omega)).trans ((h3.block _ (by omega)).trans k2)
  have HX := hid (And.intro hsv (And.intro hb hres))
  clear h1 s1 k1 h2 s2 k2 h3 s3 k3 h4 k4 s4 hb hsv hres
  subst hw1 hw2 hw3 hw4
  go_enter Try.func20, Try.ntmps20
  go_wp2_with fail
  exact bodyPost_ret (svret Try.results20 HX.out.2.2 _ rfl) rfl ⟨w.heap.size + 1 + 1, _, _, rfl, Nat.le_refl _, by omega, by omega, HX.out.1.1, HX.out.1.2.1, HX.out.1.2.2.1, HX.out.1.2.2.2, HX.out.2.1⟩
end
section
variable {w w' : World} {base r : Nat} {la : Option Addr} {lc : Nat} {L : List Tk} {bs : List (Nat × Nat)} {ba : Option Addr} {bc : Nat}
/-- Blocks of cells of other kinds stay. -/
theorem rx_cells {mb : Nat} {f : Fr} (hv : RvAt w base r la lc L bs ba bc) (hm : MfAt w mb f) (hk : Kept (rX r mb (Value.slice ba bs.length bc).ownBlock) w w') {q : Nat} {c : Array Value} {t : TypeId} {fz : Nat × Nat} (hq : w.heap[q]? = some (.cells c t fz)) (h1 : t ≠ 59) (h2 : t ≠ 40) : w'.heap[q]? = some (.cells c t fz) := by
  refine (hk.block q (lt_of_block hq) (fun hx => ?_)).trans hq
  rcases hx with e | e | e
  · have := hv.box
    rw [← e, hq] at this
    cases this
    exact h1 rfl
  · obtain ⟨D, ⟨es, cl, hmm, _⟩, _⟩ := hm
    rw [← e, hq] at hmm
    cases hmm
  · rcases hv.row.2 with ⟨e2, _⟩ | ⟨g, cap, cur, e2, _, hh, _⟩
    · rw [e2] at e; cases e
    · rw [e2] at e
      have : g = q := by simpa [Value.ownBlock] using e
      subst this
      rw [hq] at hh
      cases hh
      exact h2 rfl
theorem rx_low {mb : Nat} (hv : RvAt w base r la lc L bs ba bc) (hbm : base ≤ mb) (hk : Kept (rX r mb (Value.slice ba bs.length bc).ownBlock) w w') : ∀ b, b < base → b < w.heap.size → w'.heap[b]? = w.heap[b]? := fun b hb hl => hk.block b hl (fun hx => by
  rcases hx with e | e | e
  · have := hv.hr; omega
  · omega
  · have := (hv.row.lt b e).1; omega)
/-- Something first, and something behind it. -/
def seqR (b1 : List (Nat × Nat)) (R2 : GotB) : GotB := match R2 with
  | .error y => .error y
  | .ok (f2, b2) => .ok (f2, b1 ++ b2)
theorem thenR_seq (f1 : Fr) (b1 : List (Nat × Nat)) (g : Fr → GotB) : thenR (.ok (f1, b1)) g = seqR b1 (g f1) := by
  unfold thenR seqR
  dsimp only
  rcases g f1 with y | ⟨f2, b2⟩ <;> rfl
theorem seqR_nil (R : GotB) : seqR [] R = R := by rcases R with y | ⟨f, b⟩ <;> rfl
theorem rn_seq {w2 : World} {b1 : List (Nat × Nat)} {row row2 : Option Nat} {mb : Nat} {R2 : GotB} {e : Ending} (hk1 : Kept (rX r mb row) w w2) (hrow : ∀ g, row2 = some g → row = some g ∨ w.heap.size ≤ g) (h : RnPost base r la lc L (bs ++ b1) row2 mb R2 w2 e w') : RnPost base r la lc L bs row mb (seqR b1 R2) w e w' := by
  have hx : ∀ b, b < w.heap.size → rX r mb row2 b → rX r mb row b := fun b hb h => by
    rcases h with h | h | h
    · exact .inl h
    · exact .inr (.inl h)
    · rcases hrow b h with h | h
      · exact .inr (.inr h)
      · omega
  rcases R2 with y | ⟨f2, b2⟩
  · obtain ⟨h1, h2⟩ := h
    exact ⟨h1, kept_then hk1 h2 hx⟩
  · obtain ⟨h1, h2, ⟨ba', bc', h3, h4⟩, h5⟩ := h
    refine ⟨h1, h2, ⟨ba', bc', by rw [← List.append_assoc]; exact h3, fun g hg => ?_⟩, kept_then hk1 h5 hx⟩
    rw [← List.append_assoc] at hg
    rcases h4 g hg with h | h
    · exact hrow g h
    · exact .inr (Nat.le_trans hk1.size h)
/-- What is made inside stays there. -/
theorem rn_keep {w2 : World} {row : Option Nat} {mb mb2 : Nat} {f : Fr} {R2 : GotB} {e : Ending} (hk1 : Kept (rX r mb row) w w2) (hm2 : w.heap.size ≤ mb2) (hm : MfAt w2 mb f) (hmne : ¬ rX r mb2 row mb) (h : RnPost base r la lc L bs row mb2 R2 w2 e w') : RnPost base r la lc L bs row mb (keepF f R2) w e w' := by
  have hx : ∀ b, b < w.heap.size → rX r mb2 row b → rX r mb row b := fun b hb h => by
    rcases h with h | h | h
    · exact .inl h
    · omega
    · exact .inr (.inr h)
  rcases R2 with y | ⟨f2, b2⟩
  · obtain ⟨h1, h2⟩ := h
    exact ⟨h1, kept_then hk1 h2 hx⟩
  · obtain ⟨h1, h2, ⟨ba', bc', h3, h4⟩, h5⟩ := h
    refine ⟨h1, hm.same (h5.block mb hm.lt hmne), ⟨ba', bc', h3, fun g hg => ?_⟩, kept_then hk1 h5 hx⟩
    rcases h4 g hg with h | h
    · exact .inl h
    · exact .inr (Nat.le_trans hk1.size h)
end
end
section
open Go.RowKit Go.Shelf Go.Maps Go.WideMaps
section
variable (base r : Nat) (la : Option Addr) (lc : Nat) (L : List Tk)
def FnC (N : Nat) : Prop := ∀ (kd tk : Int) (ks : List Nd) (x : Nv) (w : World) (bs : List (Nat × Nat)) (ba : Option Addr) (bc B mb : Nat) (sv : Value) (f : Fr) (fs : List Fr), zL ks ≤ N → wfL L.length ks → 3 ≤ ks.length → NdIs w (· < base) x (.mk kd tk ks) → RvAt w base r la lc L bs ba bc → SvAt w B sv mb f fs → base ≤ mb → B ≤ w.heap.size → bs.length + zL ks ≤ 100000 → f.length + zL ks ≤ 100000 →
  Calls Try.prog 41 #[.pointer (some ⟨r, 0, none⟩), aggN x, sv] w (RnPost base r la lc L bs (Value.slice ba bs.length bc).ownBlock mb (rsF L ks f fs) w)
end
/-- The first two of a row. -/
theorem NwAt.two {w : World} {base c : Nat} {a : Option Addr} {t m : Nd} {r : List Nd} (h : NwAt w base (.slice a (r.length + 2) c) (t :: m :: r)) : NwAt w base (.slice a 2 c) [t, m] := by
  obtain ⟨a', c', h1, hc, h2⟩ := h
  simp at h1
  obtain ⟨rfl, rfl⟩ := h1
  refine ⟨a, c, rfl, by simp at hc ⊢; omega, fun j kd hj => ?_⟩
  have hjl : j < 2 := (List.getElem?_eq_some_iff.1 hj).1
  refine h2 j kd ?_
  rcases j with _ | j
  · exact hj
  · rcases j with _ | j
    · exact hj
    · omega
/-- Those behind them, but the last one. -/
theorem NwAt.mid {w : World} {base c g off : Nat} {t m b : Nd} {ps : List Nd} (h : NwAt w base (.slice (some ⟨g, off, none⟩) (ps.length + 3) c) (t :: m :: (ps ++ [b]))) : NwAt w base (.slice (some ⟨g, off + 6, none⟩) ps.length (c - 2)) ps := by
  obtain ⟨a', c', h1, hc, h2⟩ := h
  simp at h1 hc
  obtain ⟨rfl, rfl⟩ := h1
  refine ⟨_, _, rfl, by omega, fun j kd hj => ?_⟩
  have hjl : j < ps.length := (List.getElem?_eq_some_iff.1 hj).1
  obtain ⟨g', off', y, e, k2, k3, k4, k5, k6, k7⟩ := h2 (j + 2) kd (by simp [List.getElem?_append_left hjl, hj])
  cases e
  refine ⟨g, off + 6, y, rfl, k2, k3, k4, ?_, ?_, ?_⟩
  · rw [show off + 6 + j * 3 = off + (j + 2) * 3 by omega]; exact k5
  · rw [show off + 6 + j * 3 = off + (j + 2) * 3 by omega]; exact k6
  · rw [show off + 6 + j * 3 = off + (j + 2) * 3 by omega]; exact k7
theorem fn_split : ∀ {ks : List Nd}, 3 ≤ ks.length → ∃ t m ps b, ks = t :: m :: (ps ++ [b])
  | [], h => by simp at h
  | [_], h => by simp at h
  | [_, _], h => by simp at h
  | t :: m :: k :: r, _ => by
    refine ⟨t, m, (k :: r).dropLast, (k :: r).getLast (by simp), ?_⟩
    rw [List.dropLast_concat_getLast]
/-- As a finder. -/
theorem SvAt.fd {w : World} {B mb m b : Nat} {f : Fr} {fs : List Fr} (h : SvAt w B (.agg #[.map (some mb), .func (.func 43) #[] #[.pointer (some ⟨m, 0, none⟩), .pointer (some ⟨b, 0, none⟩)]]) mb f fs) : FdAt w B (f :: fs) (.func (.func 43) #[] #[.pointer (some ⟨m, 0, none⟩), .pointer (some ⟨b, 0, none⟩)]) := by
  obtain ⟨m1, b1, v', h1, h2, h3, h4, h5, h6, h7, h8⟩ := h
  simp at h1
  obtain ⟨rfl, rfl⟩ := h1
  exact ⟨_, _, mb, v', rfl, h2, h3, h4, h5, h6, h7, h8⟩
section
variable {base r : Nat} {la : Option Addr} {lc : Nat} {L : List Tk}
/-- Behind the type and the name; what is made inside stays there. -/
theorem rn_fun {bs b1 : List (Nat × Nat)} {row row1 : Option Nat} {mb mb2 : Nat} {f1 : Fr} {R2 : GotB} {w w2 w' : World} {e : Ending} (hk1 : Kept (rX r mb row) w w2) (hrow : ∀ g, row1 = some g → row = some g ∨ w.heap.size ≤ g) (hm2 : w.heap.size ≤ mb2) (hm : MfAt w2 mb f1) (hmne : ¬ rX r mb2 row1 mb) (h : RnPost base r la lc L (bs ++ b1) row1 mb2 R2 w2 e w') : RnPost base r la lc L bs row mb (seqR b1 (keepF f1 R2)) w e w' := by
  have hx : ∀ b, b < w.heap.size → rX r mb2 row1 b → rX r mb row b := fun b hb h => by
    rcases h with h | h | h
    · exact .inl h
    · omega
    · rcases hrow b h with h | h
      · exact .inr (.inr h)
      · omega
  rcases R2 with y | ⟨f2, b2⟩
  · obtain ⟨h1, h2⟩ := h
    exact ⟨h1, kept_then hk1 h2 hx⟩
  · obtain ⟨h1, h2, ⟨ba', bc', h3, h4⟩, h5⟩ := h
    refine ⟨h1, hm.same (h5.block mb hm.lt hmne), ⟨ba', bc', by rw [← List.append_assoc]; exact h3, fun g hg => ?_⟩, kept_then hk1 h5 hx⟩
    rw [← List.append_assoc] at hg
    rcases h4 g hg with h | h
    · exact hrow g h
    · exact .inr (Nat.le_trans hk1.size h)
set_option maxRecDepth 100000 in
set_option maxHeartbeats 4000000 in
theorem fn_step (N : Nat) (hL : NlC base r la lc L N) : FnC base r la lc L N := by
  intro kd tk ks x w bs ba bc B mb sv f fs hz hwf h3 hx hR hS hbm hB hl1 hl2
  obtain ⟨t, m, ps, b, rfl⟩ := fn_split h3
  obtain ⟨bk, bt, bks⟩ := b
  have hxk : KidsAt w (· < base) (.slice x.a x.n x.c) (t :: m :: (ps ++ [.mk bk bt bks])) := hx.kids
  have hNw := NwAt.of hxk
  obtain ⟨xk, xt, xa, xn, xc⟩ := x
  obtain ⟨a0, c0, ha0, hc0, hkid⟩ := hNw
  simp at ha0
  obtain ⟨rfl, hxn, rfl⟩ := ha0
  obtain rfl : xn = ps.length + 3 := by omega
  obtain ⟨g, off, y0, rfl, hgb, hgl, _⟩ := hkid 0 t rfl
  have hc3 : ps.length + 3 ≤ xc := by simpa using hc0
  have HV : Hid (NwAt w base (.slice (some ⟨g, off, none⟩) (ps.length + 3) xc) (t :: m :: (ps ++ [.mk bk bt bks]))) := ⟨_, _, by simp, hc0, hkid⟩
  simp only [zL_cons, zL_app, zL_nil, zN_mk] at hz hl1 hl2
  obtain ⟨hwt, hwm, hwr⟩ : wfN L.length t ∧ wfN L.length m ∧ wfL L.length (ps ++ [.mk bk bt bks]) := by rw [wfL_cons, wfL_cons] at hwf; exact ⟨hwf.1, hwf.2.1, hwf.2.2⟩
  have hwps : wfL L.length ps := wfL_mem.2 fun n hn => wfL_mem.1 hwr n (by simp [hn])
  have hwb : wfL L.length bks := (wfN_mk.1 (wfL_mem.1 hwr (.mk bk bt bks) (by simp))).2.2
  have hpl : ps.length ≤ 100000 := by have := zL_len ps; omega
  have hRF : rsF L (t :: m :: (ps ++ [.mk bk bt bks])) f fs = thenR (rsL L [t, m] f fs) (fun f' => keepF f' (thenR (rsL L ps [] (f' :: fs)) (fun f2 => rsL L bks f2 (f' :: fs)))) := by
    rw [rsF_two, ← rsL_two]
    congr 1
    funext f'
    rw [rsP_snoc]
    congr 2
  generalize hRR : rsF L (t :: m :: (ps ++ [.mk bk bt bks])) f fs = R at hRF
  have HRF := hid hRF
  have hMf := hS.map
  obtain ⟨m1, b1, v', rfl, hmB, hb1m, hmm1, hm, hb, hM, hF⟩ := id hS
  have h1 := below_new w (boxN ⟨xk, xt, some ⟨g, off, none⟩, ps.length + 3, xc⟩)
  have s1 : (w.alloc (boxN ⟨xk, xt, some ⟨g, off, none⟩, ps.length + 3, xc⟩)).heap.size = w.heap.size + 1 := by simp
  have k1 := heap_alloc_new w (boxN ⟨xk, xt, some ⟨g, off, none⟩, ps.length + 3, xc⟩)
  have h2 := below_new (w.alloc (boxN ⟨xk, xt, some ⟨g, off, none⟩, ps.length + 3, xc⟩)) (.cells #[.map (some mb), .func (.func 43) #[] #[.pointer (some ⟨m1, 0, none⟩), .pointer (some ⟨b1, 0, none⟩)]] 65)
  have k2 := heap_alloc_new (w.alloc (boxN ⟨xk, xt, some ⟨g, off, none⟩, ps.length + 3, xc⟩)) (.cells #[.map (some mb), .func (.func 43) #[] #[.pointer (some ⟨m1, 0, none⟩), .pointer (some ⟨b1, 0, none⟩)]] 65)
  rw [s1] at k2
  have h12 := h1.trans (h2.mono (by omega))
  have HX1 := hid ((h2.block _ (by omega)).trans k1)
  have HS1 := hid k2
  have HB1 := hid h12
  have HR := hid hR
  have HSv := hid hS
  have HL := hid hL
  have HWf := hid (And.intro hwt (And.intro hwm (And.intro hwps hwb)))
  clear hM hF hm hb h1 h2 s1 k1 k2 h12 hR hS hL hx hxk hkid hwf hwt hwm hwr hwps hwb hRF hMf h3 hc0 hxn
  generalize hn3 : ps.length + 3 = n3 at HX1 HS1 HB1 HV hc3 ⊢
  have HN3 := hid hn3
  obtain ⟨p2, hp2⟩ : ∃ p2, p2 = ps.length + 2 := ⟨_, rfl⟩
  have HP2 := hid hp2
  have hsub : IntKind.i64.wrap ((n3 : Int) - 1) = (p2 : Int) := by rw [IntKind.wrap_i64]; omega
  have hc2 : (2 : Int) ≤ (xc : Int) := by omega
  have hc2d : decide ((2 : Int) ≤ (xc : Int)) = true := decide_eq_true hc2
  have hp2a : (2 : Int) ≤ (p2 : Int) := by omega
  have hp2b : (p2 : Int) ≤ (xc : Int) := by omega
  have hp2ad : decide ((2 : Int) ≤ (p2 : Int)) = true := decide_eq_true hp2a
  have hp2bd : decide ((p2 : Int) ≤ (xc : Int)) = true := decide_eq_true hp2b
  have hp2n : (p2 : Int) < (n3 : Int) := by omega
  have hp2nd : decide ((p2 : Int) < (n3 : Int)) = true := decide_eq_true hp2n
  have hp20 : (0 : Int) ≤ (p2 : Int) := by omega
  clear hn3 hp2
  have hBw : B ≤ w.heap.size := hB
  unfold aggN
  go_enter Try.func41, Try.ntmps41
  go_upto_region 1 with fail
  change Code.wp _ _ _ _ ((w.alloc (boxN ⟨xk, xt, some ⟨g, off, none⟩, n3, xc⟩)).alloc (.cells #[.map (some mb), .func (.func 43) #[] #[.pointer (some ⟨m1, 0, none⟩), .pointer (some ⟨b1, 0, none⟩)]] 65))
  generalize (w.alloc (boxN ⟨xk, xt, some ⟨g, off, none⟩, n3, xc⟩)).alloc (.cells #[.map (some mb), .func (.func 43) #[] #[.pointer (some ⟨m1, 0, none⟩), .pointer (some ⟨b1, 0, none⟩)]] 65) = w1 at HX1 HS1 HB1 ⊢
  obtain ⟨⟨x0, x1, x2⟩, _⟩ := boxN_facts HX1.out
  have y0 : w1.cell? ⟨w.heap.size + 1, 0, none⟩ = some (.map (some mb)) := by unfold World.cell?; rw [HS1.out]; rfl
  have y1 : w1.cell? ⟨w.heap.size + 1, 1, none⟩ = some (.func (.func 43) #[] #[.pointer (some ⟨m1, 0, none⟩), .pointer (some ⟨b1, 0, none⟩)]) := by unfold World.cell?; rw [HS1.out]; rfl
  have hXl := lt_of_block HX1.out
  have hSl := lt_of_block HS1.out
  have HWi := hid (within_fix (w := w1) 43 #[.pointer (some ⟨m1, 0, none⟩), .pointer (some ⟨b1, 0, none⟩)])
  go_wp2_with fail
  refine HWi.out.mono ?_
  rintro e w2 ⟨mb2, m2, b2, rfl, q1, q2, q3, q4, q5, q6, q7, hb2⟩
  have h23 := below_new w2 (.cells #[.map (some mb2), .func (.func 43) #[] #[.pointer (some ⟨m2, 0, none⟩), .pointer (some ⟨b2, 0, none⟩)]] 65)
  have k3 := heap_alloc_new w2 (.cells #[.map (some mb2), .func (.func 43) #[] #[.pointer (some ⟨m2, 0, none⟩), .pointer (some ⟨b2, 0, none⟩)]] 65)
  have s3 : w2.heap.size < (w2.alloc (.cells #[.map (some mb2), .func (.func 43) #[] #[.pointer (some ⟨m2, 0, none⟩), .pointer (some ⟨b2, 0, none⟩)]] 65)).heap.size := by simp
  have HA := hid (And.intro q1 (And.intro q2 (And.intro q3 (And.intro q4 (And.intro q5 (And.intro q6 (And.intro q7 hb2)))))))
  have H23 := hid h23
  have K3 := hid k3
  clear q1 q2 q3 q4 q5 q6 q7 hb2 h23 k3 HWi
  go_upto_region 3 with fail
  change Code.wp _ _ _ _ (w2.alloc (.cells #[.map (some mb2), .func (.func 43) #[] #[.pointer (some ⟨m2, 0, none⟩), .pointer (some ⟨b2, 0, none⟩)]] 65))
  generalize w2.alloc (.cells #[.map (some mb2), .func (.func 43) #[] #[.pointer (some ⟨m2, 0, none⟩), .pointer (some ⟨b2, 0, none⟩)]] 65) = w3 at H23 K3 s3 ⊢
  clear x0 x1 x2 y0 y1
  have h13 := HA.out.2.2.2.2.2.2.2.trans (H23.out.mono HA.out.2.2.2.2.2.2.2.size)
  have HX3 := hid ((h13.block _ hXl).trans HX1.out)
  have HS3 := hid ((h13.block _ hSl).trans HS1.out)
  have H13 := hid h13
  clear h13
  obtain ⟨⟨x0, x1, x2⟩, _⟩ := boxN_facts HX3.out
  have y0 : w3.cell? ⟨w.heap.size + 1, 0, none⟩ = some (.map (some mb)) := by unfold World.cell?; rw [HS3.out]; rfl
  have y1 : w3.cell? ⟨w.heap.size + 1, 1, none⟩ = some (.func (.func 43) #[] #[.pointer (some ⟨m1, 0, none⟩), .pointer (some ⟨b1, 0, none⟩)]) := by unfold World.cell?; rw [HS3.out]; rfl
  have z2 := Later.cell x2
  have z3 := Later.cell y0
  have z4 := Later.cell y1
  have hnn : Nonempty (Later w3) := ⟨⟨_, Below.refl _ _⟩⟩
  refine region_later_tail 5 (by kernel_rfl) (by kernel_rfl) ?_
  simp only [List.take_succ_cons, List.take_zero, List.drop_succ_cons, List.drop_zero]
  repeat (quiet_step (fail))
  refine wpQuiet_nil ?_
  intro p
  have HB4 := hid p.hb
  generalize p.W = w4 at HB4 ⊢
  clear z2 z3 z4 hnn x0 x1 x2 y0 y1
  have hb4 := H13.out.trans (HB4.out.mono H13.out.size)
  have hw4 : Below w.heap.size w w4 := HB1.out.trans (hb4.mono HB1.out.size)
  have HW4 := hid hw4
  have hR4 := HR.out.below hw4
  have hS4 := HSv.out.turn (fun b _ hlt _ _ => hw4.block b hlt) (HSv.out.map.same (hw4.block mb HSv.out.map.lt))
  have HRS4 := hid (And.intro hR4 hS4)
  have HC1 := hid (HL.out [t, m] (.slice (some ⟨g, off, none⟩) 2 xc) w4 bs ba bc B mb _ f fs (by simp only [zL_cons, zL_nil]; omega) (by rw [wfL_cons, wfL_cons]; exact ⟨HWf.out.1, HWf.out.2.1, by rw [wfL]; trivial⟩) (NwAt.two (r := ps ++ [.mk bk bt bks]) (by have e : (ps ++ [Nd.mk bk bt bks]).length + 2 = n3 := (by have := HN3.out; simp; omega); rw [e]; exact HV.out.same hw4.size (fun b _ hlt => hw4.block b hlt))) hR4 hS4 hbm (by have := hw4.size; omega) (by simp only [zL_cons, zL_nil]; omega) (by simp only [zL_cons, zL_nil]; omega))
  clear hb4 hw4 hR4 hS4
  have h0F := HRF.out
  cases hr1 : rsL L [t, m] f fs with
  | error ye =>
    rw [hr1] at HC1 h0F
    have HRe := hid h0F
    clear hr1 h0F
    go_wp2_with fail
    refine HC1.out.mono ?_
    rintro e w5 ⟨rfl, hk5⟩
    have HE : Hid (RnPost base r la lc L bs (Value.slice ba bs.length bc).ownBlock mb R w (thrownS ye.1 (placeT L ye.2)) w5) := by
      rw [HRe.out]
      exact ⟨rfl, kept_then (kept_of_below (X := rX r mb (Value.slice ba bs.length bc).ownBlock) HW4.out) hk5 (fun b _ h => h)⟩
    exact ⟨rfl, HE.out⟩
  | ok z =>
    obtain ⟨f1, bs1⟩ := z
    rw [hr1] at HC1 h0F
    rw [thenR_seq] at h0F
    have HRe := hid h0F
    have HR1 := hid hr1
    clear hr1 h0F
    go_wp2_with fail
    refine HC1.out.mono ?_
    rintro e w5 ⟨rfl, hm5, ⟨ba1, bc1, hv5, hrow5⟩, hk5⟩
    have hw1w := HB1.out.size
    have hw13 := H13.out.size
    have hw34 := HB4.out.size
    have hw45 := hk5.size
    have hq2 := HA.out.1
    have hq3 := HA.out.2.1
    have hq4 := HA.out.2.2.1
    have hq5 := HA.out.2.2.2.1
    have hw23 := H23.out.size
    have hX4 := (HB4.out.block _ (by omega)).trans HX3.out
    have hS4 := (HB4.out.block _ (by omega)).trans HS3.out
    have hI4 := (HB4.out.block _ s3).trans K3.out
    have hm24 := (HB4.out.block _ (by omega)).trans ((H23.out.block _ hq5).trans HA.out.2.2.2.2.1)
    have hb24 := (HB4.out.block _ (by omega)).trans ((H23.out.block _ (by omega)).trans HA.out.2.2.2.2.2.1)
    have hMb3 := HA.out.2.2.2.2.2.2.1.same (H23.out.block _ (by omega))
    have hMb4 := hMb3.same (HB4.out.block _ hMb3.lt)
    have hmbl := HSv.out.map.lt
    have hMb5 : MfAt w5 mb2 [] := hMb4.same (hk5.block mb2 hMb4.lt (fun hx => by
      rcases hx with h | h | h
      · exact hMb4.noCell (h ▸ HRS4.out.1.selfO)
      · omega
      · exact hMb4.noCell (HRS4.out.1.rowO h)))
    have HX5 := hid (rx_cells HRS4.out.1 HRS4.out.2.map hk5 hX4 (by decide) (by decide))
    have HI5 := hid (rx_cells HRS4.out.1 HRS4.out.2.map hk5 hI4 (by decide) (by decide))
    have hm25 := rx_cells HRS4.out.1 HRS4.out.2.map hk5 hm24 (by decide) (by decide)
    have hb25 := rx_cells HRS4.out.1 HRS4.out.2.map hk5 hb24 (by decide) (by decide)
    have hSv5 := HRS4.out.2.kept HRS4.out.1 hk5 hm5
    have hInn5 : SvAt w5 w5.heap.size (.agg #[.map (some mb2), .func (.func 43) #[] #[.pointer (some ⟨m2, 0, none⟩), .pointer (some ⟨b2, 0, none⟩)]]) mb2 [] (f1 :: fs) := ⟨m2, b2, _, rfl, by omega, hq3, hq4, hm25, hb25, hMb5, hSv5.fd.mono (by omega)⟩
    have hV5 := HV.out.same (by omega) (fun b hb hlt => (rx_low HRS4.out.1 hbm hk5 b hb (by omega)).trans (HW4.out.block b hlt))
    have hlen1 := (rs_len L (zL [t, m])).2 [t, m] f fs (Nat.le_refl _) _ _ HR1.out
    simp only [zL_cons, zL_nil] at hlen1
    have hlb : (bs ++ bs1).length = bs.length + bs1.length := by simp
    have H5 := hid (And.intro hv5 (And.intro hInn5 (And.intro hV5 (And.intro hm5 hSv5))))
    have HK5 := hid (kept_then (kept_of_below (X := rX r mb (Value.slice ba bs.length bc).ownBlock) HW4.out) hk5 (fun b _ h => h))
    have HRow5 := hid (fun gg (h : (Value.slice ba1 (bs ++ bs1).length bc1).ownBlock = some gg) => show (Value.slice ba bs.length bc).ownBlock = some gg ∨ w.heap.size ≤ gg from (hrow5 gg h).imp id (fun h => by have := HW4.out.size; omega))
    have hmb2w : w.heap.size ≤ mb2 := by omega
    have hmbne : mb ≠ mb2 := by omega
    clear hX4 hS4 hI4 hm24 hb24 hMb3 hMb4 hMb5 hm25 hb25 hSv5 hInn5 hV5 hv5 hm5 hk5 hrow5 HC1
    go_wp2_with fail
    obtain ⟨⟨x0, x1, x2⟩, _⟩ := boxN_facts (x := ⟨xk, xt, some ⟨g, off, none⟩, n3, xc⟩) HX5.out
    dsimp only at x0 x1 x2
    have y0 : w5.cell? ⟨w2.heap.size, 0, none⟩ = some (.map (some mb2)) := by unfold World.cell?; rw [HI5.out]; rfl
    have y1 : w5.cell? ⟨w2.heap.size, 1, none⟩ = some (.func (.func 43) #[] #[.pointer (some ⟨m2, 0, none⟩), .pointer (some ⟨b2, 0, none⟩)]) := by unfold World.cell?; rw [HI5.out]; rfl
    have z2 := Later.cell x2
    have z3 := Later.cell y0
    have z4 := Later.cell y1
    have hnn : Nonempty (Later w5) := ⟨⟨_, Below.refl _ _⟩⟩
    refine region_later_tail 6 (by kernel_rfl) (by kernel_rfl) ?_
    simp only [List.take_succ_cons, List.take_zero, List.drop_succ_cons, List.drop_zero]
    repeat (quiet_step (fail))
    rw [if_neg (show ¬ xc = 2 by omega), show p2 - 2 = ps.length by have := HP2.out; omega]
    generalize hxc2 : xc - 2 = xd
    have HXd := hid hxc2
    clear hxc2
    refine wpQuiet_nil ?_
    intro p
    have HB6 := hid p.hb
    generalize p.W = w6 at HB6 ⊢
    clear z2 z3 z4 hnn x0 x1 x2 y0 y1
    obtain ⟨hv5, hInn5, hV5, hm5, hSv5⟩ := H5.out
    have hv6 := hv5.below HB6.out
    have hInn6 := hInn5.turn (fun b _ hlt _ _ => HB6.out.block b hlt) (hInn5.map.same (HB6.out.block mb2 hInn5.map.lt))
    have hz6 := HB6.out.size
    have hV6 := hV5.same hz6 (fun b _ hlt => HB6.out.block b hlt)
    rw [← HN3.out] at hV6
    have hC2 := HL.out ps (.slice (some ⟨g, off + 6, none⟩) ps.length (xc - 2)) w6 (bs ++ bs1) ba1 bc1 w5.heap.size mb2 _ [] (f1 :: fs) (by omega) HWf.out.2.2.1 hV6.mid hv6 hInn6 (by have := HR.out.hr; have := lt_of_block HR.out.box; omega) hz6 (by omega) (by simp; omega)
    rw [HXd.out] at hC2
    have HC2 := hid hC2
    have H6 := hid (And.intro hv6 (And.intro hInn6 hV6))
    have hm6 := hm5.same (HB6.out.block mb hm5.lt)
    have hmbne6 : ¬ rX r mb2 (Value.slice ba1 (bs ++ bs1).length bc1).ownBlock mb := fun hx => by
      rcases hx with h | h | h
      · exact hm5.noCell (h ▸ hv5.selfO)
      · exact hmbne h
      · exact hm5.noCell (hv5.rowO h)
    have HK6 := hid (kept_then HK5.out (kept_of_below (X := fun _ => False) HB6.out) (fun b _ h => h.elim))
    have HF : Hid (∀ (R2 : GotB) (e : Ending) (w' : World), RnPost base r la lc L (bs ++ bs1) (Value.slice ba1 (bs ++ bs1).length bc1).ownBlock mb2 R2 w6 e w' → RnPost base r la lc L bs (Value.slice ba bs.length bc).ownBlock mb (seqR bs1 (keepF f1 R2)) w e w') := fun R2 e w' h => rn_fun HK6.out HRow5.out hmb2w hm6 hmbne6 h
    have hX6 := (HB6.out.block _ (lt_of_block HX5.out)).trans HX5.out
    have hI6 := (HB6.out.block _ (lt_of_block HI5.out)).trans HI5.out
    have HXI6 := hid (And.intro hX6 hI6)
    clear hv5 hInn5 hV5 hm5 hSv5 hv6 hInn6 hV6 hC2 hm6 hmbne6 hX6 hI6
    have h1F := HRe.out
    cases hr2 : rsL L ps [] (f1 :: fs) with
    | error ye =>
      rw [hr2] at HC2 h1F
      have HRe2 := hid h1F
      clear hr2 h1F
      go_wp2_with fail
      refine HC2.out.mono ?_
      intro e w7 hq
      have HE := hid (HF.out _ _ _ hq)
      obtain ⟨rfl, hk7⟩ := hq
      have HE2 : Hid (RnPost base r la lc L bs (Value.slice ba bs.length bc).ownBlock mb R w (thrownS ye.1 (placeT L ye.2)) w7) := by
        show RnPost _ _ _ _ _ _ _ _ _ _ _ _
        rw [HRe2.out]
        exact HE.out
      clear hk7
      exact ⟨rfl, HE2.out⟩
    | ok z =>
      obtain ⟨g2, bs2⟩ := z
      rw [hr2, thenR_seq] at h1F
      rw [hr2] at HC2
      have HRe2 := hid h1F
      have hlen2 := (rs_len L (zL ps)).2 ps [] (f1 :: fs) (Nat.le_refl _) _ _ hr2
      clear hr2 h1F
      go_wp2_with fail
      refine HC2.out.mono ?_
      rintro e w7 ⟨rfl, hm7, ⟨ba2, bc2, hv7, hrow7⟩, hk7⟩
      have hz67 := hk7.size
      obtain ⟨hv6, hInn6, hV6⟩ := H6.out
      have hbm2 : base ≤ mb2 := by have := HR.out.hr; have := lt_of_block HR.out.box; omega
      have HX7 := hid (rx_cells hv6 hInn6.map hk7 HXI6.out.1 (by decide) (by decide))
      have HI7 := hid (rx_cells hv6 hInn6.map hk7 HXI6.out.2 (by decide) (by decide))
      have hInn7 := hInn6.kept hv6 hk7 hm7
      have hV7 := hV6.same hz67 (rx_low hv6 hbm2 hk7)
      obtain ⟨va, vc, hva, _, hvk⟩ := hV7
      obtain ⟨g', off', yb, hge, _, hgl7, hyb, _, _, e2⟩ := hvk p2 (.mk bk bt bks) (by rw [HP2.out]; simp)
      simp at hva
      obtain ⟨rfl, -, rfl⟩ := hva
      cases hge
      have HKb := hid hyb.kids
      have H7 := hid (And.intro hv7 (And.intro hInn7 hrow7))
      have HK7 := hid hk7
      clear hv6 hInn6 hV6 hInn7 hv7 hrow7 hm7 hk7 hvk hyb HC2
      obtain ⟨yk, yt, ya, yn, yc⟩ := yb
      dsimp only at e2 HKb
      go_wp2_with fail
      obtain ⟨⟨x0, x1, x2⟩, _⟩ := boxN_facts (x := ⟨xk, xt, some ⟨g, off, none⟩, n3, xc⟩) HX7.out
      dsimp only at x0 x1 x2
      have y0 : w7.cell? ⟨w2.heap.size, 0, none⟩ = some (.map (some mb2)) := by unfold World.cell?; rw [HI7.out]; rfl
      have y1 : w7.cell? ⟨w2.heap.size, 1, none⟩ = some (.func (.func 43) #[] #[.pointer (some ⟨m2, 0, none⟩), .pointer (some ⟨b2, 0, none⟩)]) := by unfold World.cell?; rw [HI7.out]; rfl
      have z2 := Later.cell x2
      have z3 := Later.cell y0
      have z4 := Later.cell y1
      have z5 := Later.cell e2
      have hnn : Nonempty (Later w7) := ⟨⟨_, Below.refl _ _⟩⟩
      refine region_later_tail 8 (by kernel_rfl) (by kernel_rfl) ?_
      simp only [List.take_succ_cons, List.take_zero, List.drop_succ_cons, List.drop_zero]
      repeat (quiet_step (fail))
      refine wpQuiet_nil ?_
      intro p
      have HB8 := hid p.hb
      generalize p.W = w8 at HB8 ⊢
      clear z2 z3 z4 z5 hnn x0 x1 x2 y0 y1
      obtain ⟨hv7, hInn7, hrow7⟩ := H7.out
      have hv8 := hv7.below HB8.out
      have hInn8 := hInn7.turn (fun b _ hlt _ _ => HB8.out.block b hlt) (hInn7.map.same (HB8.out.block mb2 hInn7.map.lt))
      have hz8 := HB8.out.size
      have hlb2 : (bs ++ bs1 ++ bs2).length = bs.length + bs1.length + bs2.length := by simp; omega
      have hlg : g2.length ≤ zL ps := by have := hlen2.2; simpa using this
      have hC3 := HL.out bks (.slice ya yn yc) w8 (bs ++ bs1 ++ bs2) ba2 bc2 w5.heap.size mb2 _ g2 (f1 :: fs) (by omega) HWf.out.2.2.2 ((NwAt.of HKb.out).same hz8 (fun b _ hlt => HB8.out.block b hlt)) hv8 hInn8 hbm2 (by omega) (by omega) (by omega)
      have HC3 := hid hC3
      have HF2 : Hid (∀ (e : Ending) (w' : World), RnPost base r la lc L (bs ++ bs1 ++ bs2) (Value.slice ba2 (bs ++ bs1 ++ bs2).length bc2).ownBlock mb2 (rsL L bks g2 (f1 :: fs)) w8 e w' → RnPost base r la lc L bs (Value.slice ba bs.length bc).ownBlock mb R w e w') := fun e w' h => by
        rw [HRe2.out]
        exact HF.out _ _ _ (rn_seq (kept_then HK7.out (kept_of_below (X := fun _ => False) HB8.out) (fun b _ h => h.elim)) hrow7 h)
      clear hv7 hInn7 hrow7 hv8 hInn8 hC3 e2
      cases hr3 : rsL L bks g2 (f1 :: fs) with
      | error ye =>
        rw [hr3] at HC3 HF2
        clear hr3
        go_wp2_with fail
        refine HC3.out.mono ?_
        intro e w9 hq
        have HE := hid (HF2.out _ _ hq)
        obtain ⟨rfl, hk9⟩ := hq
        clear hk9
        exact ⟨rfl, HE.out⟩
      | ok z =>
        obtain ⟨g3, bs3⟩ := z
        rw [hr3] at HC3 HF2
        clear hr3
        go_wp2_with fail
        refine HC3.out.mono ?_
        intro e w9 hq
        have HE := hid (HF2.out _ _ hq)
        obtain ⟨rfl, hq2⟩ := hq
        clear hq2
        go_wp2_with fail
        go_end0
        exact HE.out
end
end
end Go.Proofs.Ytkfbhknhjpmomaa
