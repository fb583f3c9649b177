/- Walks of typeNext and typeName. · What is read goes on from the left; expressions at a statement's level. · Steps enough to read any expression. · Walk of declarator. · Walk of started. · What stands next is taken, or must stand there: at a statement's level. · Walk of plain. · Walk of declarationNext. · Walk of statementNext. · Walk of declared. -/
import Derived.Test.YtocklchafmlfkaaTgC
import Derived.Test.YtocklchafmlfkaaLaterTail
import Derived.Test.YtocklchafmlfkaaTgB
import Derived.Deep.RegionLawGrows
namespace Go.Proofs.Ytocklchafmlfkaa
section
open Go.RowKit Go.Shelf

/-- The language's own types. -/
def baseW (s : List UInt8) : Bool := s == [105, 110, 116] || s == [99, 104, 97, 114] || s == [108, 111, 110, 103] || s == [118, 111, 105, 100]
/-- Whether a type stands there. -/
def typT (L : List Tk) (env : Env0) (i : Nat) : Bool := baseW (wordT L i) || (nameT L i && isTyE env (wordT L i))
/-- What is read at a statement's level, or thrown. -/
def StPost (base r : Nat) (la : Option Addr) (lc : Nat) (L : List Tk) (env : Env0) (d : Nat) (R : Got (Nd × Nat × Env0)) (w : World) (e : Ending) (w' : World) : Prop := match R with
  | .ok (n, j, env') => ∃ x, e = .returned (aggN x) ∧ NdIs w' (w.heap.size ≤ ·) x n ∧ RdAt w' base r la lc L j env' d ∧ FrT base r w w'
  | .error x => e = thrownT x.1 (placeT L x.2) ∧ (∃ env', env'.length = env.length ∧ RdP w' base r la lc L env' d) ∧ FrT base r w w'
/-- The tokens' texts are short. -/
def Short (L : List Tk) : Prop := ∀ t ∈ L, t.text.size ≤ 3000
theorem wrd_short {L : List Tk} (h : Short L) (i : Nat) : (wrdB L i).size ≤ 3000 := by
  unfold wrdB
  cases hi : L[i]? with
  | none => show (0 : Nat) ≤ 3000; omega
  | some t =>
    dsimp only
    split
    · exact h t (List.mem_of_getElem? hi)
    · show (0 : Nat) ≤ 3000; omega

set_option maxRecDepth 100000 in
set_option maxHeartbeats 1000000 in
theorem typeNext_any {base r : Nat} {la : Option Addr} {lc : Nat} {L : List Tk} {i : Nat} {env : Env0} {d : Nat} (hs : Short L) (hl : env.length ≤ 1000) (w : World) (h : RdAt w base r la lc L i env d) :
    Calls Try.prog 37 #[.pointer (some ⟨r, 0, none⟩)] w fun e w' => e = .returned (.bool (typT L env i)) ∧ ∃ n, w' = w.drewN n := by
  obtain ⟨lo, hbr, vn, ms, hc, hn⟩ := h
  have hml : ms.length ≤ 1000 := by rw [hn.len]; exact hl
  have HW := hid (quiet_at fun n => word_any _ (hc.draws n))
  have HN := hid (fun k n => nameNext_any _ ((hc.draws k).draws n))
  have HW2 := hid (fun k n => word_any _ ((hc.draws k).draws n))
  have HI := hid (fun k n => isType_any base vn ms env i (wrdB L i) (by have := wrd_short hs i; omega) ((w.drewN k).drewN n) ((hn.below (dN_below (Below.refl _ _) k)).below (dN_below (Below.refl _ _) n)) (by omega))
  rw [wrdB_is] at HI
  have HC := hid (fun n => (hc.draws n).facts.1)
  have hrl := hc.lt
  unfold typT
  have hwb : (wrdB L i).toList = wordT L i := by rw [toList_data, wrdB_is]
  have hbs : baseW (wordT L i) = ((wrdB L i).toList == [105, 110, 116] || (wrdB L i).toList == [99, 104, 97, 114] || (wrdB L i).toList == [108, 111, 110, 103] || (wrdB L i).toList == [118, 111, 105, 100]) := by rw [hwb]; rfl
  obtain ⟨av, cv, rfl⟩ := row_val hn.row
  rw [hbs]
  clear hc hn hwb hbs
  generalize isTyE env (wordT L i) = ib at *
  generalize nameT L i = nb at *
  generalize wrdB L i = W0 at *
  by_cases h1 : (W0.toList == [105, 110, 116] || W0.toList == [99, 104, 97, 114] || W0.toList == [108, 111, 110, 103] || W0.toList == [118, 111, 105, 100]) = true
  · rw [h1]
    simp only [Bool.or_eq_true] at h1
    have HE : Hid (Ending.returned (.bool true) = .returned (.bool (true || (nb && ib)))) := by show _ = _; rfl
    rcases h1 with ((h1 | h1) | h1) | h1
    all_goals (rw [beq_iff_eq] at h1)
    all_goals go_enter Try.func37, Try.ntmps37
    all_goals go_wp2_with (go_at_call 28; refine (HW.out _ ⟨0, rfl⟩).mono ?_; rintro e w1 ⟨rfl, n1, rfl⟩)
    all_goals go_ret
    all_goals exact ⟨HE.out, _, rfl⟩
  · have h1' := Bool.eq_false_iff.2 h1
    rw [h1']
    simp only [Bool.or_eq_false_iff] at h1'
    obtain ⟨⟨⟨k1, k2⟩, k3⟩, k4⟩ := h1'
    clear h1
    cases nb with
    | false =>
      go_enter Try.func37, Try.ntmps37
      go_wp2_with (first | (go_at_call 28; refine (HW.out _ ⟨0, rfl⟩).mono ?_; rintro e w1 ⟨rfl, n1, rfl⟩))
      obtain ⟨b0, b1, b2, b3⟩ := HC.out n1
      have HN1 := hid (HN.out n1)
      have HW1 := hid (HW2.out n1)
      have HI1 := hid (HI.out n1)
      have HQ : Hid (∀ k, ∃ m, (w.drewN n1).drewN k = w.drewN m) := fun k => ⟨_, World.drewN_drewN _ _ _⟩
      clear HN HW2 HI HC HW
      generalize w.drewN n1 = wq at *
      go_quiet ((first | (go_at_call 40; exact Calls.quiet_of (HN1.out _)) | (go_at_call 28; exact Calls.quiet_of (HW1.out _)) | (go_at_call 49; exact Calls.quiet_of (HI1.out _))))
      go_wp2_with fail
      go_ret
      exact ⟨rfl, HQ.out _⟩
    | true =>
      go_enter Try.func37, Try.ntmps37
      go_wp2_with (first | (go_at_call 28; refine (HW.out _ ⟨0, rfl⟩).mono ?_; rintro e w1 ⟨rfl, n1, rfl⟩))
      obtain ⟨b0, b1, b2, b3⟩ := HC.out n1
      have HN1 := hid (HN.out n1)
      have HW1 := hid (HW2.out n1)
      have HI1 := hid (HI.out n1)
      have HQ : Hid (∀ k, ∃ m, (w.drewN n1).drewN k = w.drewN m) := fun k => ⟨_, World.drewN_drewN _ _ _⟩
      clear HN HW2 HI HC HW
      generalize w.drewN n1 = wq at *
      go_quiet ((first | (go_at_call 40; exact Calls.quiet_of (HN1.out _)) | (go_at_call 28; exact Calls.quiet_of (HW1.out _)) | (go_at_call 49; exact Calls.quiet_of (HI1.out _))))
      go_wp2_with fail
      go_ret
      exact ⟨rfl, HQ.out _⟩

theorem NmIs.put {W : World} {base : Nat} {vn : Value} {ms : List (Option Nat)} {env : Env0} {N B : Nat} (h : NmIs W base vn ms env N) {u : Nv} (hz : W.heap[B]? = some (boxN u)) (x : Nv) : NmIs (putN W B x) base vn ms env N := by
  refine h.same (fun b c hb _ => putN_other W B x b fun e => ?_) (fun b es cl hb _ => putN_other W B x b fun e => ?_)
  · subst e
    rw [hz] at hb
    injection hb with hb
    injection hb with _ hb
    revert hb
    decide
  · subst e
    rw [hz] at hb
    cases hb
/-- What is laid into the result's block is what comes back. -/
theorem give_st {base r : Nat} {la : Option Addr} {lc : Nat} {L : List Tk} {env : Env0} {d : Nat} {w W : World} {x u : Nv} {n : Nd} {j : Nat} {P Q : Nat → Prop} (hrw : r < w.heap.size) (hbs : base ≤ w.heap.size) (hz : W.heap[w.heap.size]? = some (boxN u)) (hx : NdIs W P x n) (hP : ∀ b, P b → b ≠ w.heap.size) (hR : RdAt W base r la lc L j env d) (hF : FrT base r w W) (hQ : ∀ b, P b → Q b) :
    (putN W w.heap.size x).heap[w.heap.size]? = some (boxN x) ∧ NdIs (putN W w.heap.size x) Q x n ∧ RdAt (putN W w.heap.size x) base r la lc L j env d ∧ FrT base r w (putN W w.heap.size x) := by
  obtain ⟨lo, hbr, vn, ms, hc, hn⟩ := hR
  refine ⟨putN_block x hz, (hx.kept fun b hb _ => putN_other _ _ _ _ (hP b hb)).mono fun b hb _ => hQ b hb, ⟨lo, hbr, vn, ms, hc.other (B := w.heap.size) hrw (fun b off e hL => Nat.lt_of_lt_of_le (lo b off e hL) hbs) (by rw [putN_size]; exact Nat.le_refl _) fun b hb => putN_other _ _ _ _ (by omega), hn.put hz x⟩, ⟨?_, fun b c T fz hb hT hne => ?_⟩⟩
  · have := hF.low
    exact ⟨this.os, this.tape, this.output, by rw [putN_size]; exact this.size, fun b hb => (putN_other _ _ _ _ (by omega)).trans (this.block b hb)⟩
  · exact (putN_other _ _ _ _ (by have := lt_of_block hb; omega)).trans (hF.cells b c T fz hb hT hne)

set_option maxRecDepth 100000 in
set_option maxHeartbeats 1000000 in
theorem typeName_any {base r : Nat} {la : Option Addr} {lc : Nat} {L : List Tk} {i : Nat} {env : Env0} {d : Nat} (hs : Short L) (hl : env.length ≤ 1000) (w : World) (h : RdAt w base r la lc L i env d) :
    Calls Try.prog 30 #[.pointer (some ⟨r, 0, none⟩)] w (StPost base r la lc L env d (if typT L env i = true then .ok (.mk 16 (i : Int) [], i + 1, env) else .error (2, i)) w) := by
  have hbs := h.size
  have h' := h.below (below_new w (boxN zeroN))
  have HT := hid (quiet_at fun n => typeNext_any hs hl _ (h'.below (dN_below (Below.refl _ _) n)))
  obtain ⟨lo, hbr, vn, ms, hc, hn⟩ := h
  have HZ := hid (begin_at hc)
  have hc' := hc.below (below_new w (boxN zeroN))
  have hn' := hn.below (below_new w (boxN zeroN))
  have HD := hid (fun n => dN_heap (w.alloc (boxN zeroN)) w.heap.size n)
  have HBd := hid (fun n => dN_below (Below.refl (w.alloc (boxN zeroN)).heap.size (w.alloc (boxN zeroN))) n)
  unfold StPost
  rcases htb : typT L env i with _ | _
  · rw [htb] at HT
    rw [if_neg (by decide)]
    have HF := hid (fun n => fail_any 2 _ (hc'.draws n))
    have HR := hid h'
    rw [thrown_chain] at HF
    dsimp only [boxN, zeroN] at HT HF HR HBd ⊢
    rw [thrown_chain]
    clear h' hc hn hc' hn'
    go_enter Try.func30, Try.ntmps30
    go_wp2_with (first | (go_at_call 37; refine (HT.out _ ⟨0, rfl⟩).mono ?_; rintro e w1 ⟨rfl, n1, rfl⟩) | (go_at_call 38; refine (HF.out _).mono ?_; rintro e w2 ⟨rfl, hb2⟩))
    have hb3 := (HBd.out n1).trans (hb2.mono (HBd.out n1).size)
    exact ⟨rfl, rfl, ⟨env, rfl, (HR.out.below hb3).thrown⟩, (FrT.of_below (below_new w _) hbs).trans (FrT.of_below hb3 (by simp; omega))⟩
  · rw [htb] at HT
    rw [if_pos rfl]
    have hi : i < L.length := by
      by_cases hi : i < L.length
      · exact hi
      · unfold typT at htb
        rw [show wordT L i = [] by unfold wordT; rw [List.getElem?_eq_none (by omega)], show nameT L i = false by unfold nameT; rw [List.getElem?_eq_none (by omega)]] at htb
        cases htb
    have HTk := hid (fun n => take_any 16 _ (hc'.draws n) hi)
    have HNm := hid hn'
    have HCm := hid hc'
    unfold aggN at HTk
    dsimp only [boxN, zeroN] at HT HTk HBd HZ HD HNm HCm ⊢
    clear h' hc hn hc' hn' htb
    go_enter Try.func30, Try.ntmps30
    go_wp2_with (first | (go_at_call 37; refine (HT.out _ ⟨0, rfl⟩).mono ?_; rintro e w1 ⟨rfl, n1, rfl⟩))
    refine (HTk.out _).mono ?_
    rintro e w3 ⟨rfl, hc3, hk3⟩
    have hr0 := HZ.out.1
    have hz0 := HZ.out.2.2.1
    have hR3 : w3.heap[w.heap.size]? = some (boxN zeroN) := (hk3.block _ (by show w.heap.size < (w.alloc _).heap.size; omega) (by omega)).trans ((HD.out n1).trans HZ.out.2.2.2.1)
    obtain ⟨⟨y0, y1, y2⟩, z0, z1, z2⟩ := boxN_facts (x := zeroN) hR3
    dsimp only [zeroN] at y0 y1 y2
    have hkk := (kept_of_below (X := (· = r)) (HBd.out n1)).trans hk3
    have hN3 := (HNm.out.kept HCm.out.box hkk).mono (Nat.le_succ i)
    have HG := hid (give_st (u := zeroN) (w := w) (W := w3) (x := ⟨16, i, none, 0, 0⟩) (n := .mk 16 (i : Int) []) (P := fun b => w.heap.size < b) hr0 hbs hR3 ⟨rfl, rfl, KidsAt.nil⟩ (fun b hb => by omega) ⟨lo, hbr, _, _, hc3, hN3⟩ (FrT.of_kept (HZ.out.2.2.2.2.trans hkk) hbr hbs) (Q := fun b => w.heap.size ≤ b) (fun b hb => Nat.le_of_lt hb))
    unfold putN at HG
    dsimp only at HG
    clear hc3 hk3 hkk hN3
    go_wp2_with fail
    exact bodyPost_ret (node_ret Try.results30 (x := ⟨16, i, none, 0, 0⟩) HG.out.1 _ rfl) rfl ⟨_, rfl, HG.out.2⟩
end
section
open Go.RowKit Go.Shelf

theorem ex_le (L : List Tk) : ∀ (f m l d i : Nat) (n : Nd) (ks : List Nd) (n' : Nd) (ks' : List Nd) (j : Nat), exF L f m l d i n ks = some (.ok (n', ks', j)) → i ≤ j
  | 0, m, l, d, i, n, ks, n', ks', j, h => by rw [exF] at h; cases h
  | f + 1, 0, l, d, i, n, ks, n', ks', j, h => by
    rw [exF] at h
    cases hs : stopT L (partT L i) d i with
    | some x => rw [hs] at h; cases h
    | none =>
      rw [hs] at h
      dsimp only at h
      rcases he : exF L f 2 0 (d + 1) i n ks with _ | (x | ⟨m1, k1, j1⟩)
      · rw [he] at h; cases h
      · rw [he] at h; cases h
      · rw [he] at h
        have h1 := ex_le L f _ _ _ _ _ _ _ _ _ he
        have h2 := ex_le L f _ _ _ _ _ _ _ _ _ h
        omega
  | f + 1, 1, l, d, i, n, ks, n', ks', j, h => by
    rw [exF] at h
    split at h
    · cases h; exact Nat.le_refl _
    · rcases he : exF L f 0 (rightW (levelW (wordT L i))) d (i + 1) n ks with _ | (x | ⟨m1, k1, j1⟩)
      · rw [he] at h; cases h
      · rw [he] at h; cases h
      · rw [he] at h
        have h1 := ex_le L f _ _ _ _ _ _ _ _ _ he
        have h2 := ex_le L f _ _ _ _ _ _ _ _ _ h
        omega
  | f + 1, 2, l, d, i, n, ks, n', ks', j, h => by
    rw [exF] at h
    cases hs : stopT L (partT L i) d i with
    | some x => rw [hs] at h; cases h
    | none =>
      rw [hs] at h
      dsimp only at h
      split at h
      · rcases he : exF L f 2 0 (d + 1) (i + 1) n ks with _ | (x | ⟨m1, k1, j1⟩)
        · rw [he] at h; cases h
        · rw [he] at h; cases h
        · rw [he] at h
          have h1 := ex_le L f _ _ _ _ _ _ _ _ _ he
          cases h
          omega
      · split at h
        · rcases he : exF L f 0 1 (d + 1) (i + 1) n ks with _ | (x | ⟨m1, k1, j1⟩)
          · rw [he] at h; cases h
          · rw [he] at h; cases h
          · rw [he] at h
            dsimp only at h
            have h1 := ex_le L f _ _ _ _ _ _ _ _ _ he
            split at h
            · have h2 := ex_le L f _ _ _ _ _ _ _ _ _ h
              omega
            · cases h
        · split at h
          · have h2 := ex_le L f _ _ _ _ _ _ _ _ _ h
            omega
          · have h2 := ex_le L f _ _ _ _ _ _ _ _ _ h
            omega
  | f + 1, 3, l, d, i, n, ks, n', ks', j, h => by
    rw [exF] at h
    split at h
    · rcases he : exF L f 4 0 d (i + 1) n [] with _ | (x | ⟨m1, k1, j1⟩)
      · rw [he] at h; cases h
      · rw [he] at h; cases h
      · rw [he] at h
        have h1 := ex_le L f _ _ _ _ _ _ _ _ _ he
        have h2 := ex_le L f _ _ _ _ _ _ _ _ _ h
        omega
    · split at h
      · rcases he : exF L f 0 1 d (i + 1) n ks with _ | (x | ⟨m1, k1, j1⟩)
        · rw [he] at h; cases h
        · rw [he] at h; cases h
        · rw [he] at h
          dsimp only at h
          have h1 := ex_le L f _ _ _ _ _ _ _ _ _ he
          split at h
          · have h2 := ex_le L f _ _ _ _ _ _ _ _ _ h
            omega
          · cases h
      · cases h; exact Nat.le_refl _
  | f + 1, 4, l, d, i, n, ks, n', ks', j, h => by
    rw [exF] at h
    split at h
    · cases h; omega
    · rcases he : exF L f 0 2 d i n ks with _ | (x | ⟨m1, k1, j1⟩)
      · rw [he] at h; cases h
      · rw [he] at h; cases h
      · rw [he] at h
        have h1 := ex_le L f _ _ _ _ _ _ _ _ _ he
        have h2 := ex_le L f _ _ _ _ _ _ _ _ _ h
        omega
  | f + 1, m + 5, l, d, i, n, ks, n', ks', j, h => by
    rw [exF] at h
    · split at h
      · rcases he : exF L f 0 2 d (i + 1) n ks with _ | (x | ⟨m1, k1, j1⟩)
        · rw [he] at h; cases h
        · rw [he] at h; cases h
        · rw [he] at h
          have h1 := ex_le L f _ _ _ _ _ _ _ _ _ he
          have h2 := ex_le L f _ _ _ _ _ _ _ _ _ h
          omega
      · split at h
        · cases h; omega
        · cases h
    all_goals omega

/-- An expression, with F steps. -/
def rdX (L : List Tk) (F l d i : Nat) : Got (Nd × Nat) := match exF L F 0 l d i (.mk 0 0 []) [] with
  | some (.ok (n, _, j)) => .ok (n, j)
  | some (.error x) => .error x
  | none => .error (99, i)
/-- F steps are enough. -/
def Enough (L : List Tk) (F : Nat) : Prop := F ≤ 1048576 ∧ ∀ l d i, exF L F 0 l d i (.mk 0 0 []) [] ≠ none
/-- With the names as they were. -/
def withE (env : Env0) : Got (Nd × Nat) → Got (Nd × Nat × Env0)
  | .ok (n, j) => .ok (n, j, env)
  | .error x => .error x
theorem st_of_ex {base r : Nat} {la : Option Addr} {lc : Nat} {L : List Tk} {i : Nat} {env : Env0} {d F l : Nat} (hE : Enough L F) (w : World) (h : RdAt w base r la lc L i env d) (g : Nat)
    (hg : ∀ vn R, exF L F 0 l d i (.mk 0 0 []) [] = some R → CrAt w r la lc L i vn d → Calls Try.prog g #[.pointer (some ⟨r, 0, none⟩)] w (ExPost r la lc L vn (w.heap.size ≤ ·) d R w)) :
    Calls Try.prog g #[.pointer (some ⟨r, 0, none⟩)] w (StPost base r la lc L env d (withE env (rdX L F l d i)) w) := by
  have hbs := h.size
  obtain ⟨lo, hbr, vn, ms, hc, hn⟩ := h
  unfold rdX
  cases he : exF L F 0 l d i (.mk 0 0 []) [] with
  | none => exact absurd he (hE.2 l d i)
  | some R =>
    refine (hg vn R he hc).mono fun e w' hp => ?_
    unfold ExPost at hp
    cases R with
    | error x =>
      obtain ⟨h1, ⟨i', hc'⟩, hk⟩ := hp
      exact ⟨h1, ⟨env, rfl, lo, hbr, i', vn, ms, i, hc', hn.kept hc.box hk⟩, FrT.of_kept hk hbr hbs⟩
    | ok y =>
      obtain ⟨n, ks, j⟩ := y
      obtain ⟨x, h1, h2, hc', hk⟩ := hp
      exact ⟨x, h1, h2, RdAt.of_cr lo hbr hc hn hc' hk (ex_le L F _ _ _ _ _ _ _ _ _ he), FrT.of_kept hk hbr hbs⟩
theorem expr_st {base r : Nat} {la : Option Addr} {lc : Nat} {L : List Tk} {i : Nat} {env : Env0} {d F : Nat} (hE : Enough L F) (w : World) (h : RdAt w base r la lc L i env d) :
    Calls Try.prog 41 #[.pointer (some ⟨r, 0, none⟩)] w (StPost base r la lc L env d (withE env (rdX L F 1 d i)) w) :=
  st_of_ex hE w h _ fun _ R hR hc => expression_step (ex_all F hE.1 F (Nat.le_refl _)).1 d i _ _ R hR w hc
theorem single_st {base r : Nat} {la : Option Addr} {lc : Nat} {L : List Tk} {i : Nat} {env : Env0} {d F : Nat} (hE : Enough L F) (w : World) (h : RdAt w base r la lc L i env d) :
    Calls Try.prog 54 #[.pointer (some ⟨r, 0, none⟩)] w (StPost base r la lc L env d (withE env (rdX L F 2 d i)) w) :=
  st_of_ex hE w h _ fun _ R hR hc => single_step (ex_all F hE.1 F (Nat.le_refl _)).1 d i _ _ R hR w hc
end
section
open Go.RowKit Go.Shelf

theorem stop_lt {L : List Tk} {b : Bool} {d i : Nat} (h : stopT L b d i = none) : i < L.length := by
  unfold stopT at h
  by_cases hl : L.length ≤ i
  · rw [if_pos hl] at h; cases h
  · omega
theorem part_lt (L : List Tk) (f l d i : Nat) (n : Nd) (ks : List Nd) (n' : Nd) (ks' : List Nd) (j : Nat) (h : exF L f 2 l d i n ks = some (.ok (n', ks', j))) : i < j := by
  cases f with
  | zero => rw [exF] at h; cases h
  | succ f =>
    rw [exF] at h
    cases hs : stopT L (partT L i) d i with
    | some x => rw [hs] at h; cases h
    | none =>
      rw [hs] at h
      dsimp only at h
      split at h
      · rcases he : exF L f 2 0 (d + 1) (i + 1) n ks with _ | (x | ⟨m1, k1, j1⟩)
        · rw [he] at h; cases h
        · rw [he] at h; cases h
        · rw [he] at h
          have h1 := ex_le L f _ _ _ _ _ _ _ _ _ he
          cases h
          omega
      · split at h
        · rcases he : exF L f 0 1 (d + 1) (i + 1) n ks with _ | (x | ⟨m1, k1, j1⟩)
          · rw [he] at h; cases h
          · rw [he] at h; cases h
          · rw [he] at h
            dsimp only at h
            have h1 := ex_le L f _ _ _ _ _ _ _ _ _ he
            split at h
            · have h2 := ex_le L f _ _ _ _ _ _ _ _ _ h
              omega
            · cases h
        · split at h
          · have h2 := ex_le L f _ _ _ _ _ _ _ _ _ h
            omega
          · have h2 := ex_le L f _ _ _ _ _ _ _ _ _ h
            omega
theorem ex_lt (L : List Tk) (f l d i : Nat) (n : Nd) (ks : List Nd) (n' : Nd) (ks' : List Nd) (j : Nat) (h : exF L f 0 l d i n ks = some (.ok (n', ks', j))) : i < j := by
  cases f with
  | zero => rw [exF] at h; cases h
  | succ f =>
    rw [exF] at h
    cases hs : stopT L (partT L i) d i with
    | some x => rw [hs] at h; cases h
    | none =>
      rw [hs] at h
      dsimp only at h
      rcases he : exF L f 2 0 (d + 1) i n ks with _ | (x | ⟨m1, k1, j1⟩)
      · rw [he] at h; cases h
      · rw [he] at h; cases h
      · rw [he] at h
        have h1 := part_lt L f _ _ _ _ _ _ _ _ he
        have h2 := ex_le L f _ _ _ _ _ _ _ _ _ h
        omega
theorem ex_ok_lt {L : List Tk} {f l d i : Nat} {n : Nd} {ks : List Nd} {y : Nd × List Nd × Nat} (h : exF L f 0 l d i n ks = some (.ok y)) : i < L.length := by
  cases f with
  | zero => rw [exF] at h; cases h
  | succ f =>
    rw [exF] at h
    cases hs : stopT L (partT L i) d i with
    | some x => rw [hs] at h; cases h
    | none => exact stop_lt hs
/-- Steps enough for what is read, with r tokens left. -/
def needX : Nat → Nat → Nat
  | 0, r => 4 * r + 2
  | 1, r => 4 * r + 2
  | 4, r => 4 * r + 3
  | _, r => 4 * r + 1
theorem need5 (m r : Nat) : needX (m + 5) r = 4 * r + 1 := by unfold needX; rfl
theorem ex_some (L : List Tk) : ∀ (f m l d i : Nat) (n : Nd) (ks : List Nd), needX m (L.length - i) ≤ f → exF L f m l d i n ks ≠ none
  | 0, m, l, d, i, n, ks, h => by
    have : 1 ≤ needX m (L.length - i) := by unfold needX; split <;> omega
    omega
  | f + 1, 0, l, d, i, n, ks, h => by
    simp only [needX] at h
    rw [exF]
    cases hs : stopT L (partT L i) d i with
    | some x => intro h; cases h
    | none =>
      have hi := stop_lt hs
      dsimp only
      rcases he : exF L f 2 0 (d + 1) i n ks with _ | (x | ⟨m1, k1, j1⟩)
      · exact absurd he (ex_some L f 2 0 (d + 1) i n ks (by simp only [needX]; omega))
      · intro h; cases h
      · have h1 := part_lt L f _ _ _ _ _ _ _ _ he
        exact ex_some L f _ _ _ _ _ _ (by simp only [needX]; omega)
  | f + 1, 1, l, d, i, n, ks, h => by
    simp only [needX] at h
    rw [exF]
    split
    · intro h; cases h
    · rcases he : exF L f 0 (rightW (levelW (wordT L i))) d (i + 1) n ks with _ | (x | ⟨m1, k1, j1⟩)
      · by_cases hi : i < L.length
        · exact absurd he (ex_some L f _ _ _ _ _ _ (by simp only [needX]; omega))
        · obtain ⟨f', rfl⟩ : ∃ f', f = f' + 1 := ⟨f - 1, by omega⟩
          rw [exF, show stopT L (partT L (i + 1)) d (i + 1) = some (9, i + 1) by unfold stopT; rw [if_pos (by omega)]] at he
          cases he
      · intro h; cases h
      · have h1 := ex_le L f _ _ _ _ _ _ _ _ _ he
        have h2 := ex_ok_lt he
        exact ex_some L f _ _ _ _ _ _ (by simp only [needX]; omega)
  | f + 1, 2, l, d, i, n, ks, h => by
    simp only [needX] at h
    rw [exF]
    cases hs : stopT L (partT L i) d i with
    | some x => intro h; cases h
    | none =>
      have hi := stop_lt hs
      dsimp only
      split
      · rcases he : exF L f 2 0 (d + 1) (i + 1) n ks with _ | (x | ⟨m1, k1, j1⟩)
        · exact absurd he (ex_some L f _ _ _ _ _ _ (by simp only [needX]; omega))
        · intro h; cases h
        · intro h; cases h
      · split
        · rcases he : exF L f 0 1 (d + 1) (i + 1) n ks with _ | (x | ⟨m1, k1, j1⟩)
          · exact absurd he (ex_some L f _ _ _ _ _ _ (by simp only [needX]; omega))
          · intro h; cases h
          · have h1 := ex_le L f _ _ _ _ _ _ _ _ _ he
            dsimp only
            split
            · exact ex_some L f _ _ _ _ _ _ (by simp only [needX]; omega)
            · intro h; cases h
        · split
          · exact ex_some L f _ _ _ _ _ _ (by simp only [needX]; omega)
          · exact ex_some L f _ _ _ _ _ _ (by simp only [needX]; omega)
  | f + 1, 3, l, d, i, n, ks, h => by
    simp only [needX] at h
    rw [exF]
    split
    · rename_i hp
      have hi := word_lt hp (by decide)
      rcases he : exF L f 4 0 d (i + 1) n [] with _ | (x | ⟨m1, k1, j1⟩)
      · exact absurd he (ex_some L f _ _ _ _ _ _ (by simp only [needX]; omega))
      · intro h; cases h
      · have h1 := ex_le L f _ _ _ _ _ _ _ _ _ he
        exact ex_some L f _ _ _ _ _ _ (by simp only [needX]; omega)
    · split
      · rename_i hp
        have hi := word_lt hp (by decide)
        rcases he : exF L f 0 1 d (i + 1) n ks with _ | (x | ⟨m1, k1, j1⟩)
        · exact absurd he (ex_some L f _ _ _ _ _ _ (by simp only [needX]; omega))
        · intro h; cases h
        · have h1 := ex_le L f _ _ _ _ _ _ _ _ _ he
          dsimp only
          split
          · exact ex_some L f _ _ _ _ _ _ (by simp only [needX]; omega)
          · intro h; cases h
      · intro h; cases h
  | f + 1, 4, l, d, i, n, ks, h => by
    simp only [needX] at h
    rw [exF]
    split
    · intro h; cases h
    · rcases he : exF L f 0 2 d i n ks with _ | (x | ⟨m1, k1, j1⟩)
      · exact absurd he (ex_some L f _ _ _ _ _ _ (by simp only [needX]; omega))
      · intro h; cases h
      · have h1 := ex_lt L f _ _ _ _ _ _ _ _ he
        exact ex_some L f _ _ _ _ _ _ (by simp only [needX]; omega)
  | f + 1, m + 5, l, d, i, n, ks, h => by
    rw [need5] at h
    rw [exF]
    · split
      · rename_i hp
        have hi := word_lt hp (by decide)
        rcases he : exF L f 0 2 d (i + 1) n ks with _ | (x | ⟨m1, k1, j1⟩)
        · exact absurd he (ex_some L f _ _ _ _ _ _ (by simp only [needX]; omega))
        · intro h; cases h
        · have h1 := ex_le L f _ _ _ _ _ _ _ _ _ he
          exact ex_some L f _ _ _ _ _ _ (by simp only [needX]; omega)
      · split
        · intro h; cases h
        · intro h; cases h
    all_goals omega
/-- So many steps are enough. -/
theorem enough_of (L : List Tk) (hL : L.length ≤ 6000) : Enough L (4 * L.length + 2) :=
  ⟨by omega, fun l d i => ex_some L _ 0 l d i _ _ (by simp only [needX]; omega)⟩
end
section
open Go.RowKit Go.Shelf

/-- Behind all stars. -/
def starT (L : List Tk) : Nat → Nat → Nat
  | 0, i => i
  | f + 1, i => if wordT L i = [42] then starT L f (i + 1) else i
theorem star_end {L : List Tk} {g j : Nat} (h : wordT L j ≠ [42]) : starT L g j = j := by
  cases g with
  | zero => rfl
  | succ g => rw [starT, if_neg h]
theorem star_le (L : List Tk) : ∀ g j, j ≤ starT L g j
  | 0, j => Nat.le_refl _
  | g + 1, j => by
    rw [starT]
    split
    · have := star_le L g (j + 1); omega
    · exact Nat.le_refl _
/-- A name is made in the innermost surroundings. -/
def declE (env : Env0) (x : List UInt8) (a : Int) : Env0 := env.dropLast ++ [updG (env.getLast?.getD (fun _ => 0)) x a]
/-- What a declarator tells, or throws: its node's row has no room to spare. -/
def DcPost (base r : Nat) (la : Option Addr) (lc : Nat) (L : List Tk) (env : Env0) (d : Nat) (R : Got (Nd × Nat × Env0)) (w : World) (e : Ending) (w' : World) : Prop := match R with
  | .ok (n, j, env') => ∃ x, e = .returned (aggN x) ∧ x.n = x.c ∧ NdIs w' (w.heap.size ≤ ·) x n ∧ RdAt w' base r la lc L j env' d ∧ FrT base r w w'
  | .error x => e = thrownT x.1 (placeT L x.2) ∧ (∃ env', env'.length = env.length ∧ RdP w' base r la lc L env' d) ∧ FrT base r w w'
/-- A declarator. -/
def dclT (L : List Tk) (F : Nat) (a : Int) (d : Nat) (env : Env0) (i : Nat) : Got (Nd × Nat × Env0) :=
  if nameT L (starT L L.length i) = true then
    if wordT L (starT L L.length i + 1) = [91] then match rdX L F 1 d (starT L L.length i + 2) with
      | .error x => .error x
      | .ok (m, k) => if wordT L k = [93] then .ok (.mk 4 (starT L L.length i : Int) [m], k + 1, declE env (wordT L (starT L L.length i)) a) else .error (2, k)
    else .ok (.mk 4 (starT L L.length i : Int) [], starT L L.length i + 1, declE env (wordT L (starT L L.length i)) a)
  else .error (2, starT L L.length i)

theorem KidsAt.frt {w w' : World} {base r : Nat} {P : Nat → Prop} {v : Value} {ks : List Nd} (h : KidsAt w P v ks) (hf : FrT base r w w') (hP : ∀ b, P b → b ≠ r) : KidsAt w' P v ks := by
  induction h with
  | mk v nvs ks hr hp hl hk hs ih =>
    refine .mk v nvs ks ⟨hr.1, ?_⟩ hp hl hk ih
    rcases hr.2 with h | ⟨g, cap, cur, hv, hg, hh, q⟩
    · exact .inl h
    · exact .inr ⟨g, cap, cur, hv, hg, (hf.cells g cur _ _ hh (by decide) (hP g (hp g (by rw [hv]; rfl)))).trans hh, q⟩
theorem NdIs.frt {w w' : World} {base r : Nat} {P : Nat → Prop} {x : Nv} {n : Nd} (h : NdIs w P x n) (hf : FrT base r w w') (hP : ∀ b, P b → b ≠ r) : NdIs w' P x n := ⟨h.kind, h.tok, h.kids.frt hf hP⟩
theorem boxN_frt {w w' : World} {base r b : Nat} {x : Nv} (h : w.heap[b]? = some (boxN x)) (hf : FrT base r w w') (hb : b ≠ r) : w'.heap[b]? = some (boxN x) := (hf.cells b _ _ _ h (by decide) hb).trans h
theorem name_word {L : List Tk} {j : Nat} (h : nameT L j = true) (hj : j < L.length) : wordT L j = L[j].text.data.toList := by
  unfold nameT at h
  unfold wordT
  rw [List.getElem?_eq_getElem hj] at h ⊢
  simp at h
  dsimp only
  rw [if_pos (.inl h.1)]
theorem decl_snoc (e0 : Env0) (g : List UInt8 → Int) (x : List UInt8) (a : Int) : declE (e0 ++ [g]) x a = e0 ++ [updG g x a] := by
  unfold declE
  simp

set_option maxRecDepth 100000 in
set_option maxHeartbeats 2000000 in
theorem declarator_any {base r : Nat} {la : Option Addr} {lc : Nat} {L : List Tk} {i : Nat} {env : Env0} {d F : Nat} (hs : Short L) (hE : Enough L F) (a : Int) (ha : a = 1 ∨ a = 2) (hne : env ≠ []) (hl : env.length ≤ 1000) (w : World) (h : RdAt w base r la lc L i env d) :
    Calls Try.prog 31 #[.pointer (some ⟨r, 0, none⟩), .int .i64 a] w (DcPost base r la lc L env d (dclT L F a d env i) w) := by
  have hbs := h.size
  obtain ⟨lo, hbr, vn, ms, hc, hn⟩ := h
  have HZ := hid (begin_at hc)
  have hb0 := below_new w (boxN zeroN)
  have HN0 := hid (hn.below hb0)
  have HC0 := hid (hc.below hb0)
  obtain ⟨S, hS⟩ : ∃ S, starT L L.length i = S := ⟨_, rfl⟩
  have hSi : i ≤ S := by rw [← hS]; exact star_le _ _ _
  obtain ⟨R, hR⟩ : ∃ R, dclT L F a d env i = R := ⟨_, rfl⟩
  rw [hR]
  unfold dclT at hR
  rw [hS] at hR
  dsimp only [boxN, zeroN] at HZ HN0 HC0
  clear hc hn hb0
  unfold DcPost
  go_enter Try.func31, Try.ntmps31
  go_wp2_with fail
  generalize w.alloc (.cells #[.int .i64 0, .int .i64 0, .slice none 0 0] 27) = w0 at *
  go_loopg [] (L.length + 1) (fun g wr => ∃ j, starT L (g - 1) j = S ∧ L.length - j + 1 ≤ g ∧ Hid (CrAt wr r la lc L j vn d ∧ Kept (· = r) w0 wr))
  case atStart => exact ⟨i, hS, by omega, HC0.out, Kept.refl _ _⟩
  case round =>
    obtain ⟨j, hj, hgj, hst⟩ := hrel
    have HS := hid (skip_any ⟨#[42]⟩ (by decide) wr hst.out.1)
    unfold SkipPost at HS
    rw [show (⟨#[42]⟩ : ByteArray).data.toList = [42] from rfl] at HS
    by_cases hq : wordT L j = [42]
    · simp only [if_pos hq] at HS
      have hjl := word_lt hq (by decide)
      obtain ⟨g, rfl⟩ : ∃ g, gk = g + 2 := ⟨gk - 2, by omega⟩
      rw [show g + 2 - 1 = g + 1 by omega, starT, if_pos hq] at hj
      go_wp2_with (go_at_call 36; refine HS.out.mono ?_; rintro e w1 ⟨rfl, hc1, hk1, _⟩; have HQ1 := hid (And.intro hc1 (hst.out.2.trans hk1)); clear hc1 hk1)
      go_roundg (g + 1)
      case rel => exact ⟨j + 1, by simpa using hj, by omega, HQ1.out⟩
      case measure => omega
    · simp only [if_neg hq] at HS
      rw [star_end hq] at hj
      subst hj
      have HC := hid hst.out.1
      have HK := hid hst.out.2
      have HNm := hid (HN0.out.kept HC0.out.box hst.out.2)
      have HR0 : Hid (wr.heap[w.heap.size]? = some (boxN zeroN)) := (hst.out.2.block _ (lt_of_block HZ.out.2.2.2.1) (by have := HZ.out.1; omega)).trans HZ.out.2.2.2.1
      clear hst
      have HNn := hid (quiet_at fun n => nameNext_any _ (HC.out.draws n))
      have HBd := hid (fun n => dN_below (Below.refl wr.heap.size wr) n)
      have hr0 := HZ.out.1
      have hzr := lt_of_block HR0.out
      rcases hnb : nameT L j with _ | _
      · rw [hnb] at hR HNn
        rw [if_neg (by decide)] at hR
        subst hR
        have HF := hid (fun n => fail_any 2 _ (HC.out.draws n))
        rw [thrown_chain] at HF
        go_wp2_with (first | (go_at_call 36; refine HS.out.mono ?_; rintro e w1 ⟨rfl, n1, rfl⟩) | (go_at_call 40; refine (HNn.out _ ⟨_, rfl⟩).mono ?_; rintro e w1 ⟨rfl, n2, rfl⟩) | (go_at_call 38; refine (HF.out _).mono ?_; rintro e w3 ⟨rfl, hb3⟩))
        have hb4 := (HBd.out n2).trans (hb3.mono (HBd.out n2).size)
        exact ⟨rfl, rfl, ⟨env, rfl, lo, hbr, j, vn, ms, i, HC.out.below hb4, HNm.out.below hb4⟩, FrT.of_kept ((HZ.out.2.2.2.2.trans HK.out).trans (kept_of_below hb4)) hbr hbs⟩
      · rw [hnb] at hR HNn
        rw [if_pos rfl] at hR
        have hjl : j < L.length := by
          by_cases hjl : j < L.length
          · exact hjl
          · rw [show nameT L j = false by unfold nameT; rw [List.getElem?_eq_none (by omega)]] at hnb
            cases hnb
        have HTk := hid (fun n => take_any 4 _ (HC.out.draws n) hjl)
        unfold aggN at HTk
        dsimp only at HTk
        go_wp2_with (first | (go_at_call 36; refine HS.out.mono ?_; rintro e w1 ⟨rfl, n1, rfl⟩) | (go_at_call 40; refine (HNn.out _ ⟨_, rfl⟩).mono ?_; rintro e w1 ⟨rfl, n2, rfl⟩))
        refine (HTk.out _).mono ?_
        rintro e w3 ⟨rfl, hc3, hk3⟩
        have hk3' := (kept_of_below (X := (· = r)) (HBd.out n2)).trans hk3
        have hb34 := below_new w3 (boxN ⟨4, j, none, 0, 0⟩)
        have HC4 := hid (hc3.below hb34)
        have HK4 := hid (((HZ.out.2.2.2.2.trans HK.out).trans hk3').trans (kept_of_below hb34))
        have HN4 := hid ((HNm.out.kept HC.out.box hk3').below hb34)
        have hR3 := (hk3'.block _ hzr (by omega)).trans HR0.out
        have HR4 := hid ((hb34.block _ (lt_of_block hR3)).trans hR3)
        have HB4 := hid (heap_alloc_new w3 (boxN ⟨4, j, none, 0, 0⟩))
        have hz3 := lt_of_block hR3
        have hz4 : (w3.alloc (boxN ⟨4, j, none, 0, 0⟩)).heap.size = w3.heap.size + 1 := by simp
        dsimp only [boxN] at HC4 HK4 HN4 HR4 HB4 hz4
        clear hc3 hk3 hk3' hb34 hR3 HTk HNn HS HC HK HNm HR0 HBd HN0 HC0
        go_wp2_with fail
        generalize w3.alloc (.cells #[.int .i64 4, .int .i64 (j : Int), .slice none 0 0] 27) = w4 at *
        have HS2 := hid (skip_any ⟨#[91]⟩ (by decide) _ HC4.out)
        unfold SkipPost at HS2
        rw [show (⟨#[91]⟩ : ByteArray).data.toList = [91] from rfl] at HS2
        by_cases hq2 : wordT L (j + 1) = [91]
        · rw [if_pos hq2] at hR
          simp only [if_pos hq2] at HS2
          refine HS2.out.mono ?_
          rintro e w5 ⟨rfl, hc5, hk5, _⟩
          have HC5 := hid hc5
          have HK5 := hid (HK4.out.trans hk5)
          have HN5 := hid (HN4.out.kept HC4.out.box hk5)
          have HB5 := hid ((hk5.block _ (lt_of_block HB4.out) (by omega)).trans HB4.out)
          have HR5 := hid ((hk5.block _ (lt_of_block HR4.out) (by omega)).trans HR4.out)
          have hz5 := hk5.size
          have HEx := hid (fun R' hR' => expression_step (ex_all F hE.1 F (Nat.le_refl _)).1 d (j + 2) (.mk 0 0 []) [] R' hR' w5 HC5.out)
          clear hc5 hk5 HC4 HK4 HN4 HB4 HR4 HS2
          unfold rdX at hR
          cases hex : exF L F 0 1 d (j + 2) (.mk 0 0 []) [] with
          | none => exact absurd hex (hE.2 _ _ _)
          | some R1 =>
            rw [hex] at hR
            have HE1 := hid (HEx.out R1 hex)
            have hle := fun n' ks' k => ex_le L F 0 1 d (j + 2) (.mk 0 0 []) [] n' ks' k
            rw [hex] at hle
            unfold ExPost at HE1
            clear HEx
            cases R1 with
            | error y =>
              dsimp only at hR HE1
              subst hR
              rw [thrown_chain] at HE1
              go_wp2_with fail
              refine HE1.out.mono ?_
              rintro e w6 ⟨rfl, ⟨i', hc6⟩, hk6⟩
              exact ⟨rfl, rfl, ⟨env, rfl, lo, hbr, i', vn, ms, i, hc6, HN5.out.kept HC5.out.box hk6⟩, FrT.of_kept (HK5.out.trans hk6) hbr hbs⟩
            | ok y =>
              obtain ⟨m6, ks6, j6⟩ := y
              dsimp only at hR HE1
              have hj6 := hle m6 ks6 j6 rfl
              unfold aggN at HE1
              go_wp2_with fail
              refine HE1.out.mono ?_
              rintro e w6 ⟨x6, rfl, hx6, hc6, hk6⟩
              have hb67 := below_new w6 (boxN x6)
              have hz6 := hk6.size
              have hB6 := (hk6.block _ (lt_of_block HB5.out) (by omega)).trans HB5.out
              have hR6 := (hk6.block _ (lt_of_block HR5.out) (by omega)).trans HR5.out
              have hB7 := (hb67.block _ (lt_of_block hB6)).trans hB6
              have hR7 := (hb67.block _ (lt_of_block hR6)).trans hR6
              have hK7 : KidsAt (w6.alloc (boxN x6)) (fun b => w.heap.size < b ∧ b ≠ w3.heap.size) (.slice (some ⟨w6.heap.size, 0, none⟩) 1 1) [m6] :=
                kids_new (P := fun b => w.heap.size < b ∧ b ≠ w3.heap.size) (NdsIs.one (hx6.mono fun b hb _ => ⟨by omega, by omega⟩)) (by simp) (fun b hb _ => hb) ⟨by omega, by omega⟩
              have HB8 := hid (Go.Joins.block_setCell (i := 2) hB7 (.slice (some ⟨w6.heap.size, 0, none⟩) 1 1))
              have hso : ∀ b, b ≠ w3.heap.size → ((w6.alloc (boxN x6)).setCell ⟨w3.heap.size, 2, none⟩ (.slice (some ⟨w6.heap.size, 0, none⟩) 1 1)).heap[b]? = (w6.alloc (boxN x6)).heap[b]? := fun b hb => Below.heap_setCell _ _ _ _ hb
              have HR8 := hid ((hso w.heap.size (by omega)).trans hR7)
              have HX8 : Hid (NdIs ((w6.alloc (boxN x6)).setCell ⟨w3.heap.size, 2, none⟩ (.slice (some ⟨w6.heap.size, 0, none⟩) 1 1)) (fun b => w.heap.size < b ∧ b ≠ w3.heap.size) ⟨4, j, some ⟨w6.heap.size, 0, none⟩, 1, 1⟩ (.mk 4 (j : Int) [m6])) := ⟨rfl, rfl, hK7.kept fun b hb _ => hso b hb.2⟩
              have HC8 := hid ((hc6.below hb67).other (w' := (w6.alloc (boxN x6)).setCell ⟨w3.heap.size, 2, none⟩ (.slice (some ⟨w6.heap.size, 0, none⟩) 1 1)) (B := w.heap.size) hr0 HZ.out.2.1 (by simp) fun b hb => hso b (by omega))
              have HK8 : Hid (Kept (· = r) w ((w6.alloc (boxN x6)).setCell ⟨w3.heap.size, 2, none⟩ (.slice (some ⟨w6.heap.size, 0, none⟩) 1 1))) := Kept.setFar ((HK5.out.trans hk6).trans (kept_of_below hb67)) (by show w.heap.size ≤ w3.heap.size; omega) _
              have HN8 : Hid (NmIs ((w6.alloc (boxN x6)).setCell ⟨w3.heap.size, 2, none⟩ (.slice (some ⟨w6.heap.size, 0, none⟩) 1 1)) base vn ms env i) := by
                refine ((HN5.out.kept HC5.out.box hk6).below hb67).same (fun b c hb _ => hso b fun e => ?_) (fun b es cl hb _ => hso b fun e => ?_)
                · subst e
                  rw [hB7] at hb
                  injection hb with hb
                  injection hb with _ hb
                  revert hb
                  decide
                · subst e
                  rw [hB7] at hb
                  cases hb
              obtain ⟨⟨s0, s1, s2⟩, f0, f1, f2⟩ := boxN_facts (x := ⟨4, j, none, 0, 0⟩) hB7
              dsimp only [boxN] at HB8 HR8 HX8 HC8 HK8 HN8 s0 s1 s2 f0 f1 f2
              clear hx6 hc6 hk6 hb67 hB6 hR6 hB7 hR7 hK7 hso HB5 HR5 HC5 HK5 HN5 HE1
              go_wp2_with fail
              generalize (w6.alloc (.cells #[.int .i64 x6.kind, .int .i64 x6.tok, .slice x6.a x6.n x6.c] 27)).setCell ⟨w3.heap.size, 2, none⟩ (.slice (some ⟨w6.heap.size, 0, none⟩) 1 1) = w8 at *
              clear s0 s1 s2 f0 f1 f2
              have HM := hid (must_any ⟨#[93]⟩ (by decide) _ HC8.out)
              unfold MustPost at HM
              rw [show (⟨#[93]⟩ : ByteArray).data.toList = [93] from rfl] at HM
              by_cases hq3 : wordT L j6 = [93]
              · rw [if_pos hq3] at hR
                simp only [if_pos hq3] at HM
                refine HM.out.mono ?_
                rintro e wt ⟨rfl, hct, hkt, _⟩
                have HCt := hid hct
                have HNt := hid (HN8.out.kept HC8.out.box hkt)
                have HBt : Hid (wt.heap[w3.heap.size]? = some (boxN ⟨4, j, some ⟨w6.heap.size, 0, none⟩, 1, 1⟩)) := (hkt.block _ (lt_of_block HB8.out) (by omega)).trans HB8.out
                have HRt := hid ((hkt.block _ (lt_of_block HR8.out) (by omega)).trans HR8.out)
                have HFt := hid (FrT.of_kept (HK8.out.trans hkt) hbr hbs)
                have HXt := hid (HX8.out.kept fun b hb hlt => hkt.block b hlt (by omega))
                clear hct hkt HC8 HN8 HB8 HR8 HK8 HX8 HM
                go_wp2_with fail
                have HCf := hid HCt.out.facts.1
                obtain ⟨b0, b1, b2, b3⟩ := HCf.out
                obtain ⟨tb, off, rfl, htb, htr, htc⟩ := HCt.out.at j hjl
                have t1 := htc 1 _ rfl
                obtain ⟨⟨s0, s1, s2⟩, _⟩ := boxN_facts (x := ⟨4, j, some ⟨w6.heap.size, 0, none⟩, 1, 1⟩) HBt.out
                have hsz : L[j].text.size ≤ 3000 := hs _ (List.getElem_mem hjl)
                have hww := name_word hnb hjl
                obtain ⟨av, cv, rfl⟩ := row_val HNt.out.row
                obtain ⟨e0, g0, rfl⟩ : ∃ e0 g0, env = e0 ++ [g0] := by
                  rcases List.eq_nil_or_concat env with e | ⟨e0, g0, e⟩
                  · exact absurd e hne
                  · exact ⟨e0, g0, by simpa using e⟩
                have hdl := decl_snoc e0 g0 L[j].text.data.toList a
                have HDc := hid (fun W (hb : Below wt.heap.size wt W) => declare_any L[j].text a W (HCt.out.below hb) (HNt.out.below hb) lo hbr (by omega) ha (by have := HCt.out.few; omega) (by simp at hl; omega))
                rw [hww, hdl] at hR
                subst hR
                have hjn : (j : Int) < (L.length : Int) := by omega
                have hj0 : (0 : Int) ≤ (j : Int) := by omega
                have zz0 := Later.cell b0
                have zz2 := Later.cell b2
                have zz1 := Later.cell s1
                have zzt := Later.cell t1
                have hnn : Nonempty (Later wt) := ⟨⟨_, Below.refl _ _⟩⟩
                clear b0 b1 b2 b3 t1 s0 s1 s2 htc
                refine region_later_tail 15 (by kernel_rfl) (by kernel_rfl) ?_
                simp only [List.take_succ_cons, List.take_zero, List.drop_succ_cons, List.drop_zero]
                repeat (quiet_step (fail))
                refine wpQuiet_nil ?_
                intro pp
                have HDp := hid (HDc.out pp.W pp.hb)
                have HFp := hid (HFt.out.trans (FrT.of_below pp.hb (Nat.le_trans hbs HFt.out.low.size)))
                have HBp := hid ((pp.hb.block _ (lt_of_block HBt.out)).trans HBt.out)
                have HRp := hid ((pp.hb.block _ (lt_of_block HRt.out)).trans HRt.out)
                have HXp := hid (HXt.out.kept fun b _ hlt => pp.hb.block b hlt)
                generalize pp.W = wp at HDp HFp HBp HRp HXp ⊢
                clear zz0 zz1 zz2 zzt hnn HDc pp
                go_wp2_with fail
                refine HDp.out.mono ?_
                rintro e w9 ⟨rfl, hc6, ⟨ms6, hn6⟩, hf6⟩
                have hB6 := boxN_frt (x := ⟨4, j, some ⟨w6.heap.size, 0, none⟩, 1, 1⟩) HBp.out hf6 (by omega)
                have hR6 := boxN_frt (x := zeroN) HRp.out hf6 (by omega)
                have HG := hid (give_st (u := zeroN) (w := w) (W := w9) (x := ⟨4, j, some ⟨w6.heap.size, 0, none⟩, 1, 1⟩) (n := .mk 4 (j : Int) [m6]) (P := fun b => w.heap.size < b ∧ b ≠ w3.heap.size) hr0 hbs hR6 (HXp.out.frt hf6 fun b hb => by omega) (fun b hb => by omega) ⟨lo, hbr, _, _, hc6, hn6.mono (by omega)⟩ (HFp.out.trans hf6) (Q := fun b => w.heap.size ≤ b) (fun b hb => Nat.le_of_lt hb.1))
                obtain ⟨⟨x0, x1, x2⟩, _⟩ := boxN_facts hB6
                obtain ⟨⟨y0, y1, y2⟩, z0, z1, z2⟩ := boxN_facts (x := zeroN) hR6
                dsimp only [zeroN] at x0 x1 x2 y0 y1 y2
                unfold putN at HG
                dsimp only at HG
                clear hc6 hn6 hf6 hB6 hR6
                go_wp2_with fail
                exact bodyPost_ret (node_ret Try.results31 (x := ⟨4, j, some ⟨w6.heap.size, 0, none⟩, 1, 1⟩) HG.out.1 _ rfl) rfl ⟨_, rfl, rfl, HG.out.2⟩
              · rw [if_neg hq3] at hR
                simp only [if_neg hq3] at HM
                subst hR
                rw [thrown_chain] at HM
                refine HM.out.mono ?_
                rintro e wt ⟨rfl, hbt⟩
                exact ⟨rfl, rfl, ⟨env, rfl, lo, hbr, j6, vn, ms, i, HC8.out.below hbt, HN8.out.below hbt⟩, FrT.of_kept (HK8.out.trans (kept_of_below hbt)) hbr hbs⟩
        · rw [if_neg hq2] at hR
          simp only [if_neg hq2] at HS2
          refine HS2.out.mono ?_
          rintro e w5 ⟨rfl, n5, rfl⟩
          have hbd := dN_below (Below.refl w4.heap.size w4) n5
          have HCt := hid (HC4.out.below hbd)
          have HNt := hid (HN4.out.below hbd)
          have HBt := hid ((dN_heap w4 w3.heap.size n5).trans HB4.out)
          have HRt := hid ((dN_heap w4 w.heap.size n5).trans HR4.out)
          have HFt := hid (FrT.of_kept (HK4.out.trans (kept_of_below hbd)) hbr hbs)
          have HXt : Hid (NdIs (w4.drewN n5) (fun b => w.heap.size < b ∧ b ≠ w3.heap.size) ⟨4, j, none, 0, 0⟩ (.mk 4 (j : Int) [])) := ⟨rfl, rfl, KidsAt.nil⟩
          clear hbd HC4 HN4 HB4 HR4 HK4 HS2
          go_wp2_with fail
          generalize w4.drewN n5 = wt at *
          have HCf := hid HCt.out.facts.1
          obtain ⟨b0, b1, b2, b3⟩ := HCf.out
          obtain ⟨tb, off, rfl, htb, htr, htc⟩ := HCt.out.at j hjl
          have t1 := htc 1 _ rfl
          obtain ⟨⟨s0, s1, s2⟩, _⟩ := boxN_facts (x := ⟨4, j, none, 0, 0⟩) HBt.out
          have hsz : L[j].text.size ≤ 3000 := hs _ (List.getElem_mem hjl)
          have hww := name_word hnb hjl
          obtain ⟨av, cv, rfl⟩ := row_val HNt.out.row
          obtain ⟨e0, g0, rfl⟩ : ∃ e0 g0, env = e0 ++ [g0] := by
            rcases List.eq_nil_or_concat env with e | ⟨e0, g0, e⟩
            · exact absurd e hne
            · exact ⟨e0, g0, by simpa using e⟩
          have hdl := decl_snoc e0 g0 L[j].text.data.toList a
          have HDc := hid (fun W (hb : Below wt.heap.size wt W) => declare_any L[j].text a W (HCt.out.below hb) (HNt.out.below hb) lo hbr (by omega) ha (by have := HCt.out.few; omega) (by simp at hl; omega))
          rw [hww, hdl] at hR
          subst hR
          have hjn : (j : Int) < (L.length : Int) := by omega
          have hj0 : (0 : Int) ≤ (j : Int) := by omega
          have zz0 := Later.cell b0
          have zz2 := Later.cell b2
          have zz1 := Later.cell s1
          have zzt := Later.cell t1
          have hnn : Nonempty (Later wt) := ⟨⟨_, Below.refl _ _⟩⟩
          clear b0 b1 b2 b3 t1 s0 s1 s2 htc
          refine region_later_tail 15 (by kernel_rfl) (by kernel_rfl) ?_
          simp only [List.take_succ_cons, List.take_zero, List.drop_succ_cons, List.drop_zero]
          repeat (quiet_step (fail))
          refine wpQuiet_nil ?_
          intro pp
          have HDp := hid (HDc.out pp.W pp.hb)
          have HFp := hid (HFt.out.trans (FrT.of_below pp.hb (Nat.le_trans hbs HFt.out.low.size)))
          have HBp := hid ((pp.hb.block _ (lt_of_block HBt.out)).trans HBt.out)
          have HRp := hid ((pp.hb.block _ (lt_of_block HRt.out)).trans HRt.out)
          have HXp := hid (HXt.out.kept fun b _ hlt => pp.hb.block b hlt)
          generalize pp.W = wp at HDp HFp HBp HRp HXp ⊢
          clear zz0 zz1 zz2 zzt hnn HDc pp
          go_wp2_with fail
          refine HDp.out.mono ?_
          rintro e w6 ⟨rfl, hc6, ⟨ms6, hn6⟩, hf6⟩
          have hB6 := boxN_frt (x := ⟨4, j, none, 0, 0⟩) HBp.out hf6 (by omega)
          have hR6 := boxN_frt (x := zeroN) HRp.out hf6 (by omega)
          have HG := hid (give_st (u := zeroN) (w := w) (W := w6) (x := ⟨4, j, none, 0, 0⟩) (n := .mk 4 (j : Int) []) (P := fun b => w.heap.size < b ∧ b ≠ w3.heap.size) hr0 hbs hR6 (HXp.out.frt hf6 fun b hb => by omega) (fun b hb => by omega) ⟨lo, hbr, _, _, hc6, hn6.mono (by omega)⟩ (HFp.out.trans hf6) (Q := fun b => w.heap.size ≤ b) (fun b hb => Nat.le_of_lt hb.1))
          obtain ⟨⟨x0, x1, x2⟩, _⟩ := boxN_facts hB6
          obtain ⟨⟨y0, y1, y2⟩, z0, z1, z2⟩ := boxN_facts (x := zeroN) hR6
          dsimp only [zeroN] at x0 x1 x2 y0 y1 y2
          unfold putN at HG
          dsimp only at HG
          clear hc6 hn6 hf6 hB6 hR6
          go_wp2_with fail
          exact bodyPost_ret (node_ret Try.results31 (x := ⟨4, j, none, 0, 0⟩) HG.out.1 _ rfl) rfl ⟨_, rfl, rfl, HG.out.2⟩
end
section
open Go.RowKit Go.Shelf

/-- What a thing is at first. -/
def strT (L : List Tk) (F : Nat) (a : Int) (d : Nat) (env : Env0) (n : Nd) (i : Nat) : Got (Nd × Nat × Env0) :=
  if a = 1 ∧ wordT L i = [61] then match rdX L F 2 d (i + 1) with
    | .error x => .error x
    | .ok (m, k) => .ok (.mk n.kind n.tok (n.kids ++ [m]), k, env)
  else .ok (n, i, env)
/-- What is read behind something else, or thrown. -/
def StPostQ (Q : Nat → Prop) (base r : Nat) (la : Option Addr) (lc : Nat) (L : List Tk) (env : Env0) (d : Nat) (R : Got (Nd × Nat × Env0)) (w : World) (e : Ending) (w' : World) : Prop := match R with
  | .ok (n, j, env') => ∃ x, e = .returned (aggN x) ∧ NdIs w' Q x n ∧ RdAt w' base r la lc L j env' d ∧ FrT base r w w'
  | .error x => e = thrownT x.1 (placeT L x.2) ∧ (∃ env', env'.length = env.length ∧ RdP w' base r la lc L env' d) ∧ FrT base r w w'

/-- What is laid into a block is what comes back. -/
theorem give_stB {base r : Nat} {la : Option Addr} {lc : Nat} {L : List Tk} {env : Env0} {d B : Nat} {w W : World} {x u : Nv} {n : Nd} {j : Nat} {P Q : Nat → Prop} (hrw : r < w.heap.size) (hbs : base ≤ w.heap.size) (hB : w.heap.size ≤ B) (hz : W.heap[B]? = some (boxN u)) (hx : NdIs W P x n) (hP : ∀ b, P b → b ≠ B) (hR : RdAt W base r la lc L j env d) (hF : FrT base r w W) (hQ : ∀ b, P b → Q b) :
    (putN W B x).heap[B]? = some (boxN x) ∧ NdIs (putN W B x) Q x n ∧ RdAt (putN W B x) base r la lc L j env d ∧ FrT base r w (putN W B x) := by
  obtain ⟨lo, hbr, vn, ms, hc, hn⟩ := hR
  refine ⟨putN_block x hz, (hx.kept fun b hb _ => putN_other _ _ _ _ (hP b hb)).mono fun b hb _ => hQ b hb, ⟨lo, hbr, vn, ms, hc.other (B := w.heap.size) hrw (fun b off e hL => Nat.lt_of_lt_of_le (lo b off e hL) hbs) (by rw [putN_size]; exact Nat.le_refl _) fun b hb => putN_other _ _ _ _ (by omega), hn.put hz x⟩, ⟨?_, fun b c T fz hb hT hne => ?_⟩⟩
  · have := hF.low
    exact ⟨this.os, this.tape, this.output, by rw [putN_size]; exact this.size, fun b hb => (putN_other _ _ _ _ (by omega)).trans (this.block b hb)⟩
  · exact (putN_other _ _ _ _ (by have := lt_of_block hb; omega)).trans (hF.cells b c T fz hb hT hne)

/-- A row has grown by one, and is laid into its node. -/
theorem start_put {base r : Nat} {la : Option Addr} {lc : Nat} {L : List Tk} {env : Env0} {d i j : Nat} {P : Nat → Prop} {w w6 w7 : World} {vn : Value} {ms : List (Option Nat)} {x x5 : Nv} {n m5 : Nd} {v' : Value} {nvs : List Nv}
    (lo : ∀ b off, la = some ⟨b, off, none⟩ → L ≠ [] → b < base) (hbr : base ≤ r) (hrw : r < w.heap.size) (hbs : base ≤ w.heap.size)
    (hB : w6.heap[w.heap.size]? = some (boxN x)) (hR : w6.heap[w.heap.size + 1]? = some (boxN zeroN)) (hX : NdIs w6 (fun b => P b ∧ b < w.heap.size) x n) (hnds : NdsIs w6 (fun b => P b ∧ b < w.heap.size) nvs n.kids) (hY : NdIs w6 (fun b => w.heap.size + 1 < b) x5 m5)
    (hc : CrAt w6 r la lc L j vn d) (hn : NmIs w6 base vn ms env i) (hij : i ≤ j) (hk : Kept (· = r) w w6) (hl : nvs.length = x.n)
    (hown : w7.ownsRow w6.heap.size 27 3 v' (x.n + 1) (cellsN nvs ++ cellsN [x5])) (hg : w6.grownBy w7 none) :
    ∃ a c, v' = .slice a (x.n + 1) c ∧ w7.heap[w.heap.size]? = some (boxN x) ∧ (w7.setCell ⟨w.heap.size, 2, none⟩ v').heap[w.heap.size]? = some (boxN ⟨x.kind, x.tok, a, x.n + 1, c⟩) ∧ (w7.setCell ⟨w.heap.size, 2, none⟩ v').heap[w.heap.size + 1]? = some (boxN zeroN) ∧
      NdIs (w7.setCell ⟨w.heap.size, 2, none⟩ v') (fun b => (P b ∨ w.heap.size ≤ b) ∧ b ≠ w.heap.size ∧ b ≠ w.heap.size + 1) ⟨x.kind, x.tok, a, x.n + 1, c⟩ (.mk n.kind n.tok (n.kids ++ [m5])) ∧ RdAt (w7.setCell ⟨w.heap.size, 2, none⟩ v') base r la lc L j env d ∧ FrT base r w (w7.setCell ⟨w.heap.size, 2, none⟩ v') := by
  obtain ⟨a, c, rfl⟩ := row_val hown
  have hb67 : Below w6.heap.size w6 w7 := ⟨hg.os, hg.tape, hg.output, hg.size, fun b hb => hg.block b hb (by simp)⟩
  have hz := lt_of_block hR
  have hB7 := (hb67.block _ (lt_of_block hB)).trans hB
  have hR7 := (hb67.block _ (lt_of_block hR)).trans hR
  have hbs7 := Go.Joins.block_setCell (i := 2) hB7 (.slice a (x.n + 1) c)
  have hso : ∀ b, b ≠ w.heap.size → (w7.setCell ⟨w.heap.size, 2, none⟩ (.slice a (x.n + 1) c)).heap[b]? = w7.heap[b]? := fun b hb => Below.heap_setCell _ _ _ _ hb
  have hk7 : Kept (· = r) w (w7.setCell ⟨w.heap.size, 2, none⟩ (.slice a (x.n + 1) c)) := Kept.setFar (hk.trans (kept_of_below hb67)) (Nat.le_refl _) _
  refine ⟨a, c, rfl, hB7, hbs7.trans rfl, ?_, ⟨hX.kind, hX.tok, ?_⟩, ⟨lo, hbr, vn, ms, ?_, ?_⟩, FrT.of_kept hk7 hbr hbs⟩
  · rw [hso _ (by omega)]; exact hR7
  · have h1 : NdsIs w6 (fun b => ((P b ∨ w.heap.size ≤ b) ∧ b ≠ w.heap.size ∧ b ≠ w.heap.size + 1)) (nvs ++ [x5]) (n.kids ++ [m5]) :=
      (hnds.mono fun b hb _ => ⟨.inl hb.1, by omega, by omega⟩).snoc (hY.mono fun b hb _ => by have hb' : w.heap.size + 1 < b := hb; exact ⟨.inr (by omega), by omega, by omega⟩)
    have h2 := h1.kept (w' := w7) fun b _ hlt => hb67.block b hlt
    have hown' : w7.ownsRow w6.heap.size 27 3 (.slice a (x.n + 1) c) (nvs ++ [x5]).length (cellsN (nvs ++ [x5])) := by
      rw [List.length_append, hl, cellsN_append]
      exact hown
    refine (KidsAt.of_row hown' h2 fun b e => ?_).kept fun b hb _ => hso b hb.2.1
    have := (hown.lt b e).1
    exact ⟨.inr (by omega), by omega, by omega⟩
  · exact (hc.below hb67).other (B := w.heap.size) hrw (fun b off e hL => Nat.lt_of_lt_of_le (lo b off e hL) hbs) (by simp) fun b hb => hso b (by omega)
  · refine ((hn.below hb67).mono hij).same (fun b c hb _ => hso b fun e => ?_) (fun b es cl hb _ => hso b fun e => ?_)
    · subst e
      rw [hB7] at hb
      injection hb with hb
      injection hb with _ hb
      revert hb
      decide
    · subst e
      rw [hB7] at hb
      cases hb

set_option maxRecDepth 100000 in
set_option maxHeartbeats 2000000 in
theorem started_any {base r : Nat} {la : Option Addr} {lc : Nat} {L : List Tk} {i : Nat} {env : Env0} {d F : Nat} (hE : Enough L F) (a : Int) (x : Nv) (n : Nd) (P : Nat → Prop) (hxc : x.n = x.c) (hxl : x.n ≤ 1000) (w : World) (h : RdAt w base r la lc L i env d) (hx : NdIs w P x n) (hP : ∀ b, P b → b ≠ r) :
    Calls Try.prog 48 #[.pointer (some ⟨r, 0, none⟩), .int .i64 a, aggN x] w (StPostQ (fun b => P b ∨ w.heap.size ≤ b) base r la lc L env d (strT L F a d env n i) w) := by
  have hbs := h.size
  have HRw := hid h
  have HXw := hid hx
  obtain ⟨lo, hbr, vn, ms, hc, hn⟩ := h
  have HZ := hid (begin_at hc)
  have hb0 : Below w.heap.size w ((w.alloc (boxN x)).alloc (boxN zeroN)) := ((Below.refl _ w).alloc (Nat.le_refl _) _).alloc (by simp) _
  have HC := hid (hc.below hb0)
  have HN := hid (hn.below hb0)
  have HK : Hid (Kept (· = r) w ((w.alloc (boxN x)).alloc (boxN zeroN))) := kept_of_below hb0
  have HB : Hid (((w.alloc (boxN x)).alloc (boxN zeroN)).heap[w.heap.size]? = some (boxN x)) := ((below_new (w.alloc (boxN x)) (boxN zeroN)).block _ (by simp)).trans (heap_alloc_new _ _)
  have HR : Hid (((w.alloc (boxN x)).alloc (boxN zeroN)).heap[w.heap.size + 1]? = some (boxN zeroN)) := by
    have := heap_alloc_new (w.alloc (boxN x)) (boxN zeroN)
    rwa [World.size_alloc] at this
  have HX := hid ((hx.mono (Q := fun b => P b ∧ b < w.heap.size) fun b hb hlt => ⟨hb, hlt⟩).kept fun b _ hlt => hb0.block b hlt)
  obtain ⟨R, hR⟩ : ∃ R, strT L F a d env n i = R := ⟨_, rfl⟩
  rw [hR]
  unfold strT at hR
  have HSk := hid (skip_any ⟨#[61]⟩ (by decide) _ HC.out)
  unfold SkipPost at HSk
  rw [show (⟨#[61]⟩ : ByteArray).data.toList = [61] from rfl] at HSk
  unfold StPostQ aggN
  dsimp only [boxN, zeroN] at HC HN HK HB HR HX HSk
  have HXc := hid hxc
  clear hc hn hb0 hx hxc
  by_cases ha : a = 1
  · subst ha
    by_cases hq : wordT L i = [61]
    · rw [if_pos ⟨rfl, hq⟩] at hR
      simp only [if_pos hq] at HSk
      have hr0 := HZ.out.1
      unfold rdX at hR
      cases hex : exF L F 0 2 d (i + 1) (.mk 0 0 []) [] with
      | none => exact absurd hex (hE.2 _ _ _)
      | some R1 =>
        rw [hex] at hR
        have HEx := hid (fun W hc => single_step (r := r) (la := la) (lc := lc) (L := L) (vn := vn) (ex_all F hE.1 F (Nat.le_refl _)).1 d (i + 1) (.mk 0 0 []) [] R1 hex W hc)
        have hle := fun n' ks' k => ex_le L F 0 2 d (i + 1) (.mk 0 0 []) [] n' ks' k
        rw [hex] at hle
        unfold ExPost at HEx
        cases R1 with
        | error y =>
          dsimp only at hR HEx
          subst hR
          rw [thrown_chain] at HEx
          go_enter Try.func48, Try.ntmps48
          go_wp2_with fail
          generalize (w.alloc (.cells #[.int .i64 x.kind, .int .i64 x.tok, .slice x.a x.n x.c] 27)).alloc (.cells #[.int .i64 0, .int .i64 0, .slice none 0 0] 27) = w0 at *
          refine HSk.out.mono ?_
          rintro e w1 ⟨rfl, hc1, hk1, _⟩
          have HC1 := hid hc1
          have HK1 := hid (HK.out.trans hk1)
          have HN1 := hid (HN.out.kept HC.out.box hk1)
          have HB1 : Hid (w1.heap[w.heap.size]? = some (boxN x)) := (hk1.block _ (lt_of_block HB.out) (by omega)).trans HB.out
          have HR1 : Hid (w1.heap[w.heap.size + 1]? = some (boxN zeroN)) := (hk1.block _ (lt_of_block HR.out) (by omega)).trans HR.out
          have HX1 := hid (HX.out.kept fun b hb hlt => hk1.block b hlt (hP b hb.1))
          have hz1 := lt_of_block HR1.out
          have HCe := hid (fun W (hb : Below w1.heap.size w1 W) => (boxN_facts ((hb.block _ (lt_of_block HB1.out)).trans HB1.out)).1.2.2)
          clear hc1 hk1 HC HK HN HB HR HX HSk
          go_wp2_with fail
          refine wp_region_any (by kernel_rfl) ?_
          refine wpAny_take (i := 0) (v := .pointer (some ⟨w.heap.size, 2, none⟩)) rfl (by kernel_rfl) (by kernel_rfl) (by kernel_rfl) (fun _ _ _ h => h) (Or.inl ⟨by rfl, ?_⟩) ?_
          · intro W
            go_simp
          refine wpAny_take (i := 2) (v := .pointer (some ⟨r, 0, none⟩)) rfl (by kernel_rfl) (by kernel_rfl) (by kernel_rfl) (fun _ _ _ h => h) (Or.inl ⟨by rfl, ?_⟩) ?_
          · intro W
            go_simp
          refine takeT (C := fun W => W.cell? ⟨w.heap.size, 2, none⟩ = some (.slice x.a x.n x.c)) (i := 1) (v := .slice x.a x.n x.c) rfl (by kernel_rfl) (by kernel_rfl) (by kernel_rfl) (fun _ _ _ h => h) (Or.inl ⟨by rfl, ?_⟩) (HCe.out _ (Below.refl _ _).drew) ?_
          · intro W hSw
            try dsimp only at hSw
            go_simp
          refine anyT_one (k := 3) (by kernel_rfl) rfl (fun K hK => ?_)
          go_simp
          go_wp2_with (go_at_call 54; refine (HEx.out _ (HC1.out.below (Below.refl _ _).drew)).mono ?_; rintro e w5 ⟨rfl, ⟨i', hc5⟩, hk5⟩)
          have hk15 : Kept (· = r) w1 w5 := (kept_of_below (Below.refl _ _).drew).trans hk5
          exact ⟨rfl, rfl, ⟨env, rfl, lo, hbr, i', vn, ms, i, hc5, HN1.out.kept HC1.out.box hk15⟩, FrT.of_kept (HK1.out.trans hk15) hbr hbs⟩
        | ok y =>
          obtain ⟨m5, ks5, j5⟩ := y
          dsimp only at hR HEx
          have hj5 := hle m5 ks5 j5 rfl
          subst hR
          unfold aggN at HEx
          obtain ⟨i0, hi, hz0, hzz1, hzz2⟩ := info_parts info_node
          go_enter Try.func48, Try.ntmps48
          go_wp2_with fail
          generalize (w.alloc (.cells #[.int .i64 x.kind, .int .i64 x.tok, .slice x.a x.n x.c] 27)).alloc (.cells #[.int .i64 0, .int .i64 0, .slice none 0 0] 27) = w0 at *
          refine HSk.out.mono ?_
          rintro e w1 ⟨rfl, hc1, hk1, _⟩
          have HC1 := hid hc1
          have HK1 := hid (HK.out.trans hk1)
          have HN1 := hid (HN.out.kept HC.out.box hk1)
          have HB1 : Hid (w1.heap[w.heap.size]? = some (boxN x)) := (hk1.block _ (lt_of_block HB.out) (by omega)).trans HB.out
          have HR1 : Hid (w1.heap[w.heap.size + 1]? = some (boxN zeroN)) := (hk1.block _ (lt_of_block HR.out) (by omega)).trans HR.out
          have HX1 := hid (HX.out.kept fun b hb hlt => hk1.block b hlt (hP b hb.1))
          have hz1 := lt_of_block HR1.out
          have HCe := hid (fun W (hb : Below w1.heap.size w1 W) => (boxN_facts ((hb.block _ (lt_of_block HB1.out)).trans HB1.out)).1.2.2)
          clear hc1 hk1 HC HK HN HB HR HX HSk
          go_wp2_with fail
          refine wp_region_any (by kernel_rfl) ?_
          refine wpAny_take (i := 0) (v := .pointer (some ⟨w.heap.size, 2, none⟩)) rfl (by kernel_rfl) (by kernel_rfl) (by kernel_rfl) (fun _ _ _ h => h) (Or.inl ⟨by rfl, ?_⟩) ?_
          · intro W
            go_simp
          refine wpAny_take (i := 2) (v := .pointer (some ⟨r, 0, none⟩)) rfl (by kernel_rfl) (by kernel_rfl) (by kernel_rfl) (fun _ _ _ h => h) (Or.inl ⟨by rfl, ?_⟩) ?_
          · intro W
            go_simp
          refine takeT (C := fun W => W.cell? ⟨w.heap.size, 2, none⟩ = some (.slice x.a x.n x.c)) (i := 1) (v := .slice x.a x.n x.c) rfl (by kernel_rfl) (by kernel_rfl) (by kernel_rfl) (fun _ _ _ h => h) (Or.inl ⟨by rfl, ?_⟩) (HCe.out _ (Below.refl _ _).drew) ?_
          · intro W hSw
            try dsimp only at hSw
            go_simp
          refine anyT_one (k := 3) (by kernel_rfl) rfl (fun K hK => ?_)
          go_simp
          go_wp2_with (go_at_call 54; refine (HEx.out _ (HC1.out.below (Below.refl _ _).drew)).mono ?_; rintro e w5 ⟨x5, rfl, hx5, hc5, hk5⟩)
          have hk15 : Kept (· = r) w1 w5 := (kept_of_below (Below.refl _ _).drew).trans hk5
          have hb56 := below_new w5 (boxN x5)
          have hz5 := hk15.size
          have hB5 := (hk15.block _ (lt_of_block HB1.out) (by omega)).trans HB1.out
          have hR5 := (hk15.block _ (lt_of_block HR1.out) (by omega)).trans HR1.out
          have HB6 := hid ((hb56.block _ (lt_of_block hB5)).trans hB5)
          have HR6 := hid ((hb56.block _ (lt_of_block hR5)).trans hR5)
          have HX6 := hid ((HX1.out.kept fun b hb hlt => hk15.block b hlt (hP b hb.1)).kept fun b _ hlt => hb56.block b hlt)
          have HY6 := hid ((hx5.mono (Q := fun b => w.heap.size + 1 < b) fun b hb _ => by have hb' : w1.heap.size ≤ b := hb; omega).kept fun b _ hlt => hb56.block b hlt)
          have HC6 := hid (hc5.below hb56)
          have HN6 := hid ((HN1.out.kept HC1.out.box hk15).below hb56)
          have HK6 := hid ((HK1.out.trans hk15).trans (kept_of_below hb56))
          refine hK.out _ _ (fun _ => (boxN_facts hB5).1.2.2) ?_
          clear hK K hx5 hc5 hk5 hk15 hb56 hB5 hR5
          refine anyT_one (k := 4) (by kernel_rfl) rfl (fun K hK => ?_)
          go_simp
          refine hK.out _ _ (fun _ => (boxN_facts HB6.out).1.2.2) ?_
          clear hK K
          obtain ⟨nvs, hrow, hnds, hown⟩ := HX6.out.kids.row
          have hnl : nvs.length = x.n ∧ (x.a = none → x.n = 0 ∧ x.c = 0) := by
            rcases hrow.2 with ⟨e, h0⟩ | ⟨g, cap, cur, e, _⟩
            · injection e with e1 e2 e3
              exact ⟨by omega, fun _ => ⟨e2, e3⟩⟩
            · injection e with e1 e2 e3
              exact ⟨e2.symm, fun h => by rw [e1] at h; cases h⟩
          have HSp := hid (fun v' w7 => start_put (v' := v') (w7 := w7) lo hbr HZ.out.1 hbs HB6.out HR6.out HX6.out hnds HY6.out HC6.out HN6.out (by omega) HK6.out hnl.1)
          have holds : ∀ b, x.a = some b → ∀ j u, (cellsN nvs)[j]? = some u → (w5.alloc (boxN x5)).cell? (b.add j) = some u := by
            intro b hb
            rcases hrow.2 with ⟨e, h0⟩ | ⟨g, cap, cur, e, _⟩
            · injection e with e1 e2 e3
              rw [hb] at e1; cases e1
            · injection e with e1 e2 e3
              rw [hb] at e1
              cases e1
              have hrow' : (w5.alloc (boxN x5)).ownsRow 0 27 3 (.slice x.a x.n x.c) nvs.length (cellsN nvs) := hrow
              rw [hb] at hrow'
              exact row_cells hrow'
          have hnews : ∀ j u, (cellsN [x5])[j]? = some u → (w5.alloc (boxN x5)).cell? ((⟨w5.heap.size, 0, none⟩ : Addr).add j) = some u := row_cells (new_row w5 [x5] (by simp))
          have Hfull := hid (show x.c < x.n + 1 by have := HXc.out; omega)
          have Hl3 := hid (show (cellsN nvs).length = x.n * 3 by rw [cellsN_length, hnl.1])
          have Hl4 := hid (show (cellsN [x5]).length = 1 * 3 from rfl)
          dsimp only [boxN] at holds hnews
          refine anyT_one (k := 5) (by kernel_rfl) rfl (fun K hK => ?_)
          refine step_append_grows (by rfl) _ _ 25 (by rfl) 27 i0 _ 3 40 Try.underlying25 hi hz0 hzz1 hzz2 (by rfl) (by decide) x.a x.n x.c (cellsN nvs) (by rfl) hnl.2 Hl3.out holds ⟨w5.heap.size, 0, none⟩ 1 1 (cellsN [x5]) (by rfl) Hl4.out hnews (cellsN_one_cell _) Hfull.out (by unfold maxLen; omega) (by omega) ?_
          intro v7 w7 hown7 hg7
          obtain ⟨a7, c7, rfl, q1, q2, q3, q4, q5, q6⟩ := HSp.out v7 w7 hown7 hg7
          have HQ2 := hid q2
          have HQ3 := hid q3
          have HG := hid (give_stB (B := w.heap.size + 1) (u := zeroN) (x := ⟨x.kind, x.tok, a7, x.n + 1, c7⟩) HZ.out.1 hbs (by omega) q3 q4 (fun b hb => hb.2.2) q5 q6 (Q := fun b => P b ∨ w.heap.size ≤ b) (fun b hb => hb.1))
          obtain ⟨⟨t0, t1, t2⟩, f0, f1, f2⟩ := boxN_facts q1
          refine hK.out _ _ (fun _ => t2) ?_
          clear hK K hown7 hg7 q2 q3 q4 q5 q6 HSp holds hnews
          refine anyT_one (k := 6) (by kernel_rfl) rfl (fun K hK => ?_)
          go_simp
          refine hK.out _ _ (fun _ => t2) ?_
          clear hK K
          refine anyT_one (k := 7) (by kernel_rfl) rfl (fun K hK => ?_)
          go_simp
          refine hK.out _ _ (fun hno => absurd rfl (hno _ rfl ⟨1, .phase⟩ (by simp) (by rfl))) ?_
          clear hK K t0 t1 t2 f0 f1 f2 q1
          refine anyT_done (by kernel_rfl) ?_
          obtain ⟨⟨t0, t1, t2⟩, _⟩ := boxN_facts (x := ⟨x.kind, x.tok, a7, x.n + 1, c7⟩) HQ2.out
          obtain ⟨⟨y0, y1, y2⟩, z0, z1, z2⟩ := boxN_facts (x := zeroN) HQ3.out
          dsimp only [zeroN] at t0 t1 t2 y0 y1 y2
          unfold putN at HG
          dsimp only at HG
          go_wp2_with fail
          exact bodyPost_ret (node_ret Try.results48 (g := w.heap.size + 1) (x := ⟨x.kind, x.tok, a7, x.n + 1, c7⟩) HG.out.1 _ rfl) rfl ⟨_, rfl, HG.out.2⟩
    · rw [if_neg (fun h => hq h.2)] at hR
      simp only [if_neg hq] at HSk
      subst hR
      dsimp only
      go_enter Try.func48, Try.ntmps48
      go_wp2_with fail
      generalize (w.alloc (.cells #[.int .i64 x.kind, .int .i64 x.tok, .slice x.a x.n x.c] 27)).alloc (.cells #[.int .i64 0, .int .i64 0, .slice none 0 0] 27) = w0 at *
      refine HSk.out.mono ?_
      rintro e w1 ⟨rfl, n1, rfl⟩
      have hbd := dN_below (Below.refl w0.heap.size w0) n1
      have hBt : (w0.drewN n1).heap[w.heap.size]? = some (boxN x) := (dN_heap w0 _ n1).trans HB.out
      have hRt : (w0.drewN n1).heap[w.heap.size + 1]? = some (boxN zeroN) := (dN_heap w0 _ n1).trans HR.out
      have HG := hid (give_stB (B := w.heap.size + 1) (u := zeroN) (x := x) HZ.out.1 hbs (by omega) hRt (HX.out.kept (w' := w0.drewN n1) fun b _ _ => dN_heap w0 b n1) (fun b hb => by omega) ⟨lo, hbr, vn, ms, HC.out.below hbd, HN.out.below hbd⟩ (FrT.of_kept (HK.out.trans (kept_of_below hbd)) hbr hbs) (Q := fun b => P b ∨ w.heap.size ≤ b) (fun b hb => .inl hb.1))
      obtain ⟨⟨x0, x1, x2⟩, _⟩ := boxN_facts (x := x) hBt
      obtain ⟨⟨y0, y1, y2⟩, z0, z1, z2⟩ := boxN_facts (x := zeroN) hRt
      dsimp only [zeroN] at y0 y1 y2
      unfold putN at HG
      go_wp2_with fail
      exact bodyPost_ret (node_ret Try.results48 (g := w.heap.size + 1) (x := x) HG.out.1 _ rfl) rfl ⟨x, rfl, HG.out.2⟩
  · have ha1 : (a == 1) = false := by rw [beq_eq_false_iff_ne]; exact ha
    rw [if_neg (fun h => ha h.1)] at hR
    subst hR
    dsimp only
    go_enter Try.func48, Try.ntmps48
    have hbx : Below w.heap.size w ((w.alloc (boxN x)).alloc (boxN x)) := ((Below.refl _ w).alloc (Nat.le_refl _) _).alloc (by simp) _
    have hlast : ((w.alloc (boxN x)).alloc (boxN x)).heap[w.heap.size + 1]? = some (boxN x) := by
      have := heap_alloc_new (w.alloc (boxN x)) (boxN x)
      rwa [World.size_alloc] at this
    have HG := hid (And.intro hlast (And.intro ((HXw.out.kept fun b _ hlt => hbx.block b hlt).mono (Q := fun b => P b ∨ w.heap.size ≤ b) fun b hb _ => .inl hb) (And.intro (HRw.out.below hbx) (FrT.of_below (r := r) hbx hbs))))
    dsimp only [boxN] at HG
    clear hbx hlast
    go_wp2_with fail
    exact bodyPost_ret (node_ret Try.results48 (g := w.heap.size + 1) (x := x) HG.out.1 _ rfl) rfl ⟨x, rfl, HG.out.2⟩
end
section
open Go.RowKit Go.Shelf

theorem skip_st {base r : Nat} {la : Option Addr} {lc : Nat} {L : List Tk} {i : Nat} {env : Env0} {d : Nat} (s : ByteArray) (hs : s.data.toList ≠ []) (w : World) (h : RdAt w base r la lc L i env d) :
    Calls Try.prog 36 #[.pointer (some ⟨r, 0, none⟩), .string s] w fun e w' => if wordT L i = s.data.toList then e = .returned (.bool true) ∧ RdAt w' base r la lc L (i + 1) env d ∧ FrT base r w w' ∧ i < L.length else e = .returned (.bool false) ∧ ∃ n, w' = w.drewN n := by
  have hbs := h.size
  obtain ⟨lo, hbr, vn, ms, hc, hn⟩ := h
  refine (skip_any s hs w hc).mono ?_
  intro e w' hp
  unfold SkipPost at hp
  by_cases hq : wordT L i = s.data.toList
  · rw [if_pos hq] at hp ⊢
    exact ⟨hp.1, RdAt.of_cr lo hbr hc hn hp.2.1 hp.2.2.1 (by omega), FrT.of_kept hp.2.2.1 hbr hbs, hp.2.2.2⟩
  · rw [if_neg hq] at hp ⊢
    exact hp
theorem must_st {base r : Nat} {la : Option Addr} {lc : Nat} {L : List Tk} {i : Nat} {env : Env0} {d : Nat} (s : ByteArray) (hs : s.data.toList ≠ []) (w : World) (h : RdAt w base r la lc L i env d) :
    Calls Try.prog 42 #[.pointer (some ⟨r, 0, none⟩), .string s] w fun e w' => if wordT L i = s.data.toList then e = .returned (.tuple #[]) ∧ RdAt w' base r la lc L (i + 1) env d ∧ FrT base r w w' ∧ i < L.length else e = thrownT 2 (placeT L i) ∧ (∃ env', env'.length = env.length ∧ RdP w' base r la lc L env' d) ∧ FrT base r w w' := by
  have hbs := h.size
  have h' := h
  obtain ⟨lo, hbr, vn, ms, hc, hn⟩ := h
  refine (must_any s hs w hc).mono ?_
  intro e w' hp
  unfold MustPost at hp
  by_cases hq : wordT L i = s.data.toList
  · rw [if_pos hq] at hp ⊢
    exact ⟨hp.1, RdAt.of_cr lo hbr hc hn hp.2.1 hp.2.2.1 (by omega), FrT.of_kept hp.2.2.1 hbr hbs, hp.2.2.2⟩
  · rw [if_neg hq] at hp ⊢
    exact ⟨hp.1, ⟨env, rfl, (h'.below hp.2).thrown⟩, FrT.of_below hp.2 hbs⟩
/-- A node of one's own gets another row. -/
theorem set_st {base r : Nat} {la : Option Addr} {lc : Nat} {L : List Tk} {env : Env0} {d j B : Nat} {w W : World} {u : Nv} (hrw : r < w.heap.size) (hbs : base ≤ w.heap.size) (hB : w.heap.size ≤ B) (hz : W.heap[B]? = some (boxN u)) (hR : RdAt W base r la lc L j env d) (hF : FrT base r w W) (v : Value) :
    RdAt (W.setCell ⟨B, 2, none⟩ v) base r la lc L j env d ∧ FrT base r w (W.setCell ⟨B, 2, none⟩ v) := by
  have hso : ∀ b, b ≠ B → (W.setCell ⟨B, 2, none⟩ v).heap[b]? = W.heap[b]? := fun b hb => Below.heap_setCell _ _ _ _ hb
  obtain ⟨lo, hbr, vn, ms, hc, hn⟩ := hR
  refine ⟨⟨lo, hbr, vn, ms, hc.other (B := w.heap.size) hrw (fun b off e hL => Nat.lt_of_lt_of_le (lo b off e hL) hbs) (by simp) fun b hb => hso b (by omega), ?_⟩, ⟨?_, fun b c T fz hb hT hne => (hso b (by have := lt_of_block hb; omega)).trans (hF.cells b c T fz hb hT hne)⟩⟩
  · refine hn.same (fun b c hb _ => hso b fun e => ?_) (fun b es cl hb _ => hso b fun e => ?_)
    · subst e
      rw [hz] at hb
      injection hb with hb
      injection hb with _ hb
      revert hb
      decide
    · subst e
      rw [hz] at hb
      cases hb
  · have := hF.low
    exact ⟨this.os, this.tape, this.output, by simpa using this.size, fun b hb => (hso b (by omega)).trans (this.block b hb)⟩
end
section
open Go.RowKit Go.Shelf

/-- Perhaps an expression, and a semicolon. -/
def plnT (L : List Tk) (F : Nat) (k : Int) (d : Nat) (env : Env0) (i : Nat) : Got (Nd × Nat × Env0) :=
  if wordT L i = [59] then .ok (.mk k (-1) [], i + 1, env)
  else match rdX L F 1 d i with
    | .error x => .error x
    | .ok (m, j) => if wordT L j = [59] then .ok (.mk k (-1) [m], j + 1, env) else .error (2, j)

set_option maxRecDepth 100000 in
set_option maxHeartbeats 2000000 in
theorem plain_any {base r : Nat} {la : Option Addr} {lc : Nat} {L : List Tk} {i : Nat} {env : Env0} {d F : Nat} (hE : Enough L F) (k : Int) (w : World) (h : RdAt w base r la lc L i env d) :
    Calls Try.prog 62 #[.pointer (some ⟨r, 0, none⟩), .int .i64 k] w (StPost base r la lc L env d (plnT L F k d env i) w) := by
  have hbs := h.size
  have hb0 := below_new w (boxN zeroN)
  have HR0 := hid (h.below hb0)
  have hrw : r < w.heap.size := by obtain ⟨lo, hbr, vn, ms, hc, hn⟩ := h; exact hc.lt
  have HF0 := hid (FrT.of_below (r := r) hb0 hbs)
  have HB0 := hid (heap_alloc_new w (boxN zeroN))
  have HM := hid (fun (j : Nat) (W : World) (hW : RdAt W base r la lc L j env d) => must_st ⟨#[59]⟩ (by decide) W hW)
  rw [show (⟨#[59]⟩ : ByteArray).data.toList = [59] from rfl] at HM
  have HX := hid (fun (W : World) (hW : RdAt W base r la lc L i env d) => expr_st hE W hW)
  have HWd := hid (fun (W : World) (hW : RdAt W base r la lc L i env d) => by obtain ⟨lo, hbr, vn, ms, hc, hn⟩ := hW; exact word_any W hc)
  have hwb : (wrdB L i).toList = wordT L i := by rw [toList_data, wrdB_is]
  obtain ⟨R, hR⟩ : ∃ R, plnT L F k d env i = R := ⟨_, rfl⟩
  rw [hR]
  unfold plnT at hR
  unfold StPost at HX ⊢
  dsimp only [boxN, zeroN] at HR0 HF0 HB0
  clear h hb0
  by_cases hq : wordT L i = [59]
  · rw [if_pos hq] at hR
    rw [hq] at hwb
    subst hR
    dsimp only
    go_enter Try.func62, Try.ntmps62
    go_wp2_with fail
    refine (node_any k none 0 0 _).mono ?_
    rintro e w1 ⟨rfl, hb1⟩
    have hz1 := hb1.size
    rw [World.size_alloc] at hz1
    have hb12 := below_new w1 (boxN ⟨k, -1, none, 0, 0⟩)
    have hR1 := HR0.out.below hb1
    have HR2 := hid (hR1.below hb12)
    have HF2 := hid ((HF0.out.trans (FrT.of_below hb1 HR0.out.size)).trans (FrT.of_below hb12 hR1.size))
    have hB1 := (hb1.block _ (lt_of_block HB0.out)).trans HB0.out
    have HB2 : Hid (_ = some (boxN zeroN)) := (hb12.block _ (lt_of_block hB1)).trans hB1
    have HN2 := hid (heap_alloc_new w1 (boxN ⟨k, -1, none, 0, 0⟩))
    have hz2 : (w1.alloc (boxN ⟨k, -1, none, 0, 0⟩)).heap.size = w1.heap.size + 1 := by simp
    have HWd2 := hid (HWd.out _ HR2.out)
    dsimp only [boxN] at HR2 HF2 HB2 HN2 HWd2 hz2
    clear hb1 hb12 hR1 hB1 HR0 HF0 HB0 HWd
    unfold aggN
    dsimp only
    go_wp2_with fail
    generalize w1.alloc (.cells #[.int .i64 k, .int .i64 (-1), .slice none 0 0] 27) = w2 at *
    refine HWd2.out.mono ?_
    rintro e w3 ⟨rfl, n3, rfl⟩
    have hbd := dN_below (Below.refl w2.heap.size w2) n3
    have HR3 := hid (HR2.out.below hbd)
    have HF3 := hid (HF2.out.trans (FrT.of_below hbd HR2.out.size))
    have HB3 : Hid (_ = some (boxN zeroN)) := (dN_heap w2 w.heap.size n3).trans HB2.out
    have HN3 : Hid (_ = some (boxN ⟨k, -1, none, 0, 0⟩)) := (dN_heap w2 w1.heap.size n3).trans HN2.out
    have hz3 := hbd.size
    generalize hw3 : w2.drewN n3 = w3 at *
    clear hw3 hbd HR2 HF2 HB2 HN2 HWd2
    go_wp2_with fail
    have HM3 := hid (HM.out i _ HR3.out)
    simp only [if_pos hq] at HM3
    refine HM3.out.mono ?_
    rintro e w4 ⟨rfl, hr4, hf4, _⟩
    have hB4 : w4.heap[w.heap.size]? = some (boxN zeroN) := boxN_frt HB3.out hf4 (by omega)
    have hN4 := boxN_frt HN3.out hf4 (by omega)
    have HG := hid (give_st (x := ⟨k, -1, none, 0, 0⟩) (n := .mk k (-1) []) (u := zeroN) (P := fun _ => False) (Q := (w.heap.size ≤ ·)) hrw hbs hB4 ⟨rfl, rfl, KidsAt.nil⟩ (fun b hb => hb.elim) hr4 (HF3.out.trans hf4) (fun b hb => hb.elim))
    obtain ⟨⟨x0, x1, x2⟩, _⟩ := boxN_facts (x := ⟨k, -1, none, 0, 0⟩) hN4
    obtain ⟨⟨y0, y1, y2⟩, z0, z1, z2⟩ := boxN_facts (x := zeroN) hB4
    dsimp only [zeroN] at x0 x1 x2 y0 y1 y2
    unfold putN at HG
    dsimp only at HG
    clear HM3 hr4 hf4
    go_wp2_with fail
    exact bodyPost_ret (node_ret Try.results62 (g := w.heap.size) (x := ⟨k, -1, none, 0, 0⟩) HG.out.1 _ rfl) rfl ⟨_, rfl, HG.out.2⟩
  · rw [if_neg hq] at hR
    have hq' : (wordT L i == [59]) = false := beq_eq_false_iff_ne.2 hq
    go_enter Try.func62, Try.ntmps62
    go_wp2_with fail
    refine (node_any k none 0 0 _).mono ?_
    rintro e w1 ⟨rfl, hb1⟩
    have hz1 := hb1.size
    rw [World.size_alloc] at hz1
    have hb12 := below_new w1 (boxN ⟨k, -1, none, 0, 0⟩)
    have hR1 := HR0.out.below hb1
    have HR2 := hid (hR1.below hb12)
    have HF2 := hid ((HF0.out.trans (FrT.of_below hb1 HR0.out.size)).trans (FrT.of_below hb12 hR1.size))
    have hB1 := (hb1.block _ (lt_of_block HB0.out)).trans HB0.out
    have HB2 : Hid (_ = some (boxN zeroN)) := (hb12.block _ (lt_of_block hB1)).trans hB1
    have HN2 := hid (heap_alloc_new w1 (boxN ⟨k, -1, none, 0, 0⟩))
    have hz2 : (w1.alloc (boxN ⟨k, -1, none, 0, 0⟩)).heap.size = w1.heap.size + 1 := by simp
    have HWd2 := hid (HWd.out _ HR2.out)
    dsimp only [boxN] at HR2 HF2 HB2 HN2 HWd2 hz2
    clear hb1 hb12 hR1 hB1 HR0 HF0 HB0 HWd
    unfold aggN
    dsimp only
    go_wp2_with fail
    generalize w1.alloc (.cells #[.int .i64 k, .int .i64 (-1), .slice none 0 0] 27) = w2 at *
    refine HWd2.out.mono ?_
    rintro e w3 ⟨rfl, n3, rfl⟩
    have hbd := dN_below (Below.refl w2.heap.size w2) n3
    have HR3 := hid (HR2.out.below hbd)
    have HF3 := hid (HF2.out.trans (FrT.of_below hbd HR2.out.size))
    have HB3 : Hid (_ = some (boxN zeroN)) := (dN_heap w2 w.heap.size n3).trans HB2.out
    have HN3 : Hid (_ = some (boxN ⟨k, -1, none, 0, 0⟩)) := (dN_heap w2 w1.heap.size n3).trans HN2.out
    have hz3 := hbd.size
    generalize hw3 : w2.drewN n3 = w3 at *
    clear hw3 hbd HR2 HF2 HB2 HN2 HWd2
    go_wp2_with fail
    have HX3 := hid (HX.out _ HR3.out)
    cases hrd : rdX L F 1 d i with
    | error y =>
      rw [hrd] at hR HX3
      dsimp only [withE] at hR HX3
      subst hR
      rw [thrown_chain] at HX3
      refine HX3.out.mono ?_
      rintro e w4 ⟨rfl, hp4, hf4⟩
      exact ⟨rfl, rfl, hp4, HF3.out.trans hf4⟩
    | ok y =>
      obtain ⟨m4, j4⟩ := y
      rw [hrd] at hR HX3
      dsimp only [withE] at hR HX3
      unfold aggN at HX3
      refine HX3.out.mono ?_
      rintro e w4 ⟨x4, rfl, hx4, hr4, hf4⟩
      have hb45 := below_new w4 (boxN x4)
      have hz4 := hf4.low.size
      have hz4' : w3.heap.size ≤ w4.heap.size := by have := lt_of_block HN3.out; have := lt_of_block (boxN_frt HN3.out hf4 (by omega)); omega
      have hB4 : w4.heap[w.heap.size]? = some (boxN zeroN) := boxN_frt HB3.out hf4 (by omega)
      have hN4 := boxN_frt HN3.out hf4 (by omega)
      have hB5 := (hb45.block _ (lt_of_block hB4)).trans hB4
      have hN5 := (hb45.block _ (lt_of_block hN4)).trans hN4
      have hKd := kids_new (NdsIs.one (hx4.mono (Q := fun b => w.heap.size < b ∧ b ≠ w1.heap.size) fun b hb _ => by have hb' : w3.heap.size ≤ b := hb; exact ⟨by omega, by omega⟩)) (by simp) (Q := fun b => w.heap.size < b ∧ b ≠ w1.heap.size) (fun b hb _ => hb) ⟨by omega, by omega⟩
      obtain ⟨hr6, hf6⟩ := set_st hrw hbs (B := w1.heap.size) (by omega) hN5 (hr4.below hb45) ((HF3.out.trans hf4).trans (FrT.of_below hb45 hr4.size)) (.slice (some ⟨w4.heap.size, 0, none⟩) 1 1)
      have hso : ∀ b, b ≠ w1.heap.size → ((w4.alloc (boxN x4)).setCell ⟨w1.heap.size, 2, none⟩ (.slice (some ⟨w4.heap.size, 0, none⟩) 1 1)).heap[b]? = (w4.alloc (boxN x4)).heap[b]? := fun b hb => Below.heap_setCell _ _ _ _ hb
      have HN6 : Hid (_ = some (boxN ⟨k, -1, some ⟨w4.heap.size, 0, none⟩, 1, 1⟩)) := (Go.Joins.block_setCell (i := 2) hN5 (.slice (some ⟨w4.heap.size, 0, none⟩) 1 1)).trans rfl
      have HB6 : Hid (_ = some (boxN zeroN)) := (hso w.heap.size (by omega)).trans hB5
      have HX6 : Hid (NdIs ((w4.alloc (boxN x4)).setCell ⟨w1.heap.size, 2, none⟩ (.slice (some ⟨w4.heap.size, 0, none⟩) 1 1)) (fun b => w.heap.size < b ∧ b ≠ w1.heap.size) ⟨k, -1, some ⟨w4.heap.size, 0, none⟩, 1, 1⟩ (.mk k (-1) [m4])) := ⟨rfl, rfl, hKd.kept fun b hb _ => hso b hb.2⟩
      have HR6 := hid hr6
      have HF6 := hid hf6
      obtain ⟨⟨x0, x1, x2⟩, f0, f1, f2⟩ := boxN_facts (x := ⟨k, -1, none, 0, 0⟩) hN5
      dsimp only [boxN] at HN6 HB6 HX6 HR6 HF6 x0 x1 x2 f0 f1 f2
      clear hx4 hr4 hf4 hb45 hB4 hN4 hB5 hN5 hKd hr6 hf6 hso HR3 HF3 HB3 HN3 HX3
      go_wp2_with fail
      generalize (w4.alloc (.cells #[.int .i64 x4.kind, .int .i64 x4.tok, .slice x4.a x4.n x4.c] 27)).setCell ⟨w1.heap.size, 2, none⟩ (.slice (some ⟨w4.heap.size, 0, none⟩) 1 1) = w6 at *
      clear x0 x1 x2 f0 f1 f2
      have HM6 := hid (HM.out j4 _ HR6.out)
      by_cases hq4 : wordT L j4 = [59]
      · rw [if_pos hq4] at hR
        subst hR
        simp only [if_pos hq4] at HM6
        refine HM6.out.mono ?_
        rintro e w7 ⟨rfl, hr7, hf7, _⟩
        have hB7 : w7.heap[w.heap.size]? = some (boxN zeroN) := boxN_frt HB6.out hf7 (by omega)
        have hN7 := boxN_frt (x := ⟨k, -1, some ⟨w4.heap.size, 0, none⟩, 1, 1⟩) HN6.out hf7 (by omega)
        have HG := hid (give_st (Q := (w.heap.size ≤ ·)) hrw hbs hB7 (HX6.out.frt hf7 fun b hb => by omega) (fun b hb => by omega) hr7 (HF6.out.trans hf7) (fun b hb => by omega))
        obtain ⟨⟨x0, x1, x2⟩, _⟩ := boxN_facts hN7
        obtain ⟨⟨y0, y1, y2⟩, z0, z1, z2⟩ := boxN_facts (x := zeroN) hB7
        dsimp only [zeroN] at x0 x1 x2 y0 y1 y2
        unfold putN at HG
        dsimp only at HG
        clear HM6 hr7 hf7
        go_wp2_with fail
        exact bodyPost_ret (node_ret Try.results62 (g := w.heap.size) (x := ⟨k, -1, some ⟨w4.heap.size, 0, none⟩, 1, 1⟩) HG.out.1 _ rfl) rfl ⟨_, rfl, HG.out.2⟩
      · rw [if_neg hq4] at hR
        subst hR
        simp only [if_neg hq4] at HM6
        rw [thrown_chain] at HM6
        refine HM6.out.mono ?_
        rintro e w7 ⟨rfl, hp7, hf7⟩
        exact ⟨rfl, rfl, hp7, HF6.out.trans hf7⟩
end
section
open Go.RowKit Go.Shelf

/-- Whether a declaration begins there. -/
def dcnT (L : List Tk) (env : Env0) (i : Nat) : Bool := wordT L i == [116, 121, 112, 101, 100, 101, 102] || typT L env i

set_option maxRecDepth 100000 in
set_option maxHeartbeats 1000000 in
theorem declarationNext_any {base r : Nat} {la : Option Addr} {lc : Nat} {L : List Tk} {i : Nat} {env : Env0} {d : Nat} (hs : Short L) (hl : env.length ≤ 1000) (w : World) (h : RdAt w base r la lc L i env d) :
    Calls Try.prog 63 #[.pointer (some ⟨r, 0, none⟩)] w fun e w' => e = .returned (.bool (dcnT L env i)) ∧ ∃ n, w' = w.drewN n := by
  have HT := hid (fun n => typeNext_any hs hl _ (h.below (dN_below (Below.refl _ _) n)))
  obtain ⟨lo, hbr, vn, ms, hc, hn⟩ := h
  have HW := hid (quiet_at fun n => word_any _ (hc.draws n))
  have hwb : (wrdB L i).toList = wordT L i := by rw [toList_data, wrdB_is]
  unfold dcnT
  rw [← hwb]
  clear hc hn hwb
  generalize typT L env i = tb at *
  generalize wrdB L i = W0 at *
  by_cases h1 : W0.toList = [116, 121, 112, 101, 100, 101, 102]
  · have HE : Hid (Ending.returned (.bool true) = .returned (.bool (W0.toList == [116, 121, 112, 101, 100, 101, 102] || tb))) := by show _ = _; rw [h1]; rfl
    go_enter Try.func63, Try.ntmps63
    go_wp2_with (go_at_call 28; refine (HW.out _ ⟨0, rfl⟩).mono ?_; rintro e w1 ⟨rfl, n1, rfl⟩)
    go_ret
    exact ⟨HE.out, _, rfl⟩
  · have HE : Hid (Ending.returned (.bool tb) = .returned (.bool (W0.toList == [116, 121, 112, 101, 100, 101, 102] || tb))) := by show _ = _; rw [beq_eq_false_iff_ne.2 h1]; rfl
    go_enter Try.func63, Try.ntmps63
    go_wp2_with (first | (go_at_call 28; refine (HW.out _ ⟨0, rfl⟩).mono ?_; rintro e w1 ⟨rfl, n1, rfl⟩) | (go_at_call 37; refine (HT.out _).mono ?_; rintro e w2 ⟨rfl, n2, rfl⟩))
    go_ret
    exact ⟨by first | exact HE.out | go_simp, _, rfl⟩
end
section
open Go.RowKit Go.Shelf

/-- The words with which a statement begins. -/
def stmW (s : List UInt8) : Bool := s == [123] || s == [105, 102] || s == [119, 104, 105, 108, 101] || s == [114, 101, 116, 117, 114, 110] || s == [59]
/-- Whether a statement begins there. -/
def stnT (L : List Tk) (env : Env0) (i : Nat) : Bool := stmW (wordT L i) || (dcnT L env i || partT L i)

set_option maxRecDepth 100000 in
set_option maxHeartbeats 1000000 in
theorem statementNext_any {base r : Nat} {la : Option Addr} {lc : Nat} {L : List Tk} {i : Nat} {env : Env0} {d : Nat} (hs : Short L) (hl : env.length ≤ 1000) (w : World) (h : RdAt w base r la lc L i env d) :
    Calls Try.prog 59 #[.pointer (some ⟨r, 0, none⟩)] w fun e w' => e = .returned (.bool (stnT L env i)) ∧ ∃ n, w' = w.drewN n := by
  have HD := hid (fun n => declarationNext_any hs hl _ (h.below (dN_below (Below.refl _ _) n)))
  obtain ⟨lo, hbr, vn, ms, hc, hn⟩ := h
  have HW := hid (quiet_at fun n => word_any _ (hc.draws n))
  have HP := hid (fun n => partNext_any _ (hc.draws n))
  unfold stnT
  have hwb : (wrdB L i).toList = wordT L i := by rw [toList_data, wrdB_is]
  have hbs : stmW (wordT L i) = ((wrdB L i).toList == [123] || (wrdB L i).toList == [105, 102] || (wrdB L i).toList == [119, 104, 105, 108, 101] || (wrdB L i).toList == [114, 101, 116, 117, 114, 110] || (wrdB L i).toList == [59]) := by rw [hwb]; rfl
  rw [hbs]
  clear hc hn hwb hbs
  generalize dcnT L env i = ib at *
  generalize partT L i = nb at *
  generalize wrdB L i = W0 at *
  by_cases h1 : (W0.toList == [123] || W0.toList == [105, 102] || W0.toList == [119, 104, 105, 108, 101] || W0.toList == [114, 101, 116, 117, 114, 110] || W0.toList == [59]) = true
  · rw [h1]
    simp only [Bool.or_eq_true] at h1
    have HE : Hid (Ending.returned (.bool true) = .returned (.bool (true || (ib || nb)))) := by show _ = _; rfl
    rcases h1 with (((h1 | h1) | h1) | h1) | h1
    all_goals (rw [beq_iff_eq] at h1)
    all_goals go_enter Try.func59, Try.ntmps59
    all_goals go_wp2_with (go_at_call 28; refine (HW.out _ ⟨0, rfl⟩).mono ?_; rintro e w1 ⟨rfl, n1, rfl⟩)
    all_goals go_ret
    all_goals exact ⟨HE.out, _, rfl⟩
  · have h1' := Bool.eq_false_iff.2 h1
    rw [h1']
    simp only [Bool.or_eq_false_iff] at h1'
    obtain ⟨⟨⟨⟨g1, g2⟩, g3⟩, g4⟩, g5⟩ := h1'
    clear h1
    cases ib with
    | true =>
      go_enter Try.func59, Try.ntmps59
      go_wp2_with (first | (go_at_call 28; refine (HW.out _ ⟨0, rfl⟩).mono ?_; rintro e w1 ⟨rfl, n1, rfl⟩) | (go_at_call 63; refine (HD.out _).mono ?_; rintro e w2 ⟨rfl, n2, rfl⟩))
      go_ret
      exact ⟨rfl, _, rfl⟩
    | false =>
      go_enter Try.func59, Try.ntmps59
      go_wp2_with (first | (go_at_call 28; refine (HW.out _ ⟨0, rfl⟩).mono ?_; rintro e w1 ⟨rfl, n1, rfl⟩) | (go_at_call 63; refine (HD.out _).mono ?_; rintro e w2 ⟨rfl, n2, rfl⟩) | (go_at_call 55; refine (HP.out _).mono ?_; rintro e w3 ⟨rfl, n3, rfl⟩))
      go_ret
      exact ⟨by first | rfl | go_simp, _, rfl⟩
end
section
open Go.RowKit Go.Shelf

/-- Behind a declaration's first name. -/
def dlpT (L : List Tk) (F : Nat) (a : Int) (d : Nat) : Nat → Env0 → List Nd → Nat → Got (Nd × Nat × Env0)
  | 0, _, _, j => .error (2, j)
  | f + 1, env, ks, j =>
    if wordT L j = [44] then match dclT L F a d env (j + 1) with
      | .error x => .error x
      | .ok (n2, j2, env2) => match strT L F a d env2 n2 j2 with
        | .error x => .error x
        | .ok (n3, j3, env3) => dlpT L F a d f env3 (ks ++ [n3]) j3
    else if wordT L j = [59] then .ok (.mk 2 (-1) ks, j + 1, env) else .error (2, j)
/-- A declaration from its first name on. -/
def dedT (L : List Tk) (F : Nat) (a : Int) (d : Nat) (env : Env0) (kd nm : Nd) (i : Nat) : Got (Nd × Nat × Env0) := match strT L F a d env nm i with
  | .error x => .error x
  | .ok (n1, j1, env1) => dlpT L F a d (L.length + 1) env1 [kd, n1] j1

theorem rdX_le {L : List Tk} {F l d i : Nat} {m : Nd} {k : Nat} (h : rdX L F l d i = .ok (m, k)) : i ≤ k := by
  unfold rdX at h
  cases hx : exF L F 0 l d i (.mk 0 0 []) [] with
  | none => rw [hx] at h; cases h
  | some R =>
    rw [hx] at h
    cases R with
    | error y => cases h
    | ok y =>
      obtain ⟨n, ks, j⟩ := y
      cases h
      exact ex_le L F 0 l d i _ _ _ _ _ hx
theorem declE_len {env : Env0} (h : env ≠ []) (x : List UInt8) (a : Int) : (declE env x a).length = env.length := by
  unfold declE
  have : 0 < env.length := List.length_pos_iff.2 h
  simp
  omega
theorem dcl_ok {L : List Tk} {F : Nat} {a : Int} {d : Nat} {env : Env0} {i : Nat} {n : Nd} {k : Nat} {env' : Env0} (h : dclT L F a d env i = .ok (n, k, env')) (hne : env ≠ []) : i < k ∧ env'.length = env.length ∧ n.kids.length ≤ 1 := by
  unfold dclT at h
  have hs := star_le L L.length i
  split at h
  · split at h
    · split at h
      · cases h
      · rename_i m k' hrd
        have := rdX_le hrd
        split at h
        · cases h
          exact ⟨by omega, declE_len hne _ _, by simp [Nd.kids]⟩
        · cases h
    · cases h
      exact ⟨by omega, declE_len hne _ _, by simp [Nd.kids]⟩
  · cases h
theorem str_ok {L : List Tk} {F : Nat} {a : Int} {d : Nat} {env : Env0} {n : Nd} {i : Nat} {n' : Nd} {k : Nat} {env' : Env0} (h : strT L F a d env n i = .ok (n', k, env')) : i ≤ k ∧ env' = env := by
  unfold strT at h
  split at h
  · split at h
    · cases h
    · rename_i m k' hrd
      have := rdX_le hrd
      cases h
      exact ⟨by omega, rfl⟩
  · cases h
    exact ⟨Nat.le_refl _, rfl⟩
theorem NdIs.len {w : World} {P : Nat → Prop} {x : Nv} {n : Nd} (h : NdIs w P x n) : x.n = n.kids.length := by
  obtain ⟨nvs, hrow, hnds, _⟩ := h.kids.row
  rw [← hnds.1]
  rcases hrow.2 with ⟨e, h0⟩ | ⟨g, cap, cur, e, _⟩
  · injection e with e1 e2 e3
    omega
  · injection e with e1 e2 e3
end
end Go.Proofs.Ytocklchafmlfkaa
