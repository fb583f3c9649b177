/- Walk of Tokens. -/
import Derived.Test.YtoedgcpfomgagaaDoorLxPcs
import Derived.Test.YtoedgcpfomgagaaDoorLoadTail
namespace Go.Proofs.YtoedgcpfomgagaaDoor
open Go.RowKit Go.Shelf

/-- What Tokens answers: tokens, and what is wrong, in which file, at which byte. -/
def toksF (file : Int) (l : List UInt8) : List Tk × (Int × Int × Int) :=
  if 3000 < l.length then ([], (4, file, 0))
  else match pcs (bytesAt l (kept l)) with
    | .inl k => ([], (9, file, whereI (kept l ++ [l.length]) k))
    | .inr ps => (tksOf file l ps, (0, -1, 0))
def faultV (f : Int × Int × Int) : Value := .agg #[.int .i64 f.1, .int .i64 f.2.1, .int .i64 f.2.2]

def TokPost (file : Int) (l : List UInt8) (w : World) (e : Ending) (w' : World) : Prop :=
  ∃ a c, e = .returned (.tuple #[.slice a (toksF file l).1.length c, faultV (toksF file l).2]) ∧ TAt w' a (toksF file l).1 ∧ Below w.heap.size w w' ∧ (toksF file l).1.length ≤ c

set_option maxRecDepth 100000 in
set_option maxHeartbeats 1000000 in
theorem Tokens_much (file : Int) (s : ByteArray) (w : World) (hs : 3000 < s.size) :
    Calls Tryd.prog 10 #[.int .i64 file, .string s] w (TokPost file s.data.toList w) := by
  have HE : Hid (toksF file s.data.toList = ([], (4, file, 0))) := by show _ = _; unfold toksF; rw [if_pos (by rw [size_data]; exact hs)]
  have h2 : (3000 : Int) < (s.size : Int) := by omega
  go_enter Tryd.func10, Tryd.ntmps10
  go_wp2
  refine bodyPost_ret (v := .tuple #[.slice none 0 0, .agg #[.int .i64 4, .int .i64 file, .int .i64 0]]) (by simp [results, Tryd.results10, go_sem]) rfl ⟨none, 0, by rw [HE.out]; rfl, by rw [HE.out]; exact .inl rfl, ?_, by rw [HE.out]; exact Nat.zero_le _⟩
  exact (Below.refl _ _).alloc (Nat.le_refl _) _

/-- The variables of Tokens: its fault, what is joined, tokens so far, the variables of pieces. -/
structure TSt (w : World) (j kb kc : Nat) (T : ByteArray) (K : List Nat) (ts : List Tk) (i : Nat) (v : Value) (wr : World) : Prop where
  old : Below w.heap.size w wr
  lo : w.heap.size < j
  bF : wr.heap[w.heap.size]? = some (.cells #[.int .i64 0, .int .i64 0, .int .i64 0] 24)
  bJ : wr.heap[j]? = some (.cells #[.string T, .slice (some ⟨kb, 0, none⟩) K.length kc] 53)
  kbj : kb < j
  iat : IAt wr kb K
  bO : wr.heap[j + 1]? = some (.cells #[v] 29)
  own : wr.ownsRow (j + 13) 35 11 v ts.length (cellsT ts)
  pst : PSt wr (j + 2) T (.func (.func 26) #[] #[.pointer (some ⟨j + 1, 0, none⟩)]) i

theorem owns_same {w w' : World} {base : Nat} {e : TypeId} {size : Nat} {v : Value} {n : Nat} {xs : List Value} (h : w.ownsRow base e size v n xs) (hb : ∀ g, base ≤ g → g < w.heap.size → w'.heap[g]? = w.heap[g]?) : w'.ownsRow base e size v n xs := by
  refine ⟨h.1, ?_⟩
  rcases h.2 with h | ⟨g, cap, cur, hv, hg, hh, r⟩
  · exact .inl h
  · exact .inr ⟨g, cap, cur, hv, hg, (hb g hg (Array.getElem?_eq_some_iff.1 hh).1).trans hh, r⟩

/-- Another world with the same blocks, but those of pieces. -/
theorem TSt.turn {w : World} {j kb kc : Nat} {T : ByteArray} {K : List Nat} {ts : List Tk} {i i' : Nat} {v : Value} {wr wr' : World} (h : TSt w j kb kc T K ts i v wr) (hk : Kept (turnX (j + 2)) wr wr')
    (hp : PSt wr' (j + 2) T (.func (.func 26) #[] #[.pointer (some ⟨j + 1, 0, none⟩)]) i') : TSt w j kb kc T K ts i' v wr' := by
  have N : ∀ k, k < j + 2 ∨ j + 13 ≤ k → ¬ turnX (j + 2) k := fun k hk hx => by rcases hx with hx | hx <;> omega
  have hkb := h.kbj
  have hlo := h.lo
  refine ⟨h.old.trans (hk.below h.old.size (fun k hk => N k (by omega))), h.lo, ?_, ?_, h.kbj, ⟨Nat.lt_of_lt_of_le h.iat.1 hk.size, fun q hq => ?_⟩, ?_, owns_same h.own (fun g hg hl => hk.block g hl (N g (.inr hg))), hp⟩
  · exact (hk.block _ (lt_of_block h.bF) (N _ (by omega))).trans h.bF
  · exact (hk.block _ (lt_of_block h.bJ) (N _ (by omega))).trans h.bJ
  · exact (hk.cell (p := ⟨kb, q, none⟩) h.iat.1 (N _ (by simp only; omega))).trans (h.iat.2 q hq)
  · exact (hk.block _ (lt_of_block h.bO) (N _ (by omega))).trans h.bO
theorem TSt.below {w : World} {j kb kc : Nat} {T : ByteArray} {K : List Nat} {ts : List Tk} {i : Nat} {v : Value} {wr wr' : World} (h : TSt w j kb kc T K ts i v wr) (hb : Below wr.heap.size wr wr') : TSt w j kb kc T K ts i v wr' := by
  obtain ⟨v0, v1, v2, v3, v4, hP⟩ := h.pst.bP
  exact h.turn (kept_of_below hb) (pst_of h.pst (kept_of_below hb) ((hb.block _ (lt_of_block h.pst.bA)).trans h.pst.bA) ((hb.block _ (lt_of_block hP)).trans hP))

theorem TSt.tat {w : World} {j kb kc : Nat} {T : ByteArray} {K : List Nat} {ts : List Tk} {i : Nat} {v : Value} {wr : World} (h : TSt w j kb kc T K ts i v wr) : ∃ a c, v = .slice a ts.length c ∧ TAt wr a ts := TAt.of_row h.own

theorem tst_next {w : World} {j kb kc : Nat} {T : ByteArray} {K : List Nat} {ts : List Tk} {i : Nat} {v : Value} {wr : World} (h : TSt w j kb kc T K ts i v wr) (hM : Mx w) (hi : i ≤ T.size) (hs : T.size ≤ 1048576) (hl : ts.length ≤ 1048576) :
    Calls Tryd.prog 44 #[.pointer (some ⟨j + 2 + 2, 0, none⟩), .pointer (some ⟨j + 2 + 3, 0, none⟩), .pointer (some ⟨j + 2, 0, none⟩), .pointer (some ⟨j + 2 + 10, 0, none⟩)] wr fun e w' =>
      e = .returned (pieceV (nextPc T.data.toList i (behindT ts))) ∧ TSt w j kb kc T K ts (nextAt T.data.toList i (behindT ts)) v w' ∧ Kept (turnX (j + 2)) wr w' := by
  have hlo := h.lo
  have hgl : 0 < j + 2 := by
    obtain ⟨m, hm⟩ := hM
    have : 0 < w.heap.size := World.block_lt_of_cell? _ _ hm
    omega
  refine (next_any (j + 2) 26 #[.pointer (some ⟨j + 1, 0, none⟩)] T i (behindT ts) wr h.pst (hM.below h.old) hgl hi hs (enters_of Tryd.func26 (by kernel_rfl) rfl) (fun W hW => ?_)).mono ?_
  · have N : ∀ k, k < j + 2 ∨ j + 13 ≤ k → ¬ turnX (j + 2) k := fun k hk hx => by rcases hx with hx | hx <;> omega
    have hO := (hW.block _ (lt_of_block h.bO) (N _ (by omega))).trans h.bO
    obtain ⟨a, c, hv, hta⟩ := TAt.of_row (owns_same h.own (fun g hg hl => hW.block g hl (N g (.inr hg))))
    refine Tokens1_any (j + 1) a c ts W ?_ hta hl
    rw [Go.Joins.cell_of_block hO, ← hv]; rfl
  · rintro e w' ⟨rfl, hp, hk⟩
    exact ⟨rfl, h.turn hk hp, hk⟩

theorem tok_ret {W : World} {F : Nat} {x0 x1 x2 v : Value} (hF : W.heap[F]? = some (.cells #[x0, x1, x2] 24)) (h0 : ∃ k n, x0 = .int k n) (h1 : ∃ k n, x1 = .int k n) (h2 : ∃ k n, x2 = .int k n) (tmps : Array Value) (h4 : tmps.getD 4 undef = v) (h5 : tmps.getD 5 undef = .pointer (some ⟨F, 0, none⟩)) :
    (results Tryd.f10 tmps).run Tryd.prog W = .ok (.tuple #[v, .agg #[x0, x1, x2]]) W := by
  obtain ⟨k0, n0, rfl⟩ := h0
  obtain ⟨k1, n1, rfl⟩ := h1
  obtain ⟨k2, n2, rfl⟩ := h2
  have c0 := (block_facts hF 0).1
  have c1 := (block_facts hF 1).1
  have c2 := (block_facts hF 2).1
  simp at c0 c1 c2 h4 h5
  simp [results, Tryd.results10, go_sem, h4, h5, c0, c1, c2]

theorem tst_start {w w1 w2 : World} {kb kc : Nat} {T : ByteArray} {K : List Nat} (hb : Below w.heap.size w w1) (hF : w1.heap[w.heap.size]? = some (.cells #[.int .i64 0, .int .i64 0, .int .i64 0] 24)) (hI : IAt w1 kb K)
    (hps : PSt w2 ((w1.alloc (.cells #[.string T, .slice (some ⟨kb, 0, none⟩) K.length kc] 53)).alloc (.cells #[.slice none 0 0] 29)).heap.size T (.func (.func 26) #[] #[.pointer (some ⟨w1.heap.size + 1, 0, none⟩)]) 0)
    (hb2 : Below ((w1.alloc (.cells #[.string T, .slice (some ⟨kb, 0, none⟩) K.length kc] 53)).alloc (.cells #[.slice none 0 0] 29)).heap.size ((w1.alloc (.cells #[.string T, .slice (some ⟨kb, 0, none⟩) K.length kc] 53)).alloc (.cells #[.slice none 0 0] 29)) w2) :
    TSt w w1.heap.size kb kc T K [] 0 (.slice none 0 0) w2 := by
  have hz : ((w1.alloc (.cells #[.string T, .slice (some ⟨kb, 0, none⟩) K.length kc] 53)).alloc (.cells #[.slice none 0 0] 29)).heap.size = w1.heap.size + 2 := by simp
  rw [hz] at hps hb2
  have hb3 : Below w1.heap.size w1 w2 := (((Below.refl _ w1).alloc (Nat.le_refl _) _).alloc (by simp) _).trans (hb2.mono (by omega))
  have h0 : w1.heap.size ≤ w2.heap.size := hb3.size
  have g1 : ((w1.alloc (.cells #[.string T, .slice (some ⟨kb, 0, none⟩) K.length kc] 53)).alloc (.cells #[.slice none 0 0] 29)).heap[w1.heap.size]? = some (.cells #[.string T, .slice (some ⟨kb, 0, none⟩) K.length kc] 53) := by
    rw [alloc_at, if_neg (by simp), alloc_at, if_pos rfl]
  have g2 : ((w1.alloc (.cells #[.string T, .slice (some ⟨kb, 0, none⟩) K.length kc] 53)).alloc (.cells #[.slice none 0 0] 29)).heap[w1.heap.size + 1]? = some (.cells #[.slice none 0 0] 29) := by
    rw [alloc_at, if_pos (by simp)]
  exact ⟨hb.trans (hb3.mono hb.size), lt_of_block hF, (hb3.block _ (lt_of_block hF)).trans hF, (hb2.block _ (by omega)).trans g1, hI.1, hI.below hb3, (hb2.block _ (by omega)).trans g2, ⟨by simp [cellsT], .inl ⟨rfl, rfl⟩⟩, hps⟩

theorem cell_same {w w' : World} {a : Addr} (h : w'.heap[a.block]? = w.heap[a.block]?) : w'.cell? a = w.cell? a := World.cell?_of_block h

theorem PSt.same {w w' : World} {H : Nat} {s : ByteArray} {gv : Value} {i : Nat} (h : PSt w H s gv i) (hb : ∀ k, H ≤ k → k ≤ H + 10 → w'.heap[k]? = w.heap[k]?) (hz : w.heap.size ≤ w'.heap.size) : PSt w' H s gv i := by
  have h0 := h.size
  obtain ⟨v0, v1, v2, v3, v4, hP⟩ := h.bP
  have hm := h.made
  refine ⟨by omega, ?_, ?_, (hb _ (by omega) (by omega)).trans h.bA, ⟨v0, v1, v2, v3, v4, (hb _ (by omega) (by omega)).trans hP⟩, ?_, ⟨hm.lo, by omega, fun q v hv => ?_, ?_, ?_, ?_, ?_, by omega, fun q x hx => ?_⟩⟩
  · rw [cell_same (hb H (by omega) (by omega))]; exact h.cS
  · rw [cell_same (hb (H + 1) (by omega) (by omega))]; exact h.cI
  · rw [cell_same (hb (H + 10) (by omega) (by omega))]; exact h.cAll
  · rw [cell_same (hb (H + 9) (by omega) (by omega))]; exact hm.sh q v hv
  · rw [cell_same (hb (H + 4) (by omega) (by omega))]; exact hm.c0
  · rw [cell_same (hb (H + 7) (by omega) (by omega))]; exact hm.c1
  · rw [cell_same (hb (H + 8) (by omega) (by omega))]; exact hm.c2
  · rw [cell_same (hb (H + 6) (by omega) (by omega))]; exact hm.c3
  · rw [cell_same (hb (H + 5) (by omega) (by omega))]; exact hm.sa.2 q x hx

/-- One token more. -/
theorem TSt.grow {w : World} {j kb kc : Nat} {T : ByteArray} {K : List Nat} {ts : List Tk} {i : Nat} {v v' : Value} {wA W0 w2 : World} {tk : Tk} (h : TSt w j kb kc T K ts i v wA) (hb : Below wA.heap.size wA W0) (hg : W0.grownBy w2 v.ownBlock)
    (hown : w2.ownsRow (j + 13) 35 11 v' (ts.length + 1) (cellsT ts ++ encT tk)) : TSt w j kb kc T K (ts ++ [tk]) i v' (w2.setCell ⟨j + 1, 0, none⟩ v') := by
  have hlo := h.lo
  have hkb := h.kbj
  have hrow : ∀ k, k < j + 13 → some k ≠ v.ownBlock := fun k hk e => by have := (h.own.lt k e.symm).1; omega
  have A : ∀ k, k < wA.heap.size → k < j + 13 → w2.heap[k]? = wA.heap[k]? := fun k hk hj => (hg.block k (Nat.lt_of_lt_of_le hk hb.size) (hrow k hj)).trans (hb.block k hk)
  have S : ∀ k, k < wA.heap.size → k < j + 13 → k ≠ j + 1 → (w2.setCell ⟨j + 1, 0, none⟩ v').heap[k]? = wA.heap[k]? := fun k hk hj hn => (Below.heap_setCell _ _ _ _ hn).trans (A k hk hj)
  have hz : wA.heap.size ≤ (w2.setCell ⟨j + 1, 0, none⟩ v').heap.size := by simp; exact Nat.le_trans hb.size hg.size
  have hps := h.pst.size
  have hO := (A (j + 1) (lt_of_block h.bO) (by omega)).trans h.bO
  refine ⟨⟨?_, ?_, ?_, Nat.le_trans h.old.size hz, fun k hk => (S k (Nat.lt_of_lt_of_le hk h.old.size) (by omega) (by omega)).trans (h.old.block k hk)⟩, h.lo, (S _ (lt_of_block h.bF) (by omega) (by omega)).trans h.bF,
    (S _ (lt_of_block h.bJ) (by omega) (by omega)).trans h.bJ, h.kbj, ⟨Nat.lt_of_lt_of_le h.iat.1 hz, fun q hq => ?_⟩, ?_, ?_, ?_⟩
  · exact hg.os.trans (hb.os.trans h.old.os)
  · exact hg.tape.trans (hb.tape.trans h.old.tape)
  · exact hg.output.trans (hb.output.trans h.old.output)
  · rw [cell_same (S kb h.iat.1 (by omega) (by omega))]; exact h.iat.2 q hq
  · simpa using Go.Joins.block_setCell (i := 0) hO v'
  · rw [cellsT_snoc, List.length_append]
    exact owns_same hown (fun g hg _ => Below.heap_setCell _ _ _ _ (by simp only; omega))
  · exact h.pst.same (fun k h1 h2 => S k (by omega) (by omega) (by omega)) hz

theorem owns_at {w w' : World} {base : Nat} {e : TypeId} {size : Nat} {v : Value} {n : Nat} {xs : List Value} (h : w.ownsRow base e size v n xs) (hb : ∀ g, v.ownBlock = some g → w'.heap[g]? = w.heap[g]?) : w'.ownsRow base e size v n xs := by
  refine ⟨h.1, ?_⟩
  rcases h.2 with h | ⟨g, cap, cur, hv, hg, hh, r⟩
  · exact .inl h
  · exact .inr ⟨g, cap, cur, hv, hg, (hb g (by rw [hv]; rfl)).trans hh, r⟩

/-- The piece at hand is laid anew. -/
theorem TSt.far {w : World} {j kb kc : Nat} {T : ByteArray} {K : List Nat} {ts : List Tk} {i : Nat} {v : Value} {wr W : World} (h : TSt w j kb kc T K ts i v wr) {X : Nat} (hX : j + 13 ≤ X) {c : Array Value} (hb : wr.heap[X]? = some (.cells c 64))
    (hold : Below w.heap.size w W) (hz : W.heap.size = wr.heap.size) (F : ∀ k, k ≠ X → W.heap[k]? = wr.heap[k]?) : TSt w j kb kc T K ts i v W := by
  have hlo := h.lo
  have hkb := h.kbj
  refine ⟨hold, h.lo, (F _ (by omega)).trans h.bF, (F _ (by omega)).trans h.bJ, h.kbj, ⟨by rw [hz]; exact h.iat.1, fun q hq => ?_⟩, (F _ (by omega)).trans h.bO, owns_at h.own (fun g hg => F g (fun e => ?_)), h.pst.same (fun k h1 h2 => F k (by omega)) (by rw [hz]; exact Nat.le_refl _)⟩
  · rw [cell_same (F kb (by omega))]; exact h.iat.2 q hq
  · subst e
    obtain ⟨c', fz, hc'⟩ := row_kind h.own g hg
    rw [hb] at hc'
    injection hc' with hc'
    injection hc' with _ he
    exact absurd he (by decide)
theorem five_old {B : Nat} {w wr : World} (h : Below B w wr) {X : Nat} (ho : B ≤ X) (x0 x1 x2 x3 x4 : Value) :
    Below B w (((((wr.setCell ⟨X, 0, none⟩ x0).setCell ⟨X, 1, none⟩ x1).setCell ⟨X, 2, none⟩ x2).setCell ⟨X, 3, none⟩ x3).setCell ⟨X, 4, none⟩ x4) :=
  ((((h.setCell (p := ⟨X, 0, none⟩) ho x0).setCell (p := ⟨X, 1, none⟩) ho x1).setCell (p := ⟨X, 2, none⟩) ho x2).setCell (p := ⟨X, 3, none⟩) ho x3).setCell (p := ⟨X, 4, none⟩) ho x4

theorem tk_text (T : ByteArray) (J : List UInt8) (hT : T.data.toList = J) (p : Pc) : (⟨(textOfPc J p).toArray⟩ : ByteArray) = T.extract p.lo p.hi := by
  have h : (T.extract p.lo p.hi).data.toList = textOfPc J p := by rw [extract_data, hT]; rfl
  rw [← h]

theorem whereI_bd (K : List Nat) (B : Nat) (h : ∀ x ∈ K, x ≤ B) (k : Int) : -1 ≤ whereI K k ∧ whereI K k ≤ B := by
  unfold whereI
  split
  · rename_i hk
    have hj : k.toNat < K.length := by omega
    have hm : K.getD k.toNat 0 ≤ B := by rw [List.getD, List.getElem?_eq_getElem hj]; exact h _ (List.getElem_mem hj)
    omega
  · omega
theorem kept_bd (l : List UInt8) (n : Nat) (hn : l.length = n) : ∀ x ∈ kept l ++ [n], x ≤ n := by
  intro x hx
  rcases List.mem_append.1 hx with h | h
  · have := (went_kept l).rising.2 x h; omega
  · simp at h; omega

theorem info_tok : (Tryd.prog.info? 35).map (fun i => (i.zero, i.size, i.bytes)) = some (some (.agg #[.int .i64 0, .string ByteArray.empty, .bool false, .bool false, .int .i64 0, .int .i64 0, .int .i64 0, .int .i64 0, .slice none 0 0, .slice none 0 0, .int .i64 0]), 11, 120) := by kernel_rfl

theorem eleven_new (w : World) (t : Tk) (T : TypeId) : ∀ j x, (encT t)[j]? = some x → (w.alloc (.cells (encT t).toArray T)).cell? ((⟨w.heap.size, 0, none⟩ : Addr).add j) = some x := by
  intro j x hx
  rw [Addr.add_lit, Nat.zero_add, World.cell?_alloc_mark]
  simpa using hx
theorem eleven_one (x : Tk) : ∀ u ∈ encT x, u.oneCell' = true := by
  intro u hu
  simp [encT] at hu
  rcases hu with rfl | rfl | rfl | rfl | rfl | rfl | rfl | rfl | rfl | rfl | rfl <;> rfl

theorem bcell {W w1 : World} (hb : Below W.heap.size W w1) : (∀ b o, b < W.heap.size → w1.cell? ⟨b, o, none⟩ = W.cell? ⟨b, o, none⟩) ∧ (∀ b o, b < W.heap.size → w1.frozen? ⟨b, o, none⟩ = W.frozen? ⟨b, o, none⟩) :=
  ⟨fun b o h => hb.cell (p := ⟨b, o, none⟩) h, fun b o h => hb.frozen (p := ⟨b, o, none⟩) h⟩

theorem three_set {w : World} {g : Nat} {a0 a1 a2 : Value} {T : TypeId} (h : w.heap[g]? = some (.cells #[a0, a1, a2] T)) (x0 x1 x2 : Value) :
    (((w.setCell ⟨g, 0, none⟩ x0).setCell ⟨g, 1, none⟩ x1).setCell ⟨g, 2, none⟩ x2).heap[g]? = some (.cells #[x0, x1, x2] T) := by
  have h0 := Go.Joins.block_setCell (i := 0) h x0
  have h1 := Go.Joins.block_setCell (i := 1) h0 x1
  have h2 := Go.Joins.block_setCell (i := 2) h1 x2
  simpa using h2
theorem three_far (w : World) (g k : Nat) (x0 x1 x2 : Value) (hne : k ≠ g) : (((w.setCell ⟨g, 0, none⟩ x0).setCell ⟨g, 1, none⟩ x1).setCell ⟨g, 2, none⟩ x2).heap[k]? = w.heap[k]? := by
  rw [Below.heap_setCell _ _ _ _ hne, Below.heap_setCell _ _ _ _ hne, Below.heap_setCell _ _ _ _ hne]

theorem row_cap {w : World} {base : Nat} {e : TypeId} {size : Nat} {v : Value} {n m c : Nat} {a : Option Addr} {xs : List Value} (h : w.ownsRow base e size v n xs) (hv : v = .slice a m c) : n ≤ c := by
  rcases h.2 with ⟨h1, h0⟩ | ⟨g, cap, cur, h1, hb, hg, hn, hc, hs, ht⟩
  · omega
  · rw [h1] at hv
    injection hv with _ _ hcap
    omega

/-- The end of Tokens: its fault is laid. -/
theorem TSt.finish {w : World} {j kb kc : Nat} {T : ByteArray} {K : List Nat} {ts : List Tk} {i : Nat} {v : Value} {wr : World} (h : TSt w j kb kc T K ts i v wr) (x0 x1 x2 : Value) :
    (((wr.setCell ⟨w.heap.size, 0, none⟩ x0).setCell ⟨w.heap.size, 1, none⟩ x1).setCell ⟨w.heap.size, 2, none⟩ x2).heap[w.heap.size]? = some (.cells #[x0, x1, x2] 24) ∧
    Below w.heap.size w (((wr.setCell ⟨w.heap.size, 0, none⟩ x0).setCell ⟨w.heap.size, 1, none⟩ x1).setCell ⟨w.heap.size, 2, none⟩ x2) ∧
    ∃ a c, v = .slice a ts.length c ∧ TAt (((wr.setCell ⟨w.heap.size, 0, none⟩ x0).setCell ⟨w.heap.size, 1, none⟩ x1).setCell ⟨w.heap.size, 2, none⟩ x2) a ts ∧ ts.length ≤ c := by
  have hlo := h.lo
  have hrow := owns_same h.own (fun g hg _ => three_far wr w.heap.size g x0 x1 x2 (by omega))
  obtain ⟨a, c, hv, hta⟩ := TAt.of_row hrow
  exact ⟨three_set h.bF x0 x1 x2, ((h.old.setCell (Nat.le_refl _) x0).setCell (Nat.le_refl _) x1).setCell (Nat.le_refl _) x2, a, c, hv, hta, row_cap hrow hv⟩

/-- At the head of a round: the piece at hand lies in a block of its own. -/
structure LoopSt (file : Int) (L : List UInt8) (w : World) (j kb kc : Nat) (T : ByteArray) (K : List Nat) (X i f : Nat) (acc : List Pc) (v : Value) (wr : World) : Prop where
  few : T.size < i + f
  eq : pcs T.data.toList = pcsF T.data.toList f i acc
  tst : TSt w j kb kc T K (tksOf file L acc) (nextAt T.data.toList i (behindT (tksOf file L acc))) v wr
  hX : j + 13 ≤ X
  bX : wr.heap[X]? = some (.cells #[.int .i64 (nextPc T.data.toList i (behindT (tksOf file L acc))).kind, .int .i64 (nextPc T.data.toList i (behindT (tksOf file L acc))).lo, .int .i64 (nextPc T.data.toList i (behindT (tksOf file L acc))).hi,
    .bool (nextPc T.data.toList i (behindT (tksOf file L acc))).space, .bool (nextPc T.data.toList i (behindT (tksOf file L acc))).first] 64)
  len : acc.length ≤ i

theorem loop_again {file : Int} {L : List UInt8} {w : World} {j kb kc : Nat} {T : ByteArray} {K : List Nat} {X i f : Nat} {acc : List Pc} {v : Value} {wr : World}
    (hS : TSt w j kb kc T K (tksOf file L acc) (nextAt T.data.toList i (behindT (tksOf file L acc))) v wr) {x0 x1 x2 x3 x4 : Value} (hX : wr.heap[X]? = some (.cells #[x0, x1, x2, x3, x4] 64)) (hXj : j + 13 ≤ X) (he : pcs T.data.toList = pcsF T.data.toList f i acc) (hf : T.size < i + f) (hl : acc.length ≤ i) :
    LoopSt file L w j kb kc T K X i f acc v (((((wr.setCell ⟨X, 0, none⟩ (.int .i64 (nextPc T.data.toList i (behindT (tksOf file L acc))).kind)).setCell ⟨X, 1, none⟩ (.int .i64 (nextPc T.data.toList i (behindT (tksOf file L acc))).lo)).setCell ⟨X, 2, none⟩ (.int .i64 (nextPc T.data.toList i (behindT (tksOf file L acc))).hi)).setCell ⟨X, 3, none⟩
      (.bool (nextPc T.data.toList i (behindT (tksOf file L acc))).space)).setCell ⟨X, 4, none⟩ (.bool (nextPc T.data.toList i (behindT (tksOf file L acc))).first)) := by
  have hlo := hS.lo
  have hold := five_old hS.old (X := X) (by omega) (.int .i64 (nextPc T.data.toList i (behindT (tksOf file L acc))).kind) (.int .i64 (nextPc T.data.toList i (behindT (tksOf file L acc))).lo) (.int .i64 (nextPc T.data.toList i (behindT (tksOf file L acc))).hi) (.bool (nextPc T.data.toList i (behindT (tksOf file L acc))).space) (.bool (nextPc T.data.toList i (behindT (tksOf file L acc))).first)
  have hset := five_set hX (.int .i64 (nextPc T.data.toList i (behindT (tksOf file L acc))).kind) (.int .i64 (nextPc T.data.toList i (behindT (tksOf file L acc))).lo) (.int .i64 (nextPc T.data.toList i (behindT (tksOf file L acc))).hi) (.bool (nextPc T.data.toList i (behindT (tksOf file L acc))).space) (.bool (nextPc T.data.toList i (behindT (tksOf file L acc))).first)
  have hfar := fun k hk => five_far wr X k (.int .i64 (nextPc T.data.toList i (behindT (tksOf file L acc))).kind) (.int .i64 (nextPc T.data.toList i (behindT (tksOf file L acc))).lo) (.int .i64 (nextPc T.data.toList i (behindT (tksOf file L acc))).hi) (.bool (nextPc T.data.toList i (behindT (tksOf file L acc))).space) (.bool (nextPc T.data.toList i (behindT (tksOf file L acc))).first) hk
  have hz : (((((wr.setCell ⟨X, 0, none⟩ (.int .i64 (nextPc T.data.toList i (behindT (tksOf file L acc))).kind)).setCell ⟨X, 1, none⟩ (.int .i64 (nextPc T.data.toList i (behindT (tksOf file L acc))).lo)).setCell ⟨X, 2, none⟩ (.int .i64 (nextPc T.data.toList i (behindT (tksOf file L acc))).hi)).setCell ⟨X, 3, none⟩
      (.bool (nextPc T.data.toList i (behindT (tksOf file L acc))).space)).setCell ⟨X, 4, none⟩ (.bool (nextPc T.data.toList i (behindT (tksOf file L acc))).first)).heap.size = wr.heap.size := by simp
  generalize (((((wr.setCell ⟨X, 0, none⟩ (.int .i64 (nextPc T.data.toList i (behindT (tksOf file L acc))).kind)).setCell ⟨X, 1, none⟩ (.int .i64 (nextPc T.data.toList i (behindT (tksOf file L acc))).lo)).setCell ⟨X, 2, none⟩ (.int .i64 (nextPc T.data.toList i (behindT (tksOf file L acc))).hi)).setCell ⟨X, 3, none⟩
      (.bool (nextPc T.data.toList i (behindT (tksOf file L acc))).space)).setCell ⟨X, 4, none⟩ (.bool (nextPc T.data.toList i (behindT (tksOf file L acc))).first)) = W at *
  exact ⟨hf, he, hS.far hXj hX hold hz hfar, hXj, hset, hl⟩

theorem LoopSt.next {file : Int} {L : List UInt8} {w : World} {j kb kc : Nat} {T : ByteArray} {K : List Nat} {X i f : Nat} {acc : List Pc} {v : Value} {wr : World} (h : LoopSt file L w j kb kc T K X i f acc v wr) (hT : T.data.toList = bytesAt L (kept L)) (hi : i ≤ T.size) :
    pcs T.data.toList = if (nextPc T.data.toList i (behindT (tksOf file L acc))).kind = -1 then .inl (nextPc T.data.toList i (behindT (tksOf file L acc))).lo
    else if (nextPc T.data.toList i (behindT (tksOf file L acc))).kind = 0 then .inr acc
    else pcsF T.data.toList (f - 1) (nextAt T.data.toList i (behindT (tksOf file L acc))) (acc ++ [nextPc T.data.toList i (behindT (tksOf file L acc))]) := by
  have hf := h.few
  obtain ⟨f', rfl⟩ : ∃ f', f = f' + 1 := ⟨f - 1, by omega⟩
  rw [h.eq, pcsF_next, behind_same, hT]
  rfl

set_option maxRecDepth 100000 in
set_option maxHeartbeats 2000000 in
theorem Tokens_few (file : Int) (s : ByteArray) (w : World) (hE : Env w) (hs : s.size ≤ 3000) :
    Calls Tryd.prog 10 #[.int .i64 file, .string s] w (TokPost file s.data.toList w) := by
  have HT := hid (fun W => Text_any s W (by omega))
  have HP := hid (fun (T : ByteArray) O W (h : Env W) => pieces_any T 26 #[.pointer (some ⟨O, 0, none⟩)] W h)
  go_enter Tryd.func10, Tryd.ntmps10
  go_wp2_with fail
  refine (HT.out _).mono ?_
  rintro e w1 ⟨kb, kc, rfl, hI, hb1⟩
  have hbw : Below w.heap.size w w1 := ((Below.refl _ w).alloc (Nat.le_refl _) _).trans (hb1.mono (by simp))
  have hF : w1.heap[w.heap.size]? = some (.cells #[.int .i64 0, .int .i64 0, .int .i64 0] 24) := (hb1.block _ (by simp)).trans (heap_alloc_new w _)
  obtain ⟨T, hT⟩ : ∃ T : ByteArray, (⟨(bytesAt s.data.toList (kept s.data.toList)).toArray⟩ : ByteArray) = T := ⟨_, rfl⟩
  have HTl : Hid (T.data.toList = bytesAt s.data.toList (kept s.data.toList)) := by show _ = _; rw [← hT]
  obtain ⟨K, hK⟩ : ∃ K : List Nat, kept s.data.toList ++ [s.size] = K := ⟨_, rfl⟩
  have hKl : (kept s.data.toList).length + 1 = K.length := by rw [← hK]; simp
  have HK := hid hK
  have hTz : T.size ≤ s.size := by
    have h1 := size_data T
    rw [HTl.out, bytesAt_length] at h1
    have h2 := (went_kept s.data.toList).few
    rw [size_data] at h2
    omega
  rw [hK] at hI
  rw [hT, hKl]
  have HW := hid (show Below w.heap.size w w1 ∧ w1.heap[w.heap.size]? = some (.cells #[.int .i64 0, .int .i64 0, .int .i64 0] 24) ∧ IAt w1 kb K from ⟨hbw, hF, hI⟩)
  have HKl := hid hKl
  clear hb1 hbw hF hI hT hK hKl
  go_wp2_with fail
  refine (HP.out T (w1.heap.size + 1) _ (hE.below (((HW.out.1.alloc HW.out.1.size _).alloc (by have := HW.out.1.size; simp; omega) _)))).mono ?_
  rintro e w2 ⟨rfl, hps, hb2⟩
  have HS : Hid (TSt w w1.heap.size kb kc T K [] 0 (.slice none 0 0) w2) := tst_start HW.out.1 HW.out.2.1 HW.out.2.2 hps hb2
  clear hps hb2
  have hTz2 : T.size ≤ 3000 := by omega
  have HW1 := hid HW.out.1.size
  obtain ⟨j, hj⟩ : ∃ j, w1.heap.size = j := ⟨_, rfl⟩
  rw [hj] at HS
  have HM := hid hE.1
  go_wp2_with fail
  clear hj
  refine (tst_next HS.out HM.out (Nat.zero_le _) (by omega) (by simp)).mono ?_
  rintro e w3 ⟨rfl, hS3, hk3⟩
  have HBeh : Hid (behindT [] = false) := rfl
  clear HS hk3 HW HW1 HP HT
  have HS3 := hid hS3
  have hz3 : j + 13 ≤ w3.heap.size := by have := hS3.pst.size; omega
  clear hS3
  unfold pieceV
  have HWh := hid (fun (k : Int) W (h : IAt W kb K) => Where_any T kb kc K k W h)
  have HLn := hid (fun (k : Int) W => Lines_any s k W (by omega))
  obtain ⟨ti, hti, htz0, htz1, htz2⟩ := info_parts info_tok
  go_wp2_with fail
  go_loopg [9] T.size (fun g x wr => ∃ (X i f : Nat) (acc : List Pc) (v : Value), x = .pointer (some ⟨X, 0, none⟩) ∧ i + g = T.size ∧ Hid (LoopSt file s.data.toList w j kb kc T K X i f acc v wr))
  case atStart =>
    refine ⟨w3.heap.size, 0, T.size + 1, [], .slice none 0 0, rfl, by omega, by omega, ?_, HS3.out.below ((Below.refl _ w3).alloc (Nat.le_refl _) _), hz3, heap_alloc_new _ _, by simp⟩
    unfold pcs; rw [size_data]
  case round =>
    clear HS3 hz3
    obtain ⟨X, i, f, acc, v, rfl, hig, HL⟩ := hrel
    have HNx := hid (HL.out.next HTl.out (by omega))
    have HLT := hid (tksOf_length file s.data.toList acc)
    have hO := block_facts HL.out.tst.bO 0
    have hJ0 := block_facts HL.out.tst.bJ 0
    have hJ1 := block_facts HL.out.tst.bJ 1
    have hF0 := block_facts HL.out.tst.bF 0
    have hF1 := block_facts HL.out.tst.bF 1
    have hF2 := block_facts HL.out.tst.bF 2
    have hX0 := block_facts HL.out.bX 0
    have hX1 := block_facts HL.out.bX 1
    have hX2 := block_facts HL.out.bX 2
    have hX3 := block_facts HL.out.bX 3
    have hX4 := block_facts HL.out.bX 4
    simp at hO hJ0 hJ1 hF0 hF1 hF2 hX0 hX1 hX2 hX3 hX4
    obtain ⟨o1, o2⟩ := hO
    obtain ⟨j01, j02⟩ := hJ0
    obtain ⟨j11, j12⟩ := hJ1
    obtain ⟨f01, f02⟩ := hF0
    obtain ⟨f11, f12⟩ := hF1
    obtain ⟨f21, f22⟩ := hF2
    obtain ⟨x01, x02⟩ := hX0
    obtain ⟨x11, x12⟩ := hX1
    obtain ⟨x21, x22⟩ := hX2
    obtain ⟨x31, x32⟩ := hX3
    obtain ⟨x41, x42⟩ := hX4
    obtain ⟨av, cv, hvv⟩ : ∃ a c, v = .slice a acc.length c := by obtain ⟨a, c, h, _⟩ := TAt.of_row HL.out.tst.own; exact ⟨a, c, by rw [h, HLT.out]⟩
    subst hvv
    have HB := hid HL.out.tst.old
    have q1 := lt_of_block HL.out.tst.bO
    have q2 := lt_of_block HL.out.tst.bJ
    have q3 := lt_of_block HL.out.bX
    have q4 := lt_of_block HL.out.tst.bF
    have hlo := HL.out.tst.lo
    have hXl := HL.out.hX
    have HP : Hid (nextPc T.data.toList i (behindT (tksOf file s.data.toList acc)) = nextPc T.data.toList i (behindT (tksOf file s.data.toList acc))) := rfl
    have HIn := hid (nextPc_in T.data.toList i (behindT (tksOf file s.data.toList acc)) (by rw [size_data]; omega))
    have HLe := hid (nextAt_le T.data.toList i (behindT (tksOf file s.data.toList acc)) (by rw [size_data]; omega))
    generalize hpp : nextPc T.data.toList i (behindT (tksOf file s.data.toList acc)) = p at x01 x11 x21 x31 x41 HNx HIn HLe HP
    have HPP := hid hpp
    clear hpp HP
    obtain ⟨pk, pl, ph, psp, pfi⟩ := p
    dsimp only at x01 x11 x21 x31 x41 HNx HIn HLe
    by_cases hk0 : pk = 0
    · subst hk0
      have HFn := hid (HL.out.tst.finish (.int .i64 0) (.int .i64 (-1)) (.int .i64 0))
      have HR : Hid (toksF file s.data.toList = (tksOf file s.data.toList acc, (0, -1, 0))) := by
        show _ = _
        unfold toksF
        rw [if_neg (by rw [size_data]; omega), ← HTl.out, HNx.out]
        rfl
      go_wp2
      obtain ⟨g1, g2, a', c', hv', hta, hcap⟩ := HFn.out
      simp only [HLT.out, Value.slice.injEq, true_and] at hv'
      obtain ⟨rfl, rfl⟩ := hv'
      refine bodyPost_ret (tok_ret g1 ⟨_, _, rfl⟩ ⟨_, _, rfl⟩ ⟨_, _, rfl⟩ _ rfl rfl) rfl ⟨av, cv, ?_, by rw [HR.out]; exact hta, g2, by rw [HR.out]; exact hcap⟩
      rw [HR.out]; simp [faultV]
    · have hkb0 : (pk != 0) = true := by simpa using hk0
      by_cases hk1 : pk = -1
      · subst hk1
        have HR : Hid (toksF file s.data.toList = ([], (9, file, whereI K pl))) := by
          show _ = _
          unfold toksF
          rw [if_neg (by rw [size_data]; omega), ← HTl.out, HNx.out, size_data, HK.out]
          rfl
        have HIa := hid HL.out.tst.iat
        go_wp2_with fail
        refine (HWh.out _ _ HIa.out).mono ?_
        rintro e wA ⟨rfl, hbA⟩
        have HFn := hid ((HL.out.tst.below hbA).finish (.int .i64 9) (.int .i64 file) (.int .i64 (whereI K pl)))
        obtain ⟨hc, hf⟩ := bcell hbA
        clear hbA
        go_wp2
        obtain ⟨g1, g2, _⟩ := HFn.out
        refine bodyPost_ret (tok_ret g1 ⟨_, _, rfl⟩ ⟨_, _, rfl⟩ ⟨_, _, rfl⟩ _ rfl rfl) rfl ⟨none, 0, ?_, by rw [HR.out]; exact .inl rfl, g2, by rw [HR.out]; exact Nat.zero_le _⟩
        rw [HR.out]; rfl
      · have hkb1 : (pk == -1) = false := by simpa using hk1
        have HIa := hid HL.out.tst.iat
        go_wp2_with fail
        refine (HWh.out _ _ HIa.out).mono ?_
        rintro e wA ⟨rfl, hbA⟩
        have HSA := hid (HL.out.tst.below hbA)
        have hXA : wA.heap[X]? = some (.cells #[.int .i64 pk, .int .i64 pl, .int .i64 ph, .bool psp, .bool pfi] 64) := by
          have := (hbA.block _ (lt_of_block HL.out.bX)).trans HL.out.bX
          rw [HPP.out] at this
          exact this
        have HXA := hid hXA
        have HKp : Hid (∀ W : World, W.heap[j]? = wA.heap[j]? ∧ W.heap[j + 1]? = wA.heap[j + 1]? ∧ W.heap[X]? = wA.heap[X]? →
            W.cell? ⟨j + 1, 0, none⟩ = some (.slice av acc.length cv) ∧ W.frozen? ⟨j + 1, 0, none⟩ = false ∧ W.cell? ⟨X, 0, none⟩ = some (.int .i64 pk) ∧ W.cell? ⟨X, 1, none⟩ = some (.int .i64 (pl : Int)) ∧ W.cell? ⟨X, 2, none⟩ = some (.int .i64 (ph : Int)) ∧ W.cell? ⟨X, 3, none⟩ = some (.bool psp) ∧ W.cell? ⟨X, 4, none⟩ = some (.bool pfi) ∧
            W.cell? ⟨j, 0, none⟩ = some (.string T) ∧ W.cell? ⟨j, 1, none⟩ = some (.slice (some ⟨kb, 0, none⟩) K.length kc)) := by
          rintro W ⟨h1, h2, h3⟩
          have hO := block_facts (h2.trans HSA.out.bO)
          have hX := block_facts (h3.trans HXA.out)
          have hJ := block_facts (h1.trans HSA.out.bJ)
          exact ⟨(hO 0).1, (hO 0).2, (hX 0).1, (hX 1).1, (hX 2).1, (hX 3).1, (hX 4).1, (hJ 0).1, (hJ 1).1⟩
        have qa1 := lt_of_block HSA.out.bJ
        have qa2 := lt_of_block HSA.out.bO
        have qa3 := lt_of_block hXA
        have HKb : Hid (∀ W : World, Below wA.heap.size wA W → W.heap[j]? = wA.heap[j]? ∧ W.heap[j + 1]? = wA.heap[j + 1]? ∧ W.heap[X]? = wA.heap[X]?) := fun W h => ⟨h.block _ qa1, h.block _ qa2, h.block _ qa3⟩
        have HWh2 : Hid (∀ W, Below wA.heap.size wA W → Calls Tryd.prog 28 #[.agg #[.string T, .slice (some ⟨kb, 0, none⟩) K.length kc], .int .i64 ((ph : Int) - 1)] W fun e w' => e = .returned (.int .i64 (whereI K ((ph : Int) - 1))) ∧ Below wA.heap.size wA w') := fun W hW =>
          (HWh.out ((ph : Int) - 1) W (HSA.out.iat.below hW)).mono fun e w' ⟨he, hb⟩ => ⟨he, hW.trans (hb.mono hW.size)⟩
        have HOw : Hid (∀ W, Below wA.heap.size wA W → W.ownsRow (j + 13) 35 11 (.slice av acc.length cv) acc.length (cellsT (tksOf file s.data.toList acc))) := fun W hW => by
          have := owns_same HSA.out.own (fun g _ hl => hW.block g hl)
          rw [HLT.out] at this; exact this
        have HGr : Hid (∀ W0 w4 : World, Below wA.heap.size wA W0 → W0.grownBy w4 (Value.slice av acc.length cv).ownBlock → w4.heap[j]? = wA.heap[j]? ∧ w4.heap[j + 1]? = wA.heap[j + 1]? ∧ w4.heap[X]? = wA.heap[X]?) := fun W0 w4 hW hg => by
          have hrow : ∀ k, k < j + 13 → some k ≠ (Value.slice av acc.length cv).ownBlock := fun k hk e => by have := (HSA.out.own.lt k e.symm).1; omega
          have hXr : some X ≠ (Value.slice av acc.length cv).ownBlock := fun e => by
            obtain ⟨c, fz, hcc⟩ := row_kind (HOw.out wA (Below.refl _ _)) X e.symm
            rw [HXA.out] at hcc
            injection hcc with hcc
            injection hcc with _ he
            exact absurd he (by decide)
          exact ⟨(hg.block j (Nat.lt_of_lt_of_le qa1 hW.size) (hrow _ (by omega))).trans (hW.block _ qa1), (hg.block (j + 1) (Nat.lt_of_lt_of_le qa2 hW.size) (hrow _ (by omega))).trans (hW.block _ qa2), (hg.block X (Nat.lt_of_lt_of_le qa3 hW.size) hXr).trans (hW.block _ qa3)⟩
        obtain ⟨y1, y2, y3, y4, y5, y6, y7, y8, y9⟩ := HKp.out wA ⟨rfl, rfl, rfl⟩
        have hin := HIn.out hk1 hk0
        rw [size_data] at hin
        have hacc := HL.out.len
        have hps := HSA.out.pst.size
        obtain ⟨i1, i2, i3, i4⟩ := hin
        have HI4 := hid i4
        have hpl : (0 : Int) ≤ (pl : Int) := by omega
        have hplh : (pl : Int) ≤ (ph : Int) := by omega
        have hphT : (ph : Int) ≤ (T.size : Int) := by omega
        have hwr1 : IntKind.i64.wrap ((ph : Int) - 1) = (ph : Int) - 1 := by rw [IntKind.wrap_i64]; omega
        obtain ⟨hwK1, hwK2⟩ := whereI_bd K s.size (by rw [← HK.out]; exact kept_bd _ _ (size_data s)) ((ph : Int) - 1)
        have hwr2 : IntKind.i64.wrap (whereI K ((ph : Int) - 1) + 1) = whereI K ((ph : Int) - 1) + 1 := by rw [IntKind.wrap_i64]; omega
        clear o1 o2 j01 j02 j11 j12 f01 f02 f11 f12 f21 f22 x01 x02 x11 x12 x21 x22 x31 x32 x41 x42 hbA HIa q1 q2 q3 q4 i4 hXA
        go_wp2_with fail
        have HW3 := hid (fun p : Later wA => HWh.out ((ph : Int) - 1) p.W (HSA.out.iat.below p.hb))
        have HL3 : Hid (∀ (k : Int) (p : Later wA), Calls Tryd.prog 29 #[.string s, .int .i64 k] p.W fun e w' => e = .returned (.int .i64 (linesI s.data.toList k)) ∧ Below p.W.heap.size p.W w') := fun k p =>
          (HLn.out k p.W).mono fun e w' ⟨he, hw⟩ => ⟨he, by rw [hw]; exact Below.refl _ _⟩
        have z1 := Later.cell y1
        have z3 := Later.cell y3
        have z4 := Later.cell y4
        have z5 := Later.cell y5
        have z6 := Later.cell y6
        have z7 := Later.cell y7
        have z8 := Later.cell y8
        have z9 := Later.cell y9
        have hnn : Nonempty (Later wA) := ⟨⟨_, Below.refl _ _⟩⟩
        refine region_load_tail 25 (.slice av acc.length cv) _ (by kernel_rfl) (by kernel_rfl) rfl (by kernel_rfl) (fun p => by simp [execOp, go_sem, z1]) ?_
        simp only [List.take_succ_cons, List.take_zero, List.drop_succ_cons, List.drop_zero]
        repeat (quiet_step (first | (go_at_call 28; exact Calls.later (HW3.out _)) | (go_at_call 29; exact Calls.later (HL3.out _ _))))
        refine wpQuiet_nil ?_
        intro p
        have hbB := p.hb
        obtain ⟨wB, hwB⟩ : ∃ wB, p.W = wB := ⟨_, rfl⟩
        rw [hwB] at hbB ⊢
        have HBB := hid hbB
        have hszB := hbB.size
        have hown := HOw.out wB hbB
        clear z1 z3 z4 z5 z6 z7 z8 z9 hnn HW3 HL3 hwB hbB y1 y2 y3 y4 y5 y6 y7 y8 y9
        go_wp2_with fail
        refine ⟨⟨⟨_, HBB.out.alloc HBB.out.size _⟩, rfl⟩, ?_⟩
        go_wp2_with (at_builtin; refine wpList_append_own _ rfl _ _ 29 rfl (j + 13) 35 ti _ 11 120 Tryd.underlying29 hti htz0 htz1 htz2 rfl (by decide) _ _ _ rfl (hown.alloc _) ⟨wB.heap.size, 0, none⟩ 1 1 (encT ⟨pk, T.extract pl ph, psp, pfi, file, whereI K pl, whereI K ((ph : Int) - 1) + 1, linesI s.data.toList (whereI K pl)⟩) rfl rfl (eleven_new wB _ _) (eleven_one _) (by unfold maxLen; omega) (by omega) (by simp; omega) ?_)
        intro v' w4 hown2 hg2 _
        obtain ⟨g4, c4, rfl⟩ := some_row hown2 (pos_row hown2)
        have hW0 := HBB.out.alloc HBB.out.size (.cells #[.int .i64 pk, .string (T.extract pl ph), .bool psp, .bool pfi, .int .i64 file, .int .i64 (whereI K pl), .int .i64 (whereI K ((ph : Int) - 1) + 1), .int .i64 (linesI s.data.toList (whereI K pl)), .slice none 0 0, .slice none 0 0, .int .i64 0] 35)
        have hS3 := HGr.out _ _ hW0 hg2
        obtain ⟨y1, y2, y3, y4, y5, y6, y7, y8, y9⟩ := HKp.out w4 hS3
        have hz4 : wA.heap.size ≤ w4.heap.size := Nat.le_trans hW0.size hg2.size
        have HTk : Hid (tkOf file s.data.toList ⟨pk, pl, ph, psp, pfi⟩ = ⟨pk, T.extract pl ph, psp, pfi, file, whereI K pl, whereI K ((ph : Int) - 1) + 1, linesI s.data.toList (whereI K pl)⟩) := by
          show _ = _
          unfold tkOf
          rw [tk_text T _ HTl.out, size_data, HK.out]
        rw [← HTk.out, ← HLT.out] at hown2
        have HS4 := hid (HSA.out.grow hW0 hg2 hown2)
        rw [← tksOf_snoc, HLT.out, HI4.out] at HS4
        clear hown hown2 hg2 hW0 hS3 HOw HGr HWh2 HKb HBB hszB
        have y10 : w4.frozen? ⟨j + 1, 0, none⟩ = false := y2
        have n1 : X ≠ j + 1 := by omega
        have n2 : j ≠ j + 1 := by omega
        have q1 : j + 1 < w4.heap.size := by omega
        have q2 : X < w4.heap.size := by omega
        go_wp2_with fail
        refine NoPanic.normal ?_
        go_wp2_with fail
        have hsz5 : (w4.setCell ⟨j + 1, 0, none⟩ (.slice (some ⟨g4, 0, none⟩) (acc.length + 1) c4)).heap.size = w4.heap.size := by simp
        have HS5 := hid (HS4.out.below ((Below.refl _ _).alloc (Nat.le_refl _) (.cells #[.int .i64 pk, .int .i64 (pl : Int), .int .i64 (ph : Int), .bool psp, .bool pfi] 64)))
        have hX5 := heap_alloc_new (w4.setCell ⟨j + 1, 0, none⟩ (.slice (some ⟨g4, 0, none⟩) (acc.length + 1) c4)) (.cells #[.int .i64 pk, .int .i64 (pl : Int), .int .i64 (ph : Int), .bool psp, .bool pfi] 64)
        rw [hsz5] at hX5
        have HLT2 := hid (tksOf_length file s.data.toList (acc ++ [⟨pk, pl, ph, psp, pfi⟩]))
        refine (tst_next HS5.out HM.out (by omega) (by omega) (by rw [HLT2.out]; simp; omega)).mono ?_
        rintro e w6 ⟨rfl, hS6, hk6⟩
        have hX6 := (hk6.block w4.heap.size (lt_of_block hX5) (fun h => by rcases h with h | h <;> omega)).trans hX5
        have HS6 := hid hS6
        have HX6 := hid hX6
        have HEq : Hid (pcs T.data.toList = pcsF T.data.toList (f - 1) ph (acc ++ [⟨pk, pl, ph, psp, pfi⟩])) := by
          show _ = _
          rw [HNx.out, if_neg hk1, if_neg hk0, HI4.out]
        have hfew := HL.out.few
        unfold pieceV
        clear hS6 hk6 hX5 HS5 HS4 HNx y1 y2 y3 y4 y5 y6 y7 y8 y9 y10 HIn HLe HL HSA HXA HKp
        have h60 := block_facts hX6 0
        have h61 := block_facts hX6 1
        have h62 := block_facts hX6 2
        have h63 := block_facts hX6 3
        have h64 := block_facts hX6 4
        simp at h60 h61 h62 h63 h64
        obtain ⟨u01, u02⟩ := h60
        obtain ⟨u11, u12⟩ := h61
        obtain ⟨u21, u22⟩ := h62
        obtain ⟨u31, u32⟩ := h63
        obtain ⟨u41, u42⟩ := h64
        clear hX6
        have hXj : j + 13 ≤ w4.heap.size := by omega
        have HEnd : Hid (LoopSt file s.data.toList w j kb kc T K w4.heap.size ph (f - 1) (acc ++ [⟨pk, pl, ph, psp, pfi⟩]) (.slice (some ⟨g4, 0, none⟩) (acc.length + 1) c4) _) :=
          loop_again HS6.out HX6.out hXj HEq.out (by omega) (by simp; omega)
        go_wp2
        go_roundg (T.size - ph)
        case measure => omega
        case rel => exact ⟨w4.heap.size, ph, f - 1, _, _, rfl, by omega, HEnd⟩

/-- Tokens of any text. -/
theorem Tokens_any (file : Int) (s : ByteArray) (w : World) (hE : Env w) : Calls Tryd.prog 10 #[.int .i64 file, .string s] w (TokPost file s.data.toList w) := by
  by_cases hs : s.size ≤ 3000
  · exact Tokens_few file s w hE hs
  · exact Tokens_much file s w (by omega)
end Go.Proofs.YtoedgcpfomgagaaDoor
