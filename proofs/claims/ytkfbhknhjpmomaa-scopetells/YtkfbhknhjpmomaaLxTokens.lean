/- Walk of Tokens. -/
import Derived.Test.YtkfbhknhjpmomaaLxPcs
import Derived.Test.YtkfbhknhjpmomaaLtA
namespace Go.Proofs.Ytkfbhknhjpmomaa
open Go.RowKit Go.Shelf

/-- What Tokens answers: tokens, and what is wrong, in which file, at which byte. -/
def toksF (file : Int) (l : List UInt8) : List Tk × (Int × Int × Int) :=
  if 3000 < l.length then ([], (4, file, 0))
  else match pcs (bytesAt l (kept l)) with
    | .inl k => ([], (9, file, whereI (kept l ++ [l.length]) k))
    | .inr ps => (tksOf file l ps, (0, -1, 0))
def faultV (f : Int × Int × Int) : Value := .agg #[.int .i64 f.1, .int .i64 f.2.1, .int .i64 f.2.2]

def TokPost (file : Int) (l : List UInt8) (w : World) (e : Ending) (w' : World) : Prop :=
  ∃ a c, e = .returned (.tuple #[.slice a (toksF file l).1.length c, faultV (toksF file l).2]) ∧ TAt w' a (toksF file l).1 ∧ Below w.heap.size w w' ∧ (toksF file l).1.length ≤ c

theorem owns_same {w w' : World} {base : Nat} {e : TypeId} {size : Nat} {v : Value} {n : Nat} {xs : List Value} (h : w.ownsRow base e size v n xs) (hb : ∀ g, base ≤ g → g < w.heap.size → w'.heap[g]? = w.heap[g]?) : w'.ownsRow base e size v n xs := by
  refine ⟨h.1, ?_⟩
  rcases h.2 with h | ⟨g, cap, cur, hv, hg, hh, r⟩
  · exact .inl h
  · exact .inr ⟨g, cap, cur, hv, hg, (hb g hg (Array.getElem?_eq_some_iff.1 hh).1).trans hh, r⟩

theorem cell_same {w w' : World} {a : Addr} (h : w'.heap[a.block]? = w.heap[a.block]?) : w'.cell? a = w.cell? a := World.cell?_of_block h

theorem owns_at {w w' : World} {base : Nat} {e : TypeId} {size : Nat} {v : Value} {n : Nat} {xs : List Value} (h : w.ownsRow base e size v n xs) (hb : ∀ g, v.ownBlock = some g → w'.heap[g]? = w.heap[g]?) : w'.ownsRow base e size v n xs := by
  refine ⟨h.1, ?_⟩
  rcases h.2 with h | ⟨g, cap, cur, hv, hg, hh, r⟩
  · exact .inl h
  · exact .inr ⟨g, cap, cur, hv, hg, (hb g (by rw [hv]; rfl)).trans hh, r⟩

theorem five_old {B : Nat} {w wr : World} (h : Below B w wr) {X : Nat} (ho : B ≤ X) (x0 x1 x2 x3 x4 : Value) :
    Below B w (((((wr.setCell ⟨X, 0, none⟩ x0).setCell ⟨X, 1, none⟩ x1).setCell ⟨X, 2, none⟩ x2).setCell ⟨X, 3, none⟩ x3).setCell ⟨X, 4, none⟩ x4) :=
  ((((h.setCell (p := ⟨X, 0, none⟩) ho x0).setCell (p := ⟨X, 1, none⟩) ho x1).setCell (p := ⟨X, 2, none⟩) ho x2).setCell (p := ⟨X, 3, none⟩) ho x3).setCell (p := ⟨X, 4, none⟩) ho x4

theorem tk_text (T : ByteArray) (J : List UInt8) (hT : T.data.toList = J) (p : Pc) : (⟨(textOfPc J p).toArray⟩ : ByteArray) = T.extract p.lo p.hi := by
  have h : (T.extract p.lo p.hi).data.toList = textOfPc J p := by rw [extract_data, hT]; rfl
  rw [← h]

theorem whereI_bd (K : List Nat) (B : Nat) (h : ∀ x ∈ K, x ≤ B) (k : Int) : -1 ≤ whereI K k ∧ whereI K k ≤ B := by
  unfold whereI
  split
  · rename_i hk
    have hj : k.toNat < K.length := by omega
    have hm : K.getD k.toNat 0 ≤ B := by rw [List.getD, List.getElem?_eq_getElem hj]; exact h _ (List.getElem_mem hj)
    omega
  · omega
theorem kept_bd (l : List UInt8) (n : Nat) (hn : l.length = n) : ∀ x ∈ kept l ++ [n], x ≤ n := by
  intro x hx
  rcases List.mem_append.1 hx with h | h
  · have := (went_kept l).rising.2 x h; omega
  · simp at h; omega

theorem info_tok : (Try.prog.info? 44).map (fun i => (i.zero, i.size, i.bytes)) = some (some (.agg #[.int .i64 0, .string ByteArray.empty, .bool false, .bool false, .int .i64 0, .int .i64 0, .int .i64 0, .int .i64 0, .slice none 0 0, .slice none 0 0, .int .i64 0]), 11, 120) := by kernel_rfl

theorem eleven_new (w : World) (t : Tk) (T : TypeId) : ∀ j x, (encT t)[j]? = some x → (w.alloc (.cells (encT t).toArray T)).cell? ((⟨w.heap.size, 0, none⟩ : Addr).add j) = some x := by
  intro j x hx
  rw [Addr.add_lit, Nat.zero_add, World.cell?_alloc_mark]
  simpa using hx
theorem eleven_one (x : Tk) : ∀ u ∈ encT x, u.oneCell' = true := by
  intro u hu
  simp [encT] at hu
  rcases hu with rfl | rfl | rfl | rfl | rfl | rfl | rfl | rfl | rfl | rfl | rfl <;> rfl

theorem bcell {W w1 : World} (hb : Below W.heap.size W w1) : (∀ b o, b < W.heap.size → w1.cell? ⟨b, o, none⟩ = W.cell? ⟨b, o, none⟩) ∧ (∀ b o, b < W.heap.size → w1.frozen? ⟨b, o, none⟩ = W.frozen? ⟨b, o, none⟩) :=
  ⟨fun b o h => hb.cell (p := ⟨b, o, none⟩) h, fun b o h => hb.frozen (p := ⟨b, o, none⟩) h⟩

theorem three_set {w : World} {g : Nat} {a0 a1 a2 : Value} {T : TypeId} (h : w.heap[g]? = some (.cells #[a0, a1, a2] T)) (x0 x1 x2 : Value) :
    (((w.setCell ⟨g, 0, none⟩ x0).setCell ⟨g, 1, none⟩ x1).setCell ⟨g, 2, none⟩ x2).heap[g]? = some (.cells #[x0, x1, x2] T) := by
  have h0 := Go.Joins.block_setCell (i := 0) h x0
  have h1 := Go.Joins.block_setCell (i := 1) h0 x1
  have h2 := Go.Joins.block_setCell (i := 2) h1 x2
  simpa using h2
theorem three_far (w : World) (g k : Nat) (x0 x1 x2 : Value) (hne : k ≠ g) : (((w.setCell ⟨g, 0, none⟩ x0).setCell ⟨g, 1, none⟩ x1).setCell ⟨g, 2, none⟩ x2).heap[k]? = w.heap[k]? := by
  rw [Below.heap_setCell _ _ _ _ hne, Below.heap_setCell _ _ _ _ hne, Below.heap_setCell _ _ _ _ hne]

theorem row_cap {w : World} {base : Nat} {e : TypeId} {size : Nat} {v : Value} {n m c : Nat} {a : Option Addr} {xs : List Value} (h : w.ownsRow base e size v n xs) (hv : v = .slice a m c) : n ≤ c := by
  rcases h.2 with ⟨h1, h0⟩ | ⟨g, cap, cur, h1, hb, hg, hn, hc, hs, ht⟩
  · omega
  · rw [h1] at hv
    injection hv with _ _ hcap
    omega

end Go.Proofs.Ytkfbhknhjpmomaa
