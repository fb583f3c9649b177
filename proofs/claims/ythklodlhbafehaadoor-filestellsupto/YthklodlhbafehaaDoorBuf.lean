/- A slice of bytes that a call made itself, also one that came of a string: what append, a cut and a conversion make of it. -/
import Derived.WalkKit
import Derived.Lib.AppendStr
import Derived.Lib.ConvBytes
import Derived.Lib.UnsafeStr
import Derived.Lib.SmallJoins
import Derived.Lib.BufferRead
import Derived.Laws.IdiomStrings
namespace Go.Proofs.YthklodlhbafehaaDoor
open Go.RowKit Go.Lib

/-- Of a row nothing that it holds is frozen. -/
def Soft (n : Nat) (fz : Nat × Nat) : Prop := fz = (0, 0) ∨ n ≤ fz.1

theorem frozen_soft {w : World} {g j : Nat} {cur : Array Value} {t : TypeId} {fz : Nat × Nat} (hg : w.heap[g]? = some (.cells cur t fz)) (hs : Soft cur.size fz) (hj : j < cur.size) : w.frozen? ⟨g, j, none⟩ = false := by
  obtain ⟨lo, hi⟩ := fz
  simp only [World.frozen?, hg, Bool.and_eq_false_iff, decide_eq_false_iff_not]
  rcases hs with h | h
  · cases h; right; omega
  · left; simp only at h; omega

theorem storeCells_soft (P : Program) (g o : Nat) (t : TypeId) (fz : Nat × Nat) : ∀ (vs : List Value) (i : Nat) (cur : Array Value) (w : World), w.heap[g]? = some (.cells cur t fz) → Soft cur.size fz → o + i + vs.length ≤ cur.size → (∀ v ∈ vs, v.oneCell' = true) →
    (storeCells ⟨g, o, none⟩ vs i).run P w = .ok () (w.setRow g (cur.toList.take (o + i) ++ vs ++ cur.toList.drop (o + i + vs.length)).toArray)
  | [], i, cur, w, hg, _, _, _ => by
    simp only [storeCells, List.append_nil, List.length_nil, Nat.add_zero, List.take_append_drop, Array.toArray_toList]
    rw [setRow_self w g cur t fz hg]
    rfl
  | v :: rest, i, cur, w, hg, hs, hl, h1 => by
    have hi : o + i < cur.size := by simp at hl; omega
    have hadd : (⟨g, o, none⟩ : Addr).add i = ⟨g, o + i, none⟩ := Addr.add_lit _ _ _
    have hcell : w.cell? ⟨g, o + i, none⟩ = some cur[o + i] := by simp [World.cell?, hg, hi]
    have hfro := frozen_soft hg hs hi
    have hst : (store ((⟨g, o, none⟩ : Addr).add i) v).run P w = .ok () (w.setRow g (cur.setIfInBounds (o + i) v)) := by
      rw [hadd, run_store P w _ v _ (h1 v (by simp)), hcell]
      simp [hfro, setCell_eq_setRow w g (o + i) cur t fz v hg]
    have ih := storeCells_soft P g o t fz rest (i + 1) (cur.setIfInBounds (o + i) v) (w.setRow g (cur.setIfInBounds (o + i) v)) (setRow_heap w g cur _ t _ hg) (by simpa using hs) (by simp at hl ⊢; omega) (fun x hx => h1 x (by simp [hx]))
    simp only [storeCells, Sem.run_bind, hst, Result.andThen_ok, ih, setRow_setRow]
    congr 3
    have e := list_seg_step cur.toList (o + i) v rest (by simp at hl ⊢; omega)
    simpa [Array.toList_setIfInBounds, Nat.add_assoc] using e

/-- The slice v owns the bytes l: nil, or the head of a row of the call's own. -/
def OwnsB (e : TypeId) (base : Nat) (w : World) (v : Value) (l : List UInt8) : Prop :=
  (v = .slice none 0 0 ∧ l = []) ∨
  ∃ g cap cur fz, v = .slice (some ⟨g, 0, none⟩) l.length cap ∧ base ≤ g ∧ w.heap[g]? = some (.cells cur e fz) ∧ Soft cur.size fz ∧ l.length ≤ cap ∧ cap ≤ maxLen ∧ cur.size = cap ∧ cur.toList.take l.length = byteCells l

section
variable {e : TypeId} {base : Nat} {w : World} {v : Value} {l : List UInt8}

theorem OwnsB.nil (e : TypeId) (base : Nat) (w : World) : OwnsB e base w (.slice none 0 0) [] := .inl ⟨rfl, rfl⟩

theorem OwnsB.kept {w' : World} {row : Option Nat} (h : OwnsB e base w v l) (hg : w.grownBy w' row) (hne : v.ownBlock = none ∨ v.ownBlock ≠ row) : OwnsB e base w' v l := by
  rcases h with hn | ⟨g, cap, cur, fz, rfl, hb, hgg, rest⟩
  · exact .inl hn
  · refine .inr ⟨g, cap, cur, fz, rfl, hb, ?_, rest⟩
    rw [hg.block g (Array.getElem?_eq_some_iff.1 hgg).1 (by simpa [Value.ownBlock] using hne)]
    exact hgg

theorem OwnsB.lt (h : OwnsB e base w v l) : ∀ k, v.ownBlock = some k → base ≤ k ∧ k < w.heap.size := by
  intro k hk
  rcases h with ⟨rfl, _⟩ | ⟨g, cap, cur, fz, rfl, hb, hg, _⟩
  · simp [Value.ownBlock] at hk
  · simp [Value.ownBlock] at hk
    subst hk
    exact ⟨hb, (Array.getElem?_eq_some_iff.1 hg).1⟩

theorem OwnsB.alloc (h : OwnsB e base w v l) (o : Obj) : OwnsB e base (w.alloc o) v l :=
  h.kept (World.grownBy_alloc w o none) (by cases hv : v.ownBlock <;> simp)

/-- A cut: the first k bytes. -/
theorem OwnsB.cut {a : Option Addr} {n c k : Nat} (h : OwnsB e base w (.slice a n c) l) (hk : k ≤ l.length) : OwnsB e base w (.slice a k c) (l.take k) := by
  rcases h with ⟨hv, rfl⟩ | ⟨g, cap, cur, fz, hv, hb, hg, hs, h1, h2, h3, h4⟩
  · cases hv
    have : k = 0 := by simpa using hk
    subst this
    exact .inl ⟨rfl, rfl⟩
  · cases hv
    refine .inr ⟨g, _, cur, fz, ?_, hb, hg, hs, ?_, h2, h3, ?_⟩
    · simp [Nat.min_eq_left hk]
    · simp; omega
    · rw [List.length_take, Nat.min_eq_left hk]
      have : (cur.toList.take l.length).take k = (byteCells l).take k := by rw [h4]
      rw [List.take_take, Nat.min_eq_left hk] at this
      rw [this]; simp [byteCells, List.map_take]

theorem OwnsB.shape (h : OwnsB e base w v l) : ∃ a c, v = .slice a l.length c ∧ l.length ≤ c ∧ c ≤ maxLen ∧ (a = none → l = []) := by
  rcases h with ⟨rfl, rfl⟩ | ⟨g, cap, cur, fz, rfl, hb, hg, hs, h1, h2, h3, h4⟩
  · exact ⟨none, 0, rfl, Nat.le_refl _, Nat.zero_le _, fun _ => rfl⟩
  · exact ⟨_, _, rfl, h1, h2, fun h => by cases h⟩

theorem OwnsB.cell {g n c : Nat} (h : OwnsB e base w (.slice (some ⟨g, 0, none⟩) n c) l) (j : Nat) (hj : j < l.length) : w.cell? ⟨g, j, none⟩ = some (.int .u8 (l[j].toNat : Int)) := by
  rcases h with ⟨hv, _⟩ | ⟨g', cap, cur, fz, hv, hb, hg, hs, h1, h2, h3, h4⟩
  · cases hv
  · cases hv
    have h5 : (cur.toList.take l.length)[j]? = (byteCells l)[j]? := by rw [h4]
    rw [List.getElem?_take, if_pos hj] at h5
    simp [byteCells, hj] at h5
    simp [World.cell?, hg, h5]

theorem mem_byteCells {l : List UInt8} {u : Value} (h : u ∈ byteCells l) : u.oneCell' = true := by
  simp only [byteCells, List.mem_map] at h
  obtain ⟨b, _, rfl⟩ := h
  rfl

/-- What both appends come to, where there is room: the row with the new bytes behind the elder ones. -/
theorem OwnsB.room {g cap : Nat} {cur : Array Value} {fz : Nat × Nat} (hb : base ≤ g) (hg : w.heap[g]? = some (.cells cur e fz)) (hs : Soft cur.size fz) (h2 : cap ≤ maxLen) (h3 : cur.size = cap) (h4 : cur.toList.take l.length = byteCells l)
    (s : List UInt8) (hroom : l.length + s.length ≤ cap) :
    OwnsB e base (w.setRow g (cur.toList.take l.length ++ byteCells s ++ cur.toList.drop (l.length + s.length)).toArray) (.slice (some ⟨g, 0, none⟩) (l.length + s.length) cap) (l ++ s) := by
  have hlen : (cur.toList.take l.length ++ byteCells s ++ cur.toList.drop (l.length + s.length)).length = cur.size := by
    simp only [List.length_append, List.length_take, List.length_drop, Array.length_toList, byteCells_length]; omega
  refine .inr ⟨g, cap, _, fz, by simp, hb, setRow_heap w g cur _ e _ hg, ?_, by simpa using hroom, h2, by simp only [List.size_toArray, hlen, h3], ?_⟩
  · simp only [List.size_toArray, hlen]; exact hs
  · have e2 : (l ++ s).length = (byteCells l ++ byteCells s).length := by simp [byteCells_length]
    rw [h4, e2]
    simp only [List.take_left']
    simp [byteCells]

theorem OwnsB.grow (s : List UInt8) (cap : Nat) (z : Array Value) (hz : z = #[.int .u8 0]) (hbase : base ≤ w.heap.size) (h63 : l.length + s.length ≤ maxLen) :
    OwnsB e base (w.drew.alloc (.cells ((byteCells l).toArray ++ (byteCells s).toArray ++ Builtin.zeroCells z (grownCap w (l.length + s.length) cap e - (l.length + s.length))) e)) (.slice (some ⟨w.heap.size, 0, none⟩) (l.length + s.length) (grownCap w (l.length + s.length) cap e)) (l ++ s) := by
  subst hz
  have hge := grownCap_ge w (l.length + s.length) cap e
  have hcm2 : grownCap w (l.length + s.length) cap e ≤ maxLen := grownCap_le_maxLen w (l.length + s.length) cap e h63
  refine .inr ⟨w.heap.size, _, _, (0, 0), by simp, hbase, heap_alloc_new w.drew _, .inl rfl, by simpa using hge, hcm2, ?_, ?_⟩
  · simp only [Array.size_append, List.size_toArray, size_zeroCells, byteCells_length]
    simp; omega
  · have e2 : (l ++ s).length = (byteCells l ++ byteCells s).length := by simp [byteCells_length]
    simp only [Array.toList_append, List.append_assoc]
    rw [← List.append_assoc, e2, List.take_left']
    · simp [byteCells]
    · rfl

theorem OwnsB.of_row {n : Nat} {xs : List Value} (h : w.ownsRow base e 1 v n xs) (hx : xs = byteCells l) : OwnsB e base w v l := by
  subst hx
  have hl : l.length = n := by have := h.1; simpa [byteCells_length] using this
  rcases h.2 with ⟨rfl, rfl⟩ | ⟨g, cap, cur, rfl, hb, hg, hn, hc, hs, ht⟩
  · exact .inl ⟨rfl, List.eq_nil_of_length_eq_zero hl⟩
  · exact .inr ⟨g, cap, cur, (0, 0), by rw [hl], hb, hg, .inl rfl, by omega, hc, by simpa using hs, by rw [hl]; simpa using ht⟩

theorem OwnsB.cells {g n c : Nat} (h : OwnsB e base w (.slice (some ⟨g, 0, none⟩) n c) l) : ∀ j u, (byteCells l)[j]? = some u → w.cell? ((⟨g, 0, none⟩ : Addr).add j) = some u := by
  intro j u hu
  have hj : j < l.length := by have := (List.getElem?_eq_some_iff.1 hu).1; simpa [byteCells_length] using this
  rw [Addr.add_lit, Nat.zero_add, h.cell j hj]
  simpa [byteCells, hj] using hu

theorem append_str {P : Program} {t u ty : TypeId} {i : TypeInfo} (ht : P.underlying t = some (.slice e)) (hu : P.underlying u = some .string) (hi : P.info? e = some i) (hz : i.zero = some (.int .u8 0)) (hsize : i.size = 1) (hby : i.bytes = 1)
    (hown : OwnsB e base w v l) (s : ByteArray) (hlen : l.length + s.size ≤ 140737488355328) (hbase : base ≤ w.heap.size) :
    ∃ v' w', (Builtin.append_ #[t, u] ty #[v, .string s]).run P w = .ok v' w' ∧ OwnsB e base w' v' (l ++ s.data.toList) ∧ w.grownBy w' v.ownBlock := by
  have h63 : l.length + s.size ≤ maxLen := by unfold maxLen; omega
  have hsl : s.data.toList.length = s.size := by simp
  rcases hown with ⟨rfl, rfl⟩ | ⟨g, cap, cur, fz, rfl, hb, hg, hs, h1, h2, h3, h4⟩
  · obtain ⟨v', w', r1, r2, r3, _⟩ := run_append_own_string (P := P) w base t u ty e i ht hu hi hz hsize hby (.slice none 0 0) 0 [] (World.ownsRow_nil _ _ _ _) s (by simpa using h63) (by simpa using hlen) hbase
    exact ⟨v', w', r1, OwnsB.of_row r2 rfl, r3⟩
  · by_cases hroom : l.length + s.size ≤ cap
    · have hf := run_firstCells_string (P := P) w 1 s
      have hst := storeCells_soft P g l.length e fz (strCells s) 0 cur w hg hs (by rw [strCells_length]; omega) (strCells_oneCell s)
      simp only [Nat.add_zero, strCells_length] at hst
      refine ⟨.slice (some ⟨g, 0, none⟩) (l.length + s.size) cap, w.setRow g (cur.toList.take l.length ++ strCells s ++ cur.toList.drop (l.length + s.size)).toArray, ?_, ?_, ?_⟩
      · simp [Builtin.append_, run_underlying ht, run_underlying hu, Go.sizeOf, typeInfo, hi, hsize, Builtin.lenOf, hroom, hf, Addr.add_lit, hst]
      · have := OwnsB.room hb hg hs h2 h3 h4 s.data.toList (by rw [hsl]; exact hroom)
        rw [hsl] at this
        exact this
      · exact ⟨rfl, rfl, rfl, by simp, fun k _ hk => setRow_other w g k _ (fun e => hk (by simp [Value.ownBlock, e]))⟩
    · have hr := run_append_grow_string (P := P) w t u ty e i (.int .u8 0) ht hu hi hz ⟨g, 0, none⟩ l.length cap (byteCells l) (by rw [hsize, byteCells_length]; simp)
        (OwnsB.cells (.inr ⟨g, cap, cur, fz, rfl, hb, hg, hs, h1, h2, h3, h4⟩)) s (by omega) (by unfold maxLen at h63; omega) (by rw [hby]; exact growslice_fits (by omega) (by omega))
      have := OwnsB.grow (e := e) (base := base) (w := w) (l := l) s.data.toList cap _ rfl hbase (by rw [hsl]; exact h63)
      rw [hsl] at this
      exact ⟨_, _, hr, this, ⟨rfl, rfl, rfl, by simp, fun k hk _ => Below.heap_alloc w.drew _ k hk⟩⟩

theorem append_byte {P : Program} {t ty : TypeId} {i : TypeInfo} (ht : P.underlying t = some (.slice e)) (hi : P.info? e = some i) (hz : i.zero = some (.int .u8 0)) (hsize : i.size = 1) (hby : i.bytes = 1)
    (hown : OwnsB e base w v l) (b : UInt8) (a : Addr) (c : Nat) (hc : w.cell? a = some (.int .u8 (b.toNat : Int))) (hlen : l.length + 1 ≤ 140737488355328) (hbase : base ≤ w.heap.size) :
    ∃ v' w', (Builtin.append_ #[t, t] ty #[v, .slice (some a) 1 c]).run P w = .ok v' w' ∧ OwnsB e base w' v' (l ++ [b]) ∧ w.grownBy w' v.ownBlock := by
  have h63 : l.length + 1 ≤ maxLen := by unfold maxLen; omega
  have hnews : ∀ j u, (byteCells [b])[j]? = some u → w.cell? (a.add j) = some u := by
    intro j u hj
    match j, hj with
    | 0, hj => simp [byteCells] at hj; rw [← hj, ← hc]; congr 1
    | (j + 1), hj => simp [byteCells] at hj
  have hone : ∀ u ∈ byteCells [b], u.oneCell' = true := fun u hu => mem_byteCells hu
  rcases hown with ⟨rfl, rfl⟩ | ⟨g, cap, cur, fz, rfl, hb, hg, hs, h1, h2, h3, h4⟩
  · obtain ⟨v', w', r1, r2, r3, _⟩ := run_append_own (P := P) w base t ty e i (.int .u8 0) 1 1 ht hi hz hsize hby rfl (by decide) (.slice none 0 0) 0 [] (World.ownsRow_nil _ _ _ _) a 1 c (byteCells [b]) rfl hnews hone (by unfold maxLen; omega) (by omega) hbase
    exact ⟨v', w', r1, OwnsB.of_row r2 rfl, r3⟩
  · by_cases hroom : l.length + 1 ≤ cap
    · have hf := run_firstCells_some (P := P) w 1 1 a 1 c (byteCells [b]) rfl hnews
      have hst := storeCells_soft P g l.length e fz (byteCells [b]) 0 cur w hg hs (by simp [byteCells_length]; omega) hone
      simp only [Nat.add_zero, byteCells_length, List.length_singleton] at hst
      refine ⟨.slice (some ⟨g, 0, none⟩) (l.length + 1) cap, w.setRow g (cur.toList.take l.length ++ byteCells [b] ++ cur.toList.drop (l.length + 1)).toArray, ?_, ?_, ?_⟩
      · simp [Builtin.append_, run_underlying ht, Go.sizeOf, typeInfo, hi, hsize, Builtin.lenOf, hroom, hf, Addr.add_lit, hst]
      · exact OwnsB.room hb hg hs h2 h3 h4 [b] hroom
      · exact ⟨rfl, rfl, rfl, by simp, fun k _ hk => setRow_other w g k _ (fun e => hk (by simp [Value.ownBlock, e]))⟩
    · have hr := run_append_grow (P := P) w t ty e i (.int .u8 0) ht hi hz ⟨g, 0, none⟩ l.length cap (byteCells l) (by rw [hsize, byteCells_length]; simp)
        (OwnsB.cells (.inr ⟨g, cap, cur, fz, rfl, hb, hg, hs, h1, h2, h3, h4⟩)) a 1 c (byteCells [b]) (by rw [hsize]; rfl) hnews (by omega) (by unfold maxLen at h63; omega) (by rw [hby]; exact growslice_fits (by omega) (by omega))
      exact ⟨_, _, hr, OwnsB.grow (e := e) (base := base) (w := w) (l := l) [b] cap _ rfl hbase h63, ⟨rfl, rfl, rfl, by simp, fun k hk _ => Below.heap_alloc w.drew _ k hk⟩⟩

/-- What a string's conversion leaves. -/
theorem owns_of_string (s : ByteArray) (hbase : base ≤ w.heap.size) (hs : s.size ≤ maxLen) : OwnsB e base (bytesWorld w e s) (.slice (some ⟨w.heap.size, 0, none⟩) s.size (grownCap w s.size 0 e)) s.data.toList := by
  have hge := grownCap_ge w s.size 0 e
  have hsl : s.data.toList.length = s.size := by simp
  refine .inr ⟨w.heap.size, _, _, _, by rw [hsl], hbase, bytesWorld_at_new w e s, .inr (Nat.le_refl _), by rw [hsl]; exact hge, grownCap_le_maxLen w s.size 0 e hs, ?_, ?_⟩
  · simp [bytesCells]; have : s.data.size = s.size := rfl; omega
  · rw [hsl]
    have : s.size = ((s.data.map fun b => Value.int .u8 b.toNat).toList).length := by simp
    simp only [bytesCells, Array.toList_append]
    rw [this, List.take_left']
    · simp [byteCells]
    · rfl

theorem below_bytesWorld (w : World) (e : TypeId) (s : ByteArray) : Below w.heap.size w (bytesWorld w e s) :=
  ⟨rfl, rfl, rfl, by rw [bytesWorld_size]; omega, fun k hk => bytesWorld_at_old w e s k hk⟩

/-- And back: the bytes as a string. -/
theorem string_of_owned {P : Program} {src dst : TypeId} (hs : P.underlying src = some (.slice e)) (he : P.underlying e = some (.int .u8)) (hd : P.underlying dst = some .string) (h : OwnsB e base w v l) :
    (convert src dst v).run P w = .ok (.string ⟨l.toArray⟩) w := by
  obtain ⟨a, c, rfl, h1, h2, h3⟩ := h.shape
  cases a with
  | none =>
    have := h3 rfl
    subst this
    rcases h with ⟨hv, _⟩ | ⟨g, cap, cur, fz, hv, _⟩
    · cases hv; exact run_convert_nil_bytes w src dst e 0 hs he hd
    · cases hv
  | some a =>
    rcases id h with ⟨hv, _⟩ | ⟨g, cap, cur, fz, hv, _⟩
    · cases hv
    · cases hv
      exact run_convert_bytes_back w src dst e ⟨g, 0, none⟩ _ l hs he hd (fun j hj => by rw [Addr.add_lit, Nat.zero_add]; exact h.cell j hj)

end

end Go.Proofs.YthklodlhbafehaaDoor
