/- Walk of escaped, and plain facts of Quote. · Walk of Quote. · Walk of Paste, of a token that hides nothing. · Walk of numbered: token i, or one of no kind behind the last. · What Parse answers, plainly; walks of its small functions. -/
import Derived.Test.YtedmcefckcmheaaGreatDoorMcShelfB
import Derived.Test.YtedmcefckcmheaaGreatDoorLxBuild
import Derived.Test.YtedmcefckcmheaaGreatDoorLxC
import Derived.Test.YtedmcefckcmheaaGreatDoorLater
import Derived.Lib.Replace
import Derived.Test.YtedmcefckcmheaaGreatDoorMcA
import Derived.Test.YtedmcefckcmheaaGreatDoorLxTokens
import Derived.Test.YtedmcefckcmheaaGreatDoorTkAgg
namespace Go.Proofs.YtedmcefckcmheaaGreatDoor
section
open Go.RowKit Go.Shelf

def repl (c : UInt8) (new l : List UInt8) : List UInt8 := l.flatMap fun b => if b == c then new else [b]
theorem index_cons (b c : UInt8) (l : List UInt8) : Lib.index (b :: l) [c] = if b == c then 0 else if Lib.index l [c] == -1 then -1 else Lib.index l [c] + 1 := by
  show (if [c].isPrefixOf (b :: l) then (0 : Int) else _) = _
  have e : [c].isPrefixOf (b :: l) = (b == c) := by
    simp only [List.isPrefixOf, Bool.and_true]
    exact BEq.comm
  rw [e]
theorem replaceK_one (c : UInt8) (new : List UInt8) : ∀ (l : List UInt8) (k : Nat), l.count c ≤ k → Lib.replaceK [c] new k l = repl c new l
  | [], 0, _ => rfl
  | [], k + 1, _ => rfl
  | b :: l, k, h => by
    by_cases hb : b = c
    · subst hb
      rw [List.count_cons_self] at h
      obtain ⟨k', rfl⟩ : ∃ k', k = k' + 1 := ⟨k - 1, by omega⟩
      have hi : Lib.index (b :: l) [b] = ((0 : Nat) : Int) := by rw [index_cons]; simp
      rw [Lib.replaceK_hit [b] new k' (b :: l) 0 hi]
      have := replaceK_one b new l k' (by omega)
      simp only [List.take_zero, List.nil_append, List.length_singleton, Nat.zero_add, List.drop_succ_cons, List.drop_zero]
      rw [this]
      unfold repl
      simp
    · have hbe : (b == c) = false := by simpa using hb
      rw [List.count_cons_of_ne hb] at h
      have ih := replaceK_one c new l k h
      have hr : repl c new (b :: l) = b :: repl c new l := by unfold repl; simp [hb]
      rw [hr, ← ih]
      cases k with
      | zero => rfl
      | succ k =>
        have hi := index_cons b c l
        rw [hbe] at hi
        simp only [Bool.false_eq_true, if_false] at hi
        by_cases hm : Lib.index l [c] = -1
        · rw [hm] at hi
          simp only [beq_self_eq_true, if_true] at hi
          unfold Lib.replaceK
          rw [hi, hm]
          simp
        · have hge := Lib.index_ge l [c]
          obtain ⟨i, hi2⟩ : ∃ i : Nat, Lib.index l [c] = (i : Int) := ⟨(Lib.index l [c]).toNat, by omega⟩
          rw [hi2] at hi
          have hine : ((i : Int) == -1) = false := by rw [beq_eq_false_iff_ne]; omega
          rw [hine] at hi
          simp only [Bool.false_eq_true, if_false] at hi
          rw [Lib.replaceK_hit [c] new k (b :: l) (i + 1) (by rw [hi]; push_cast; rfl), Lib.replaceK_hit [c] new k l i hi2]
          simp
theorem replaceAll_one (c : UInt8) (new l : List UInt8) (h : ([c] == new) = false) : Lib.replaceAll l [c] new = repl c new l := by
  unfold Lib.replaceAll Lib.replace
  rw [h]
  simp only [Bool.false_eq_true, if_false]
  unfold Lib.replaceNum
  rw [if_pos (.inl (by decide)), Lib.count_one]
  exact replaceK_one c new l _ (Nat.le_refl _)
/-- A \ ahead of each \ and each quote. -/
def escS (l : List UInt8) : List UInt8 := l.flatMap fun c => if c == 34 || c == 92 then [92, c] else [c]
theorem repl_repl (l : List UInt8) : repl 34 [92, 34] (repl 92 [92, 92] l) = escS l := by
  unfold repl escS
  rw [List.flatMap_assoc]
  congr 1
  funext b
  by_cases h1 : b = 92
  · subst h1; rfl
  · have e1 : (b == 92) = false := by simpa using h1
    by_cases h2 : b = 34
    · subst h2; rfl
    · have e2 : (b == 34) = false := by simpa using h2
      simp [h1, h2]
theorem repl_length (c : UInt8) (new : List UInt8) (h : new.length ≤ 2) : ∀ l : List UInt8, (repl c new l).length ≤ 2 * l.length
  | [] => by simp [repl]
  | b :: l => by
    have ih := repl_length c new h l
    have : repl c new (b :: l) = (if b == c then new else [b]) ++ repl c new l := by simp [repl]
    rw [this, List.length_append, List.length_cons]
    split
    · omega
    · simp; omega
theorem escS_length (l : List UInt8) : (escS l).length ≤ 4 * l.length := by
  rw [← repl_repl]
  have h1 := repl_length 92 [92, 92] (by decide) l
  have h2 := repl_length 34 [92, 34] (by decide) (repl 92 [92, 92] l)
  omega

theorem Repl_any (s : ByteArray) (c : UInt8) (new : ByteArray) (w : World) (hM : Mx w) (hs : s.size ≤ 10000000) (hn : new.size ≤ 2) (hne : ([c] == new.data.toList) = false) :
    Calls Tryz.prog 62 #[.string s, .string ⟨#[c]⟩, .string new] w fun e w' => e = .returned (.string ⟨(repl c new.data.toList s.data.toList).toArray⟩) ∧ Below w.heap.size w w' := by
  obtain ⟨m, hm⟩ := hM
  have h1 : 1 ≤ (ByteArray.mk #[c]).size := Nat.le_refl 1
  have hc := Lib.countB_le ⟨#[c]⟩ h1 s.size s (Nat.le_refl _)
  have hX : Builder.Extra Tryz.prog Tryz.layReplaceAll_ren := { sizeBuilder := by kernel_rfl, liesBuilder := by kernel_rfl, t5 := Tryz.underlying5, a5 := Tryz.isAgg5, z5 := Tryz.sizeOf5, v5 := Tryz.zeroValue5, infoByte := by kernel_rfl, cellsByte := by kernel_rfl, sizeByte := by kernel_rfl, neB5 := by decide }
  have := Any.strings_ReplaceAll Tryz.layReplaceAll hX s ⟨#[c]⟩ new m w (by omega) hm h1 (by
    have : Lib.countB s ⟨#[c]⟩ * new.size ≤ s.size * 2 := Nat.mul_le_mul hc hn
    omega)
  rw [show (ByteArray.mk #[c]).data.toList = [c] from rfl, replaceAll_one c new.data.toList s.data.toList hne] at this
  exact this

set_option maxRecDepth 100000 in
theorem escaped_q (s : ByteArray) (w : World) (hM : Mx w) (hs : s.size ≤ 1000000) :
    Calls Tryz.prog 45 #[.string s] w fun e w' => e = .returned (.string ⟨(escS s.data.toList).toArray⟩) ∧ Below w.heap.size w w' := by
  have H1 := hid (Repl_any s 92 ⟨#[92, 92]⟩ w hM (by omega) (by decide) (by decide))
  have hl := repl_length 92 [92, 92] (by decide) s.data.toList
  rw [size_data] at hl
  have H2 := hid (fun W (hW : Below w.heap.size w W) => Repl_any ⟨(repl 92 [92, 92] s.data.toList).toArray⟩ 34 ⟨#[92, 34]⟩ W (hM.below hW) (by rw [← size_data]; show (repl 92 [92, 92] s.data.toList).length ≤ _; omega) (by decide) (by decide))
  rw [show (ByteArray.mk #[92, 92]).data.toList = [92, 92] from rfl] at H1
  rw [show (ByteArray.mk #[92, 34]).data.toList = [92, 34] from rfl, show (ByteArray.mk (repl 92 [92, 92] s.data.toList).toArray).data.toList = repl 92 [92, 92] s.data.toList from rfl, repl_repl] at H2
  generalize (ByteArray.mk (repl 92 [92, 92] s.data.toList).toArray) = R at H1 H2
  clear hl hM hs
  go_enter Tryz.func45, Tryz.ntmps45
  go_wp2_with fail
  refine H1.out.mono ?_
  rintro e w1 ⟨rfl, hb1⟩
  have HB1 := hid hb1
  clear hb1
  go_wp2_with fail
  refine (H2.out _ HB1.out).mono ?_
  rintro e w2 ⟨rfl, hb2⟩
  have HB2 := hid (HB1.out.trans (hb2.mono HB1.out.size))
  clear hb2
  go_wp2_with fail
  go_ret
  exact ⟨rfl, HB2.out⟩
/-- What a token adds. -/
def quoteAt (ts : List Tk) (k : Nat) : List UInt8 := match ts[k]? with
  | some t => (if decide (0 < k) && t.space then [32] else []) ++ (if t.kind = 4 ∨ t.kind = 3 then escS t.text.data.toList else t.text.data.toList)
  | none => []
def quoteN (ts : List Tk) (k : Nat) : List UInt8 := [34] ++ (List.range k).flatMap (quoteAt ts)
/-- The text of tokens as one. -/
def quoteL (ts : List Tk) : List UInt8 := quoteN ts ts.length ++ [34]
theorem quoteN_succ (ts : List Tk) (k : Nat) : quoteN ts (k + 1) = quoteN ts k ++ quoteAt ts k := by simp [quoteN, List.range_succ]
theorem quoteN_le (ts : List Tk) (M : Nat) (h : ∀ t ∈ ts, t.text.size ≤ M) : ∀ k, k ≤ ts.length → (quoteN ts k).length ≤ 1 + k * (4 * M + 1)
  | 0, _ => by simp [quoteN]
  | k + 1, hk => by
    have ih := quoteN_le ts M h k (by omega)
    have hx : ts[k]? = some ts[k] := List.getElem?_eq_getElem (by omega)
    have ht := h _ (List.getElem_mem (show k < ts.length by omega))
    have he := escS_length ts[k].text.data.toList
    rw [size_data] at he
    have hq : (quoteAt ts k).length ≤ 4 * M + 1 := by
      unfold quoteAt
      rw [hx]
      dsimp only
      rw [List.length_append]
      have h1 : (if decide (0 < k) && ts[k].space then [(32 : UInt8)] else []).length ≤ 1 := by split <;> simp
      have h2 : (if ts[k].kind = 4 ∨ ts[k].kind = 3 then escS ts[k].text.data.toList else ts[k].text.data.toList).length ≤ 4 * M := by
        split
        · omega
        · rw [size_data]; omega
      omega
    rw [quoteN_succ, List.length_append, Nat.add_mul]
    omega
end
section
open Go.RowKit Go.Shelf

theorem tok_block {W : World} {B : Nat} {v0 v1 v2 v3 v4 v5 v6 v7 v8 v9 v10 : Value} {T : TypeId} (h : W.heap[B]? = some (.cells #[v0, v1, v2, v3, v4, v5, v6, v7, v8, v9, v10] T)) :
    (W.cell? ⟨B, 0, none⟩ = some v0 ∧ W.cell? ⟨B, 1, none⟩ = some v1 ∧ W.cell? ⟨B, 2, none⟩ = some v2 ∧ W.cell? ⟨B, 3, none⟩ = some v3 ∧ W.cell? ⟨B, 4, none⟩ = some v4 ∧ W.cell? ⟨B, 5, none⟩ = some v5 ∧ W.cell? ⟨B, 6, none⟩ = some v6 ∧ W.cell? ⟨B, 7, none⟩ = some v7 ∧ W.cell? ⟨B, 8, none⟩ = some v8 ∧ W.cell? ⟨B, 9, none⟩ = some v9 ∧ W.cell? ⟨B, 10, none⟩ = some v10) ∧ (W.frozen? ⟨B, 0, none⟩ = false ∧ W.frozen? ⟨B, 1, none⟩ = false ∧ W.frozen? ⟨B, 2, none⟩ = false ∧ W.frozen? ⟨B, 3, none⟩ = false ∧ W.frozen? ⟨B, 4, none⟩ = false ∧ W.frozen? ⟨B, 5, none⟩ = false ∧ W.frozen? ⟨B, 6, none⟩ = false ∧ W.frozen? ⟨B, 7, none⟩ = false ∧ W.frozen? ⟨B, 8, none⟩ = false ∧ W.frozen? ⟨B, 9, none⟩ = false ∧ W.frozen? ⟨B, 10, none⟩ = false) := by
  simp [World.cell?, World.frozen?, h]
theorem put_tok {W : World} {A B : Nat} {T : TypeId} (hne : B ≠ A) {a0 a1 a10 u0 u1 u2 u3 u4 u5 u6 u7 u8 u9 u10 v0 v1 v2 v3 v4 v5 v6 v7 v8 v9 v10 : Value} (g : W.heap[B]? = some (.cells #[u0, u1, u2, u3, u4, u5, u6, u7, u8, u9, u10] T)) :
    ((((((((((((((W.setCell ⟨A, 0, none⟩ a0).setCell ⟨A, 1, none⟩ a1).setCell ⟨A, 10, none⟩ a10).setCell ⟨B, 0, none⟩ v0).setCell ⟨B, 1, none⟩ v1).setCell ⟨B, 2, none⟩ v2).setCell ⟨B, 3, none⟩ v3).setCell ⟨B, 4, none⟩ v4).setCell ⟨B, 5, none⟩ v5).setCell ⟨B, 6, none⟩ v6).setCell ⟨B, 7, none⟩ v7).setCell ⟨B, 8, none⟩ v8).setCell ⟨B, 9, none⟩ v9).setCell ⟨B, 10, none⟩ v10).heap[B]? = some (.cells #[v0, v1, v2, v3, v4, v5, v6, v7, v8, v9, v10] T) := by
  have g0 : ((((W.setCell ⟨A, 0, none⟩ a0).setCell ⟨A, 1, none⟩ a1).setCell ⟨A, 10, none⟩ a10)).heap[B]? = some (.cells #[u0, u1, u2, u3, u4, u5, u6, u7, u8, u9, u10] T) := by
    rw [Below.heap_setCell _ _ _ B hne, Below.heap_setCell _ _ _ B hne, Below.heap_setCell _ _ _ B hne]
    exact g
  have g1 := Go.Joins.block_setCell (i := 0) g0 v0
  have g2 := Go.Joins.block_setCell (i := 1) g1 v1
  have g3 := Go.Joins.block_setCell (i := 2) g2 v2
  have g4 := Go.Joins.block_setCell (i := 3) g3 v3
  have g5 := Go.Joins.block_setCell (i := 4) g4 v4
  have g6 := Go.Joins.block_setCell (i := 5) g5 v5
  have g7 := Go.Joins.block_setCell (i := 6) g6 v6
  have g8 := Go.Joins.block_setCell (i := 7) g7 v7
  have g9 := Go.Joins.block_setCell (i := 8) g8 v8
  have g10 := Go.Joins.block_setCell (i := 9) g9 v9
  have g11 := Go.Joins.block_setCell (i := 10) g10 v10
  simpa using g11
theorem put_below {w W : World} {A B H : Nat} (hA : H ≤ A) (hB : H ≤ B) {a0 a1 a10 v0 v1 v2 v3 v4 v5 v6 v7 v8 v9 v10 : Value} (h : Below H w W) : Below H w ((((((((((((((W.setCell ⟨A, 0, none⟩ a0).setCell ⟨A, 1, none⟩ a1).setCell ⟨A, 10, none⟩ a10).setCell ⟨B, 0, none⟩ v0).setCell ⟨B, 1, none⟩ v1).setCell ⟨B, 2, none⟩ v2).setCell ⟨B, 3, none⟩ v3).setCell ⟨B, 4, none⟩ v4).setCell ⟨B, 5, none⟩ v5).setCell ⟨B, 6, none⟩ v6).setCell ⟨B, 7, none⟩ v7).setCell ⟨B, 8, none⟩ v8).setCell ⟨B, 9, none⟩ v9).setCell ⟨B, 10, none⟩ v10) :=
  ((((((((((((((h).setCell (p := ⟨A, 0, none⟩) hA _).setCell (p := ⟨A, 1, none⟩) hA _).setCell (p := ⟨A, 10, none⟩) hA _).setCell (p := ⟨B, 0, none⟩) hB _).setCell (p := ⟨B, 1, none⟩) hB _).setCell (p := ⟨B, 2, none⟩) hB _).setCell (p := ⟨B, 3, none⟩) hB _).setCell (p := ⟨B, 4, none⟩) hB _).setCell (p := ⟨B, 5, none⟩) hB _).setCell (p := ⟨B, 6, none⟩) hB _).setCell (p := ⟨B, 7, none⟩) hB _).setCell (p := ⟨B, 8, none⟩) hB _).setCell (p := ⟨B, 9, none⟩) hB _).setCell (p := ⟨B, 10, none⟩) hB _
theorem quote_ret {W : World} {F : Nat} {v0 v1 v2 v3 v4 v5 v6 v7 v8 v9 v10 : Value} (hF : W.heap[F]? = some (.cells #[v0, v1, v2, v3, v4, v5, v6, v7, v8, v9, v10] 43)) (tmps : Array Value) (h4 : tmps.getD 4 undef = .pointer (some ⟨F, 0, none⟩)) :
    (results Tryz.f23 tmps).run Tryz.prog W = .ok (.agg #[v0, v1, v2, v3, v4, v5, v6, v7, v8, v9, v10]) W := by
  obtain ⟨⟨c0, c1, c2, c3, c4, c5, c6, c7, c8, c9, c10⟩, _⟩ := tok_block hF
  simp at h4
  simp [results, Tryz.results23, go_sem, h4, c0, c1, c2, c3, c4, c5, c6, c7, c8, c9, c10]
theorem size_of_below {B : Nat} {w w' : World} (h : Below B w w') (hB : B ≤ w.heap.size) : B ≤ w'.heap.size := by
  have := h.size
  omega
set_option maxRecDepth 100000 in
set_option maxHeartbeats 4000000 in
theorem Quote_any (a : Option Addr) (c : Nat) (ts : List Tk) (bk : Int) (bt : ByteArray) (bs bf : Bool) (bfi bl bh bn : Int) (ha : Option Addr) (hn hc : Nat) (ca : Option Addr) (cn cc : Nat) (bm : Int) (w : World) (hM : Mx w) (hT : TAt w a ts) (hl : ts.length ≤ 1048576) (hz : ∀ t ∈ ts, t.text.size ≤ 100000) :
    Calls Tryz.prog 23 #[.slice a ts.length c, .agg #[.int .i64 bk, .string bt, .bool bs, .bool bf, .int .i64 bfi, .int .i64 bl, .int .i64 bh, .int .i64 bn, .slice ha hn hc, .slice ca cn cc, .int .i64 bm]] w fun e w' => e = .returned (.agg #[.int .i64 4, .string ⟨(quoteL ts).toArray⟩, .bool bs, .bool bf, .int .i64 bfi, .int .i64 bl, .int .i64 bh, .int .i64 bn, .slice ha hn hc, .slice ca cn cc, .int .i64 2]) ∧ Below w.heap.size w w' := by
  have hb0 : Below w.heap.size w ((w.alloc (.cells #[.int .i64 bk, .string bt, .bool bs, .bool bf, .int .i64 bfi, .int .i64 bl, .int .i64 bh, .int .i64 bn, .slice ha hn hc, .slice ca cn cc, .int .i64 bm] 43)).alloc (.cells #[.int .i64 0, .string ⟨#[]⟩, .bool false, .bool false, .int .i64 0, .int .i64 0, .int .i64 0, .int .i64 0, .slice none 0 0, .slice none 0 0, .int .i64 0] 43)) := ((Below.refl _ w).alloc (Nat.le_refl _) _).alloc (by simp) _
  have HBY := hid (two_blocks w (.cells #[.int .i64 bk, .string bt, .bool bs, .bool bf, .int .i64 bfi, .int .i64 bl, .int .i64 bh, .int .i64 bn, .slice ha hn hc, .slice ca cn cc, .int .i64 bm] 43) (.cells #[.int .i64 0, .string ⟨#[]⟩, .bool false, .bool false, .int .i64 0, .int .i64 0, .int .i64 0, .int .i64 0, .slice none 0 0, .slice none 0 0, .int .i64 0] 43))
  have HB0 := hid hb0
  have HM0 := hid (hM.below hb0)
  have HT0 := hid (hT.below hb0)
  have hs0 : ((w.alloc (.cells #[.int .i64 bk, .string bt, .bool bs, .bool bf, .int .i64 bfi, .int .i64 bl, .int .i64 bh, .int .i64 bn, .slice ha hn hc, .slice ca cn cc, .int .i64 bm] 43)).alloc (.cells #[.int .i64 0, .string ⟨#[]⟩, .bool false, .bool false, .int .i64 0, .int .i64 0, .int .i64 0, .int .i64 0, .slice none 0 0, .slice none 0 0, .int .i64 0] 43)).heap.size = w.heap.size + 1 + 1 := by simp
  have HS0 := hid hs0
  have hBl := Lib.fresh_isBuilder 78 5 ((w.alloc (.cells #[.int .i64 bk, .string bt, .bool bs, .bool bf, .int .i64 bfi, .int .i64 bl, .int .i64 bh, .int .i64 bn, .slice ha hn hc, .slice ca cn cc, .int .i64 bm] 43)).alloc (.cells #[.int .i64 0, .string ⟨#[]⟩, .bool false, .bool false, .int .i64 0, .int .i64 0, .int .i64 0, .int .i64 0, .slice none 0 0, .slice none 0 0, .int .i64 0] 43))
  clear hb0 hM hT
  go_enter Tryz.func23, Tryz.ntmps23
  go_wp2_with fail
  generalize ((w.alloc (.cells #[.int .i64 bk, .string bt, .bool bs, .bool bf, .int .i64 bfi, .int .i64 bl, .int .i64 bh, .int .i64 bn, .slice ha hn hc, .slice ca cn cc, .int .i64 bm] 43)).alloc (.cells #[.int .i64 0, .string ⟨#[]⟩, .bool false, .bool false, .int .i64 0, .int .i64 0, .int .i64 0, .int .i64 0, .slice none 0 0, .slice none 0 0, .int .i64 0] 43)) = w0 at HBY HB0 HM0 HT0 HS0 hBl hs0 ⊢
  obtain ⟨H, hH⟩ : ∃ H, w.heap.size + 1 + 1 = H := ⟨_, rfl⟩
  rw [hH] at hs0 HS0 ⊢
  have HH := hid hH
  clear hH
  rw [hs0] at hBl
  have HW1 := hid (fun l s W h1 h2 h3 => WriteString_any H H l s W h1 h2 h3)
  have HW2 := hid (fun l (cb : UInt8) W h1 h2 h3 => WriteByte_any H H l cb W h1 h2 h3)
  have HSt := hid (fun l W h1 h2 => Tryz.Builder_String_any H H l W h1 h2)
  have HE := hid (fun s W h1 h2 => escaped_q s W h1 h2)
  have HBl := hid (HW2.out [] 34 _ hBl (by simp) (by simp [hs0]))
  rw [show ((34 : UInt8).toNat : Int) = 34 from rfl, List.nil_append] at HBl
  clear hBl hs0
  refine HBl.out.mono ?_
  rintro e w1 ⟨⟨v1, rfl⟩, hI1, hb1, hk1⟩
  have hb1' : Below H w0 w1 := by
    rw [← HS0.out]
    exact ((Below.refl _ w0).alloc (Nat.le_refl _) _).trans (by rw [HS0.out]; exact hb1)
  have HI1 := hid (And.intro hb1' hI1)
  clear hI1 hb1 hk1 HBl hb1'
  go_wp2_with fail
  go_loopw [11] (fun x wr => ∃ k : Nat, k ≤ ts.length ∧ x = .int .i64 k ∧ Hid (Below H w0 wr ∧ Lib.IsBuilder 78 5 H H (Lib.byteCells (quoteN ts k)) wr)) (fun x _ => ts.length - (intOf x).toNat)
  case atStart => exact ⟨0, Nat.zero_le _, rfl, HI1⟩
  case round =>
    clear HI1
    obtain ⟨k, hk, rfl, HR⟩ := hrel
    by_cases hlt : k < ts.length
    · obtain ⟨x, hx⟩ : ∃ x, ts[k]? = some x := ⟨_, List.getElem?_eq_getElem hlt⟩
      rcases HT0.out with h0 | ⟨b0, off, rfl, hb0, hcx⟩
      · rw [h0] at hlt; exact absurd hlt (Nat.not_lt_zero _)
      obtain ⟨c0, c1, c2, c3, c4, c5, c6, c7, c8, c9, c10⟩ := tk_cells (w := wr) (fun i v hv => (HR.out.1.cell (p := ⟨b0, off + k * 11 + i, none⟩) (by rw [← HS0.out]; exact hb0)).trans (hcx k x hx i v hv))
      have hzx := hz x (List.mem_of_getElem? hx)
      have HQ := hid (quoteN_succ ts k)
      have HA : Hid (quoteAt ts k = (if decide (0 < k) && x.space then [32] else []) ++ (if x.kind = 4 ∨ x.kind = 3 then escS x.text.data.toList else x.text.data.toList)) := by
        show _ = _
        unfold quoteAt
        rw [hx]
      have HLe := hid (Nat.le_trans (quoteN_le ts 100000 hz k hk) (show 1 + k * (4 * 100000 + 1) ≤ 1000000000000 by omega))
      obtain ⟨tk, tt, tsp, tfi, tf, tl, th, tn⟩ := x
      dsimp only at c0 c1 c2 c3 c4 c5 c6 c7 c8 c9 c10 hzx HA
      have hwx : H < wr.heap.size := by
        rcases HR.out.2 with h | h
        · exact h.lt
        · exact h.lt
      have HB2 := hid (HR.out.1.alloc (Nat.le_of_lt hwx) (.cells #[.int .i64 tk, .string tt, .bool tsp, .bool tfi, .int .i64 tf, .int .i64 tl, .int .i64 th, .int .i64 tn, .slice none 0 0, .slice none 0 0, .int .i64 0] 43))
      have HBu := hid (IsBuilder.alloc HR.out.2 (.cells #[.int .i64 tk, .string tt, .bool tsp, .bool tfi, .int .i64 tf, .int .i64 tl, .int .i64 th, .int .i64 tn, .slice none 0 0, .slice none 0 0, .int .i64 0] 43))
      have HXb := hid (heap_alloc_new wr (.cells #[.int .i64 tk, .string tt, .bool tsp, .bool tfi, .int .i64 tf, .int .i64 tl, .int .i64 th, .int .i64 tn, .slice none 0 0, .slice none 0 0, .int .i64 0] 43))
      have hp1 : (wr.alloc (.cells #[.int .i64 tk, .string tt, .bool tsp, .bool tfi, .int .i64 tf, .int .i64 tl, .int .i64 th, .int .i64 tn, .slice none 0 0, .slice none 0 0, .int .i64 0] 43)).heap.size = wr.heap.size + 1 := by simp
      have hki : (k : Int) < (ts.length : Int) := Int.ofNat_lt.2 hlt
      have hk0 : (0 : Int) ≤ (k : Int) := Int.natCast_nonneg _
      have hkp := nxt_k (Nat.le_trans hk (Nat.le_trans hl (by decide)))
      have hkw := nxt_w (Nat.le_trans hk (Nat.le_trans hl (by decide)))
      have HMx : Hid (∀ W, Below H w0 W → Mx W) := fun W hW => HM0.out.below (by rw [HS0.out]; exact hW)
      clear hcx hx hb0 HR
      rcases hsp : (decide (0 < k) && tsp) with _ | _
      · rw [hsp] at HA
        by_cases hkp0 : 0 < k
        · obtain rfl : tsp = false := by rw [decide_eq_true hkp0, Bool.true_and] at hsp; exact hsp
          have hgt : (0 : Int) < (k : Int) := Int.natCast_pos.2 hkp0
          clear hsp
          by_cases h4 : tk = 4
          · subst h4
            have HA2 : Hid (quoteAt ts k = escS tt.data.toList) := by show _ = _; rw [HA.out]; simp
            clear HA
            have HSz := hid (Nat.le_of_eq hp1.symm)
            have HIb := HBu
            have HBd := HB2
            go_wp2_with fail
            refine (HE.out tt _ (HMx.out _ HBd.out) (by omega)).mono ?_
            rintro e wE ⟨rfl, hbE⟩
            have HIe := hid (IsBuilder.below HIb.out hbE)
            have HBe := hid (HBd.out.trans (hbE.mono (Nat.le_trans (Nat.le_of_lt hwx) (by have := HSz.out; omega))))
            have HSe := hid (Nat.le_trans HSz.out hbE.size)
            have hel := escS_length tt.data.toList
            rw [size_data] at hel
            clear hbE
            go_wp2_with fail
            refine (HW1.out _ ⟨(escS tt.data.toList).toArray⟩ _ HIe.out (by have := HLe.out; rw [← size_data (ByteArray.mk (escS tt.data.toList).toArray)]; show _ + (escS tt.data.toList).length ≤ _; omega) (Nat.le_trans (Nat.le_of_lt hwx) (by have := HSe.out; omega))).mono ?_
            rintro e wC ⟨⟨vC, rfl⟩, hIC, hbC, _⟩
            have HB4 := hid (HBe.out.trans hbC)
            have HI4 := hid hIC
            clear hIC hbC
            go_wp2_with fail
            exact ⟨⟨k + 1, hlt, by go_num, hid ⟨HB4.out, by rw [HQ.out, HA2.out]; exact HI4.out⟩⟩, less_j hlt (by go_num)⟩
          · by_cases h3 : tk = 3
            · subst h3
              have HA2 : Hid (quoteAt ts k = escS tt.data.toList) := by show _ = _; rw [HA.out]; simp
              clear HA
              have HSz := hid (Nat.le_of_eq hp1.symm)
              have HIb := HBu
              have HBd := HB2
              go_wp2_with fail
              refine (HE.out tt _ (HMx.out _ HBd.out) (by omega)).mono ?_
              rintro e wE ⟨rfl, hbE⟩
              have HIe := hid (IsBuilder.below HIb.out hbE)
              have HBe := hid (HBd.out.trans (hbE.mono (Nat.le_trans (Nat.le_of_lt hwx) (by have := HSz.out; omega))))
              have HSe := hid (Nat.le_trans HSz.out hbE.size)
              have hel := escS_length tt.data.toList
              rw [size_data] at hel
              clear hbE
              go_wp2_with fail
              refine (HW1.out _ ⟨(escS tt.data.toList).toArray⟩ _ HIe.out (by have := HLe.out; rw [← size_data (ByteArray.mk (escS tt.data.toList).toArray)]; show _ + (escS tt.data.toList).length ≤ _; omega) (Nat.le_trans (Nat.le_of_lt hwx) (by have := HSe.out; omega))).mono ?_
              rintro e wC ⟨⟨vC, rfl⟩, hIC, hbC, _⟩
              have HB4 := hid (HBe.out.trans hbC)
              have HI4 := hid hIC
              clear hIC hbC
              go_wp2_with fail
              exact ⟨⟨k + 1, hlt, by go_num, hid ⟨HB4.out, by rw [HQ.out, HA2.out]; exact HI4.out⟩⟩, less_j hlt (by go_num)⟩
            · have hno : ¬ (tk = 4 ∨ tk = 3) := fun h => h.elim h4 h3
              have e4 : (tk == 4) = false := by simpa using h4
              have e3 : (tk == 3) = false := by simpa using h3
              have HA2 : Hid (quoteAt ts k = tt.data.toList) := by show _ = _; rw [HA.out]; simp [h4, h3]
              clear HA
              have HSz := hid (Nat.le_of_eq hp1.symm)
              have HIb := HBu
              have HBd := HB2
              go_wp2_with fail
              refine (HW1.out _ tt _ HIb.out (by have := HLe.out; omega) (Nat.le_trans (Nat.le_of_lt hwx) (by have := HSz.out; omega))).mono ?_
              rintro e wC ⟨⟨vC, rfl⟩, hIC, hbC, _⟩
              have HB4 := hid (HBd.out.trans hbC)
              have HI4 := hid hIC
              clear hIC hbC
              go_wp2_with fail
              exact ⟨⟨k + 1, hlt, by go_num, hid ⟨HB4.out, by rw [HQ.out, HA2.out]; exact HI4.out⟩⟩, less_j hlt (by go_num)⟩
        · have hng : ¬ ((0 : Int) < (k : Int)) := fun h => hkp0 (Int.natCast_pos.1 h)
          clear hsp
          by_cases h4 : tk = 4
          · subst h4
            have HA2 : Hid (quoteAt ts k = escS tt.data.toList) := by show _ = _; rw [HA.out]; simp
            clear HA
            have HSz := hid (Nat.le_of_eq hp1.symm)
            have HIb := HBu
            have HBd := HB2
            go_wp2_with fail
            refine (HE.out tt _ (HMx.out _ HBd.out) (by omega)).mono ?_
            rintro e wE ⟨rfl, hbE⟩
            have HIe := hid (IsBuilder.below HIb.out hbE)
            have HBe := hid (HBd.out.trans (hbE.mono (Nat.le_trans (Nat.le_of_lt hwx) (by have := HSz.out; omega))))
            have HSe := hid (Nat.le_trans HSz.out hbE.size)
            have hel := escS_length tt.data.toList
            rw [size_data] at hel
            clear hbE
            go_wp2_with fail
            refine (HW1.out _ ⟨(escS tt.data.toList).toArray⟩ _ HIe.out (by have := HLe.out; rw [← size_data (ByteArray.mk (escS tt.data.toList).toArray)]; show _ + (escS tt.data.toList).length ≤ _; omega) (Nat.le_trans (Nat.le_of_lt hwx) (by have := HSe.out; omega))).mono ?_
            rintro e wC ⟨⟨vC, rfl⟩, hIC, hbC, _⟩
            have HB4 := hid (HBe.out.trans hbC)
            have HI4 := hid hIC
            clear hIC hbC
            go_wp2_with fail
            exact ⟨⟨k + 1, hlt, by go_num, hid ⟨HB4.out, by rw [HQ.out, HA2.out]; exact HI4.out⟩⟩, less_j hlt (by go_num)⟩
          · by_cases h3 : tk = 3
            · subst h3
              have HA2 : Hid (quoteAt ts k = escS tt.data.toList) := by show _ = _; rw [HA.out]; simp
              clear HA
              have HSz := hid (Nat.le_of_eq hp1.symm)
              have HIb := HBu
              have HBd := HB2
              go_wp2_with fail
              refine (HE.out tt _ (HMx.out _ HBd.out) (by omega)).mono ?_
              rintro e wE ⟨rfl, hbE⟩
              have HIe := hid (IsBuilder.below HIb.out hbE)
              have HBe := hid (HBd.out.trans (hbE.mono (Nat.le_trans (Nat.le_of_lt hwx) (by have := HSz.out; omega))))
              have HSe := hid (Nat.le_trans HSz.out hbE.size)
              have hel := escS_length tt.data.toList
              rw [size_data] at hel
              clear hbE
              go_wp2_with fail
              refine (HW1.out _ ⟨(escS tt.data.toList).toArray⟩ _ HIe.out (by have := HLe.out; rw [← size_data (ByteArray.mk (escS tt.data.toList).toArray)]; show _ + (escS tt.data.toList).length ≤ _; omega) (Nat.le_trans (Nat.le_of_lt hwx) (by have := HSe.out; omega))).mono ?_
              rintro e wC ⟨⟨vC, rfl⟩, hIC, hbC, _⟩
              have HB4 := hid (HBe.out.trans hbC)
              have HI4 := hid hIC
              clear hIC hbC
              go_wp2_with fail
              exact ⟨⟨k + 1, hlt, by go_num, hid ⟨HB4.out, by rw [HQ.out, HA2.out]; exact HI4.out⟩⟩, less_j hlt (by go_num)⟩
            · have hno : ¬ (tk = 4 ∨ tk = 3) := fun h => h.elim h4 h3
              have e4 : (tk == 4) = false := by simpa using h4
              have e3 : (tk == 3) = false := by simpa using h3
              have HA2 : Hid (quoteAt ts k = tt.data.toList) := by show _ = _; rw [HA.out]; simp [h4, h3]
              clear HA
              have HSz := hid (Nat.le_of_eq hp1.symm)
              have HIb := HBu
              have HBd := HB2
              go_wp2_with fail
              refine (HW1.out _ tt _ HIb.out (by have := HLe.out; omega) (Nat.le_trans (Nat.le_of_lt hwx) (by have := HSz.out; omega))).mono ?_
              rintro e wC ⟨⟨vC, rfl⟩, hIC, hbC, _⟩
              have HB4 := hid (HBd.out.trans hbC)
              have HI4 := hid hIC
              clear hIC hbC
              go_wp2_with fail
              exact ⟨⟨k + 1, hlt, by go_num, hid ⟨HB4.out, by rw [HQ.out, HA2.out]; exact HI4.out⟩⟩, less_j hlt (by go_num)⟩
      · rw [hsp] at HA
        obtain ⟨hkp0, hts⟩ : 0 < k ∧ tsp = true := by simpa using hsp
        subst hts
        have hgt : (0 : Int) < (k : Int) := Int.natCast_pos.2 hkp0
        clear hsp
        by_cases h4 : tk = 4
        · subst h4
          have HA2 : Hid (quoteAt ts k = [32] ++ escS tt.data.toList) := by show _ = _; rw [HA.out]; simp
          clear HA
          go_wp2_with fail
          refine (HW2.out _ 32 _ HBu.out (by have := HLe.out; omega) (Nat.le_trans (Nat.le_of_lt hwx) (by omega))).mono ?_
          rintro e wB ⟨⟨vB, rfl⟩, hIB, hbB, hkB⟩
          have hXB := hkB wr.heap.size _ _ _ HXb.out (by decide) (by omega)
          have y0 := (block_facts hXB 0).1
          have y1 := (block_facts hXB 1).1
          simp at y0 y1
          have HSz : Hid (wr.heap.size + 1 ≤ wB.heap.size) := lt_of_block hXB
          have HIb := hid hIB
          have HBd := hid (HB2.out.trans hbB)
          clear hIB hbB hkB hXB
          go_wp2_with fail
          refine (HE.out tt _ (HMx.out _ HBd.out) (by omega)).mono ?_
          rintro e wE ⟨rfl, hbE⟩
          have HIe := hid (IsBuilder.below HIb.out hbE)
          have HBe := hid (HBd.out.trans (hbE.mono (Nat.le_trans (Nat.le_of_lt hwx) (by have := HSz.out; omega))))
          have HSe := hid (Nat.le_trans HSz.out hbE.size)
          have hel := escS_length tt.data.toList
          rw [size_data] at hel
          clear hbE
          go_wp2_with fail
          refine (HW1.out _ ⟨(escS tt.data.toList).toArray⟩ _ HIe.out (by have := HLe.out; rw [← size_data (ByteArray.mk (escS tt.data.toList).toArray)]; show _ + (escS tt.data.toList).length ≤ _; rw [List.length_append]; simp; omega) (Nat.le_trans (Nat.le_of_lt hwx) (by have := HSe.out; omega))).mono ?_
          rintro e wC ⟨⟨vC, rfl⟩, hIC, hbC, _⟩
          have HB4 := hid (HBe.out.trans hbC)
          have HI4 := hid hIC
          clear hIC hbC
          go_wp2_with fail
          exact ⟨⟨k + 1, hlt, by go_num, hid ⟨HB4.out, by rw [HQ.out, HA2.out, ← List.append_assoc]; exact HI4.out⟩⟩, less_j hlt (by go_num)⟩
        · by_cases h3 : tk = 3
          · subst h3
            have HA2 : Hid (quoteAt ts k = [32] ++ escS tt.data.toList) := by show _ = _; rw [HA.out]; simp
            clear HA
            go_wp2_with fail
            refine (HW2.out _ 32 _ HBu.out (by have := HLe.out; omega) (Nat.le_trans (Nat.le_of_lt hwx) (by omega))).mono ?_
            rintro e wB ⟨⟨vB, rfl⟩, hIB, hbB, hkB⟩
            have hXB := hkB wr.heap.size _ _ _ HXb.out (by decide) (by omega)
            have y0 := (block_facts hXB 0).1
            have y1 := (block_facts hXB 1).1
            simp at y0 y1
            have HSz : Hid (wr.heap.size + 1 ≤ wB.heap.size) := lt_of_block hXB
            have HIb := hid hIB
            have HBd := hid (HB2.out.trans hbB)
            clear hIB hbB hkB hXB
            go_wp2_with fail
            refine (HE.out tt _ (HMx.out _ HBd.out) (by omega)).mono ?_
            rintro e wE ⟨rfl, hbE⟩
            have HIe := hid (IsBuilder.below HIb.out hbE)
            have HBe := hid (HBd.out.trans (hbE.mono (Nat.le_trans (Nat.le_of_lt hwx) (by have := HSz.out; omega))))
            have HSe := hid (Nat.le_trans HSz.out hbE.size)
            have hel := escS_length tt.data.toList
            rw [size_data] at hel
            clear hbE
            go_wp2_with fail
            refine (HW1.out _ ⟨(escS tt.data.toList).toArray⟩ _ HIe.out (by have := HLe.out; rw [← size_data (ByteArray.mk (escS tt.data.toList).toArray)]; show _ + (escS tt.data.toList).length ≤ _; rw [List.length_append]; simp; omega) (Nat.le_trans (Nat.le_of_lt hwx) (by have := HSe.out; omega))).mono ?_
            rintro e wC ⟨⟨vC, rfl⟩, hIC, hbC, _⟩
            have HB4 := hid (HBe.out.trans hbC)
            have HI4 := hid hIC
            clear hIC hbC
            go_wp2_with fail
            exact ⟨⟨k + 1, hlt, by go_num, hid ⟨HB4.out, by rw [HQ.out, HA2.out, ← List.append_assoc]; exact HI4.out⟩⟩, less_j hlt (by go_num)⟩
          · have hno : ¬ (tk = 4 ∨ tk = 3) := fun h => h.elim h4 h3
            have e4 : (tk == 4) = false := by simpa using h4
            have e3 : (tk == 3) = false := by simpa using h3
            have HA2 : Hid (quoteAt ts k = [32] ++ tt.data.toList) := by show _ = _; rw [HA.out]; simp [h4, h3]
            clear HA
            go_wp2_with fail
            refine (HW2.out _ 32 _ HBu.out (by have := HLe.out; omega) (Nat.le_trans (Nat.le_of_lt hwx) (by omega))).mono ?_
            rintro e wB ⟨⟨vB, rfl⟩, hIB, hbB, hkB⟩
            have hXB := hkB wr.heap.size _ _ _ HXb.out (by decide) (by omega)
            have y0 := (block_facts hXB 0).1
            have y1 := (block_facts hXB 1).1
            simp at y0 y1
            have HSz : Hid (wr.heap.size + 1 ≤ wB.heap.size) := lt_of_block hXB
            have HIb := hid hIB
            have HBd := hid (HB2.out.trans hbB)
            clear hIB hbB hkB hXB
            go_wp2_with fail
            refine (HW1.out _ tt _ HIb.out (by have := HLe.out; rw [List.length_append]; simp; omega) (Nat.le_trans (Nat.le_of_lt hwx) (by have := HSz.out; omega))).mono ?_
            rintro e wC ⟨⟨vC, rfl⟩, hIC, hbC, _⟩
            have HB4 := hid (HBd.out.trans hbC)
            have HI4 := hid hIC
            clear hIC hbC
            go_wp2_with fail
            exact ⟨⟨k + 1, hlt, by go_num, hid ⟨HB4.out, by rw [HQ.out, HA2.out, ← List.append_assoc]; exact HI4.out⟩⟩, less_j hlt (by go_num)⟩
    · have he : k = ts.length := Nat.le_antisymm hk (Nat.le_of_not_lt hlt)
      subst he
      have hki : ¬ ((ts.length : Int) < (ts.length : Int)) := Int.lt_irrefl _
      have HLe := hid (Nat.le_trans (quoteN_le ts 100000 hz ts.length (Nat.le_refl _)) (show 1 + ts.length * (4 * 100000 + 1) ≤ 1000000000000 by omega))
      have hwx : H < wr.heap.size := by
        rcases HR.out.2 with h | h
        · exact h.lt
        · exact h.lt
      have HV := hid (HW2.out _ 34 _ HR.out.2 (by have := HLe.out; omega) (Nat.le_of_lt hwx))
      rw [show ((34 : UInt8).toNat : Int) = 34 from rfl] at HV
      go_wp2_with fail
      refine HV.out.mono ?_
      rintro e wB ⟨⟨vB, rfl⟩, hIB, hbB, hkB⟩
      have HB3 := hid (HR.out.1.trans hbB)
      have HV2 := hid (HSt.out _ wB hIB (size_of_below hbB (Nat.le_of_lt hwx)))
      clear hIB hbB hkB HV
      go_wp2_with fail
      refine HV2.out.mono ?_
      rintro e wC ⟨rfl, hbC⟩
      have HB4 := hid (HB3.out.trans hbC)
      have HBw := hid (HB0.out.trans (HB4.out.mono (by have := HH.out; omega)))
      have g1 := (HB4.out.block w.heap.size (by have := HH.out; omega)).trans HBY.out.1
      have g2 := (HB4.out.block (w.heap.size + 1) (by have := HH.out; omega)).trans HBY.out.2
      obtain ⟨⟨f0, f1, f2, f3, f4, f5, f6, f7, f8, f9, f10⟩, ⟨z0, z1, z2, z3, z4, z5, z6, z7, z8, z9, z10⟩⟩ := tok_block g1
      obtain ⟨⟨d0, d1, d2, d3, d4, d5, d6, d7, d8, d9, d10⟩, ⟨y0, y1, y2, y3, y4, y5, y6, y7, y8, y9, y10⟩⟩ := tok_block g2
      have hne : w.heap.size ≠ w.heap.size + 1 := by omega
      have HG2 := hid g2
      clear hbC g1 g2 HB3 HV2 HR
      go_wp2_with fail
      exact bodyPost_ret (quote_ret (put_tok (Nat.succ_ne_self _) HG2.out) _ rfl) rfl ⟨rfl, put_below (Nat.le_refl _) (Nat.le_succ _) HBw.out⟩
end
section
open Go.RowKit Go.Shelf

set_option maxRecDepth 100000 in
theorem cloneS_none (w : World) : Calls Tryz.prog 49 #[.slice none 0 0] w fun e w' => e = .returned (.slice none 0 0) ∧ w' = w := by
  have q22 : ∀ (w : World) (a : Option Addr) (n c n' c' : Nat), (binOp .eql 22 (.slice a n c) (.slice none n' c')).run Tryz.prog w = .ok (.bool a.isNone) w := fun w a n c n' c' => Lib.run_eql_slice_nil w _ _ a n c n' c' Tryz.underlying22
  go_enter Tryz.func49, Tryz.ntmps49
  go_wp2_with fail
  go_ret
  exact ⟨rfl, rfl⟩
set_option maxRecDepth 100000 in
theorem indexS_none (fv : Value) (w : World) : Calls Tryz.prog 69 #[.slice none 0 0, fv] w fun e w' => e = .returned (.int .i64 (-1)) ∧ w' = w := by
  go_enter Tryz.func69, Tryz.ntmps69
  go_wp2_with fail
  refine wp_loop_rounds 1 ?_
  rw [rounds_succ]
  go_wp2_with fail
  go_ret
  exact ⟨rfl, rfl⟩
set_option maxRecDepth 100000 in
theorem deleteS_none (fv : Value) (w : World) : Calls Tryz.prog 48 #[.slice none 0 0, fv] w fun e w' => e = .returned (.slice none 0 0) ∧ w' = w := by
  have HI := hid (indexS_none fv w)
  go_enter Tryz.func48, Tryz.ntmps48
  go_wp2_with fail
  refine HI.out.mono ?_
  rintro e w1 ⟨rfl, hw1⟩
  subst w1
  go_wp2_with fail
  go_ret
  exact ⟨rfl, rfl⟩
theorem paste_ret {W : World} {F : Nat} {v0 v1 v2 v3 v4 v5 v6 v7 v8 v9 v10 v : Value} (hF : W.heap[F]? = some (.cells #[v0, v1, v2, v3, v4, v5, v6, v7, v8, v9, v10] 43)) (tmps : Array Value) (h4 : tmps.getD 4 undef = .pointer (some ⟨F, 0, none⟩)) (h5 : tmps.getD 5 undef = v) :
    (results Tryz.f25 tmps).run Tryz.prog W = .ok (.tuple #[.agg #[v0, v1, v2, v3, v4, v5, v6, v7, v8, v9, v10], v]) W := by
  obtain ⟨⟨c0, c1, c2, c3, c4, c5, c6, c7, c8, c9, c10⟩, _⟩ := tok_block hF
  simp at h4 h5
  simp [results, Tryz.results25, go_sem, h4, h5, c0, c1, c2, c3, c4, c5, c6, c7, c8, c9, c10]
theorem put_one {W : World} {B : Nat} {T : TypeId} {u0 u1 u2 u3 u4 u5 u6 u7 u8 u9 u10 v0 v1 v2 v3 v4 v5 v6 v7 v8 v9 v10 : Value} (g0 : W.heap[B]? = some (.cells #[u0, u1, u2, u3, u4, u5, u6, u7, u8, u9, u10] T)) :
    (((((((((((W.setCell ⟨B, 0, none⟩ v0).setCell ⟨B, 1, none⟩ v1).setCell ⟨B, 2, none⟩ v2).setCell ⟨B, 3, none⟩ v3).setCell ⟨B, 4, none⟩ v4).setCell ⟨B, 5, none⟩ v5).setCell ⟨B, 6, none⟩ v6).setCell ⟨B, 7, none⟩ v7).setCell ⟨B, 8, none⟩ v8).setCell ⟨B, 9, none⟩ v9).setCell ⟨B, 10, none⟩ v10).heap[B]? = some (.cells #[v0, v1, v2, v3, v4, v5, v6, v7, v8, v9, v10] T) := by
  have g1 := Go.Joins.block_setCell (i := 0) g0 v0
  have g2 := Go.Joins.block_setCell (i := 1) g1 v1
  have g3 := Go.Joins.block_setCell (i := 2) g2 v2
  have g4 := Go.Joins.block_setCell (i := 3) g3 v3
  have g5 := Go.Joins.block_setCell (i := 4) g4 v4
  have g6 := Go.Joins.block_setCell (i := 5) g5 v5
  have g7 := Go.Joins.block_setCell (i := 6) g6 v6
  have g8 := Go.Joins.block_setCell (i := 7) g7 v7
  have g9 := Go.Joins.block_setCell (i := 8) g8 v8
  have g10 := Go.Joins.block_setCell (i := 9) g9 v9
  have g11 := Go.Joins.block_setCell (i := 10) g10 v10
  simpa using g11
theorem put_one_below {w W : World} {B H : Nat} (hB : H ≤ B) {v0 v1 v2 v3 v4 v5 v6 v7 v8 v9 v10 : Value} (h : Below H w W) : Below H w (((((((((((W.setCell ⟨B, 0, none⟩ v0).setCell ⟨B, 1, none⟩ v1).setCell ⟨B, 2, none⟩ v2).setCell ⟨B, 3, none⟩ v3).setCell ⟨B, 4, none⟩ v4).setCell ⟨B, 5, none⟩ v5).setCell ⟨B, 6, none⟩ v6).setCell ⟨B, 7, none⟩ v7).setCell ⟨B, 8, none⟩ v8).setCell ⟨B, 9, none⟩ v9).setCell ⟨B, 10, none⟩ v10) :=
  (((((((((((h).setCell (p := ⟨B, 0, none⟩) hB _).setCell (p := ⟨B, 1, none⟩) hB _).setCell (p := ⟨B, 2, none⟩) hB _).setCell (p := ⟨B, 3, none⟩) hB _).setCell (p := ⟨B, 4, none⟩) hB _).setCell (p := ⟨B, 5, none⟩) hB _).setCell (p := ⟨B, 6, none⟩) hB _).setCell (p := ⟨B, 7, none⟩) hB _).setCell (p := ⟨B, 8, none⟩) hB _).setCell (p := ⟨B, 9, none⟩) hB _).setCell (p := ⟨B, 10, none⟩) hB _
theorem put_four {W : World} {A B : Nat} {T : TypeId} (hne : B ≠ A) {a0 a1 a10 a8 u0 u1 u2 u3 u4 u5 u6 u7 u8 u9 u10 v0 v1 v2 v3 v4 v5 v6 v7 v8 v9 v10 : Value} (g : W.heap[B]? = some (.cells #[u0, u1, u2, u3, u4, u5, u6, u7, u8, u9, u10] T)) :
    (((((((((((((((W.setCell ⟨A, 0, none⟩ a0).setCell ⟨A, 1, none⟩ a1).setCell ⟨A, 10, none⟩ a10).setCell ⟨A, 8, none⟩ a8).setCell ⟨B, 0, none⟩ v0).setCell ⟨B, 1, none⟩ v1).setCell ⟨B, 2, none⟩ v2).setCell ⟨B, 3, none⟩ v3).setCell ⟨B, 4, none⟩ v4).setCell ⟨B, 5, none⟩ v5).setCell ⟨B, 6, none⟩ v6).setCell ⟨B, 7, none⟩ v7).setCell ⟨B, 8, none⟩ v8).setCell ⟨B, 9, none⟩ v9).setCell ⟨B, 10, none⟩ v10).heap[B]? = some (.cells #[v0, v1, v2, v3, v4, v5, v6, v7, v8, v9, v10] T) := by
  refine put_one ?_ (u0 := u0) (u1 := u1) (u2 := u2) (u3 := u3) (u4 := u4) (u5 := u5) (u6 := u6) (u7 := u7) (u8 := u8) (u9 := u9) (u10 := u10)
  rw [Below.heap_setCell _ _ _ B hne, Below.heap_setCell _ _ _ B hne, Below.heap_setCell _ _ _ B hne, Below.heap_setCell _ _ _ B hne]
  exact g
theorem put_four_below {w W : World} {A B H : Nat} (hA : H ≤ A) (hB : H ≤ B) {a0 a1 a10 a8 v0 v1 v2 v3 v4 v5 v6 v7 v8 v9 v10 : Value} (h : Below H w W) : Below H w (((((((((((((((W.setCell ⟨A, 0, none⟩ a0).setCell ⟨A, 1, none⟩ a1).setCell ⟨A, 10, none⟩ a10).setCell ⟨A, 8, none⟩ a8).setCell ⟨B, 0, none⟩ v0).setCell ⟨B, 1, none⟩ v1).setCell ⟨B, 2, none⟩ v2).setCell ⟨B, 3, none⟩ v3).setCell ⟨B, 4, none⟩ v4).setCell ⟨B, 5, none⟩ v5).setCell ⟨B, 6, none⟩ v6).setCell ⟨B, 7, none⟩ v7).setCell ⟨B, 8, none⟩ v8).setCell ⟨B, 9, none⟩ v9).setCell ⟨B, 10, none⟩ v10) :=
  put_one_below hB ((((h.setCell (p := ⟨A, 0, none⟩) hA _).setCell (p := ⟨A, 1, none⟩) hA _).setCell (p := ⟨A, 10, none⟩) hA _).setCell (p := ⟨A, 8, none⟩) hA _)
theorem three_blocks (w : World) (X Y Z : Obj) : (((w.alloc X).alloc Y).alloc Z).heap[w.heap.size]? = some X ∧ (((w.alloc X).alloc Y).alloc Z).heap[w.heap.size + 1]? = some Y ∧ (((w.alloc X).alloc Y).alloc Z).heap[w.heap.size + 1 + 1]? = some Z := by
  obtain ⟨h1, h2⟩ := two_blocks w X Y
  have hb : Below ((w.alloc X).alloc Y).heap.size ((w.alloc X).alloc Y) (((w.alloc X).alloc Y).alloc Z) := (Below.refl _ _).alloc (Nat.le_refl _) Z
  refine ⟨(hb.block _ (lt_of_block h1)).trans h1, (hb.block _ (lt_of_block h2)).trans h2, ?_⟩
  have := heap_alloc_new ((w.alloc X).alloc Y) Z
  simpa using this
/-- The one token that two texts are, if they are one. -/
def pasteT (l : List UInt8) : Option Tk := match (toksF 0 l).1 with
  | [t] => if t.text.data.toList == l then some t else none
  | _ => none
set_option maxRecDepth 100000 in
set_option maxHeartbeats 2000000 in
theorem Paste_nil (ak : Int) (ax : ByteArray) (asp af : Bool) (afi al ah an : Int) (ca : Option Addr) (cn cc : Nat) (am : Int) (bk : Int) (bx : ByteArray) (bsp bf : Bool) (bfi bl bh bn : Int) (ha : Option Addr) (hn hc : Nat) (ga : Option Addr) (gn gc : Nat) (bm : Int) (w : World) (hE : Env w) (hs : ax.size + bx.size ≤ 1048576) :
    Calls Tryz.prog 25 #[.agg #[.int .i64 ak, .string ax, .bool asp, .bool af, .int .i64 afi, .int .i64 al, .int .i64 ah, .int .i64 an, .slice none 0 0, .slice ca cn cc, .int .i64 am], .agg #[.int .i64 bk, .string bx, .bool bsp, .bool bf, .int .i64 bfi, .int .i64 bl, .int .i64 bh, .int .i64 bn, .slice ha hn hc, .slice ga gn gc, .int .i64 bm]] w fun e w' => e = .returned (match pasteT (ax.data.toList ++ bx.data.toList) with
      | some t => .tuple #[.agg #[.int .i64 t.kind, .string (ax ++ bx), .bool asp, .bool af, .int .i64 afi, .int .i64 al, .int .i64 ah, .int .i64 an, .slice none 0 0, .slice ca cn cc, .int .i64 1], .bool true]
      | none => .tuple #[.agg #[.int .i64 0, .string ⟨#[]⟩, .bool false, .bool false, .int .i64 0, .int .i64 0, .int .i64 0, .int .i64 0, .slice none 0 0, .slice none 0 0, .int .i64 0], .bool false]) ∧ Below w.heap.size w w' := by
  have hcat : (ax ++ bx).data.toList = ax.data.toList ++ bx.data.toList := by simp
  have HT := hid (fun W (hW : Below w.heap.size w W) => Tokens_any 0 (ax ++ bx) W (hE.below hW))
  rw [← hcat]
  clear hcat hE
  unfold TokPost faultV at HT
  have hadd : ∀ W : World, (Op.stringOp .add ax bx).run Tryz.prog W = .ok (.string (ax ++ bx)) W := fun W => run_string_add_sum W ax bx (by omega)
  generalize ax ++ bx = tx at HT hadd ⊢
  have hb0 : Below w.heap.size w (((w.alloc (.cells #[.int .i64 ak, .string ax, .bool asp, .bool af, .int .i64 afi, .int .i64 al, .int .i64 ah, .int .i64 an, .slice none 0 0, .slice ca cn cc, .int .i64 am] 43)).alloc (.cells #[.int .i64 bk, .string bx, .bool bsp, .bool bf, .int .i64 bfi, .int .i64 bl, .int .i64 bh, .int .i64 bn, .slice ha hn hc, .slice ga gn gc, .int .i64 bm] 43)).alloc (.cells #[.int .i64 0, .string ⟨#[]⟩, .bool false, .bool false, .int .i64 0, .int .i64 0, .int .i64 0, .int .i64 0, .slice none 0 0, .slice none 0 0, .int .i64 0] 43)) := (((Below.refl _ w).alloc (Nat.le_refl _) _).alloc (by simp) _).alloc (by simp; omega) _
  have HBY := hid (three_blocks w (.cells #[.int .i64 ak, .string ax, .bool asp, .bool af, .int .i64 afi, .int .i64 al, .int .i64 ah, .int .i64 an, .slice none 0 0, .slice ca cn cc, .int .i64 am] 43) (.cells #[.int .i64 bk, .string bx, .bool bsp, .bool bf, .int .i64 bfi, .int .i64 bl, .int .i64 bh, .int .i64 bn, .slice ha hn hc, .slice ga gn gc, .int .i64 bm] 43) (.cells #[.int .i64 0, .string ⟨#[]⟩, .bool false, .bool false, .int .i64 0, .int .i64 0, .int .i64 0, .int .i64 0, .slice none 0 0, .slice none 0 0, .int .i64 0] 43))
  have HB0 := hid hb0
  have HT0 := hid (HT.out _ hb0)
  have HS0 := hid (show (((w.alloc (.cells #[.int .i64 ak, .string ax, .bool asp, .bool af, .int .i64 afi, .int .i64 al, .int .i64 ah, .int .i64 an, .slice none 0 0, .slice ca cn cc, .int .i64 am] 43)).alloc (.cells #[.int .i64 bk, .string bx, .bool bsp, .bool bf, .int .i64 bfi, .int .i64 bl, .int .i64 bh, .int .i64 bn, .slice ha hn hc, .slice ga gn gc, .int .i64 bm] 43)).alloc (.cells #[.int .i64 0, .string ⟨#[]⟩, .bool false, .bool false, .int .i64 0, .int .i64 0, .int .i64 0, .int .i64 0, .slice none 0 0, .slice none 0 0, .int .i64 0] 43)).heap.size = w.heap.size + 1 + 1 + 1 by simp)
  clear hb0 HT
  have HP : Hid (∀ l : List Tk, (toksF 0 tx.data.toList).1 = l → pasteT tx.data.toList = match l with | [t] => if t.text.data.toList == tx.data.toList then some t else none | _ => none) := fun l h => by unfold pasteT; rw [h]
  rcases hts : (toksF 0 tx.data.toList).1 with _ | ⟨t, _ | ⟨u, r⟩⟩
  · rw [HP.out _ hts]
    rw [hts] at HT0
    clear hts HP
    dsimp only
    generalize (toksF 0 tx.data.toList).2 = FF at HT0
    obtain ⟨f0, f1, f2⟩ := FF
    go_enter Tryz.func25, Tryz.ntmps25
    go_wp2_with fail
    generalize (((w.alloc (.cells #[.int .i64 ak, .string ax, .bool asp, .bool af, .int .i64 afi, .int .i64 al, .int .i64 ah, .int .i64 an, .slice none 0 0, .slice ca cn cc, .int .i64 am] 43)).alloc (.cells #[.int .i64 bk, .string bx, .bool bsp, .bool bf, .int .i64 bfi, .int .i64 bl, .int .i64 bh, .int .i64 bn, .slice ha hn hc, .slice ga gn gc, .int .i64 bm] 43)).alloc (.cells #[.int .i64 0, .string ⟨#[]⟩, .bool false, .bool false, .int .i64 0, .int .i64 0, .int .i64 0, .int .i64 0, .slice none 0 0, .slice none 0 0, .int .i64 0] 43)) = w0 at HBY HB0 HT0 HS0 ⊢
    refine HT0.out.mono ?_
    rintro e w1 ⟨ta, tc, rfl, hTA, hb1, hcap⟩
    have hbn := hb1.alloc hb1.size (.cells #[.int .i64 f0, .int .i64 f1, .int .i64 f2] 29)
    have HB1 := hid (HB0.out.trans (hbn.mono HB0.out.size))
    have g1 := (hbn.block _ (lt_of_block HBY.out.1)).trans HBY.out.1
    have g2 := (hbn.block _ (lt_of_block HBY.out.2.1)).trans HBY.out.2.1
    have g3 := (hbn.block _ (lt_of_block HBY.out.2.2)).trans HBY.out.2.2
    have HL1 := hid (And.intro (lt_of_block g1) (lt_of_block g3))
    clear hTA hcap
    have HG3 := hid g3
    obtain ⟨⟨d0, d1, d2, d3, d4, d5, d6, d7, d8, d9, d10⟩, ⟨y0, y1, y2, y3, y4, y5, y6, y7, y8, y9, y10⟩⟩ := tok_block g3
    clear g1 g2 g3 hb1 hbn
    go_wp2_with fail
    exact bodyPost_ret (paste_ret (put_one HG3.out) _ rfl rfl) rfl ⟨rfl, put_one_below (by omega) HB1.out⟩
  · rw [HP.out _ hts]
    rw [hts] at HT0
    clear hts HP
    dsimp only
    rcases hq : (t.text.data.toList == tx.data.toList) with _ | _
    · rw [if_neg (by decide)]
      generalize (toksF 0 tx.data.toList).2 = FF at HT0
      obtain ⟨f0, f1, f2⟩ := FF
      go_enter Tryz.func25, Tryz.ntmps25
      go_wp2_with fail
      generalize (((w.alloc (.cells #[.int .i64 ak, .string ax, .bool asp, .bool af, .int .i64 afi, .int .i64 al, .int .i64 ah, .int .i64 an, .slice none 0 0, .slice ca cn cc, .int .i64 am] 43)).alloc (.cells #[.int .i64 bk, .string bx, .bool bsp, .bool bf, .int .i64 bfi, .int .i64 bl, .int .i64 bh, .int .i64 bn, .slice ha hn hc, .slice ga gn gc, .int .i64 bm] 43)).alloc (.cells #[.int .i64 0, .string ⟨#[]⟩, .bool false, .bool false, .int .i64 0, .int .i64 0, .int .i64 0, .int .i64 0, .slice none 0 0, .slice none 0 0, .int .i64 0] 43)) = w0 at HBY HB0 HT0 HS0 ⊢
      refine HT0.out.mono ?_
      rintro e w1 ⟨ta, tc, rfl, hTA, hb1, hcap⟩
      have hbn := hb1.alloc hb1.size (.cells #[.int .i64 f0, .int .i64 f1, .int .i64 f2] 29)
      have HB1 := hid (HB0.out.trans (hbn.mono HB0.out.size))
      have g1 := (hbn.block _ (lt_of_block HBY.out.1)).trans HBY.out.1
      have g2 := (hbn.block _ (lt_of_block HBY.out.2.1)).trans HBY.out.2.1
      have g3 := (hbn.block _ (lt_of_block HBY.out.2.2)).trans HBY.out.2.2
      have HL1 := hid (And.intro (lt_of_block g1) (lt_of_block g3))
      rcases hTA with h0 | ⟨b0, off, rfl, hb0, hcx⟩
      · cases h0
      have hbl := (Below.refl _ w1).alloc (Nat.le_refl _) (.cells #[.int .i64 f0, .int .i64 f1, .int .i64 f2] 29)
      have t0 := (hbl.cell (p := ⟨b0, off + 0 * 11 + 0, none⟩) hb0).trans (hcx 0 t rfl 0 _ rfl)
      have t1 := (hbl.cell (p := ⟨b0, off + 0 * 11 + 1, none⟩) hb0).trans (hcx 0 t rfl 1 _ rfl)
      simp only [Nat.zero_mul, Nat.add_zero] at t0 t1
      have hlt0 : b0 < w1.heap.size := hb0
      have hne1 : (t.text.toList == tx.toList) = false := by rw [toList_data, toList_data]; exact hq
      clear hcx hbl hcap hq
      have HG3 := hid g3
      obtain ⟨⟨d0, d1, d2, d3, d4, d5, d6, d7, d8, d9, d10⟩, ⟨y0, y1, y2, y3, y4, y5, y6, y7, y8, y9, y10⟩⟩ := tok_block g3
      clear g1 g2 g3 hb1 hbn
      go_wp2_with fail
      exact bodyPost_ret (paste_ret (put_one HG3.out) _ rfl rfl) rfl ⟨rfl, put_one_below (by omega) HB1.out⟩
    · rw [if_pos rfl]
      generalize (toksF 0 tx.data.toList).2 = FF at HT0
      obtain ⟨f0, f1, f2⟩ := FF
      go_enter Tryz.func25, Tryz.ntmps25
      go_wp2_with fail
      generalize (((w.alloc (.cells #[.int .i64 ak, .string ax, .bool asp, .bool af, .int .i64 afi, .int .i64 al, .int .i64 ah, .int .i64 an, .slice none 0 0, .slice ca cn cc, .int .i64 am] 43)).alloc (.cells #[.int .i64 bk, .string bx, .bool bsp, .bool bf, .int .i64 bfi, .int .i64 bl, .int .i64 bh, .int .i64 bn, .slice ha hn hc, .slice ga gn gc, .int .i64 bm] 43)).alloc (.cells #[.int .i64 0, .string ⟨#[]⟩, .bool false, .bool false, .int .i64 0, .int .i64 0, .int .i64 0, .int .i64 0, .slice none 0 0, .slice none 0 0, .int .i64 0] 43)) = w0 at HBY HB0 HT0 HS0 ⊢
      refine HT0.out.mono ?_
      rintro e w1 ⟨ta, tc, rfl, hTA, hb1, hcap⟩
      have hbn := hb1.alloc hb1.size (.cells #[.int .i64 f0, .int .i64 f1, .int .i64 f2] 29)
      have HB1 := hid (HB0.out.trans (hbn.mono HB0.out.size))
      have g1 := (hbn.block _ (lt_of_block HBY.out.1)).trans HBY.out.1
      have g2 := (hbn.block _ (lt_of_block HBY.out.2.1)).trans HBY.out.2.1
      have g3 := (hbn.block _ (lt_of_block HBY.out.2.2)).trans HBY.out.2.2
      have HL1 := hid (And.intro (lt_of_block g1) (lt_of_block g3))
      rcases hTA with h0 | ⟨b0, off, rfl, hb0, hcx⟩
      · cases h0
      have hbl := (Below.refl _ w1).alloc (Nat.le_refl _) (.cells #[.int .i64 f0, .int .i64 f1, .int .i64 f2] 29)
      have t0 := (hbl.cell (p := ⟨b0, off + 0 * 11 + 0, none⟩) hb0).trans (hcx 0 t rfl 0 _ rfl)
      have t1 := (hbl.cell (p := ⟨b0, off + 0 * 11 + 1, none⟩) hb0).trans (hcx 0 t rfl 1 _ rfl)
      simp only [Nat.zero_mul, Nat.add_zero] at t0 t1
      have hlt0 : b0 < w1.heap.size := hb0
      have hne1 : (t.text.toList == tx.toList) = true := by rw [toList_data, toList_data]; exact hq
      have HC := hid (fun W => cloneS_none W)
      have HD := hid (fun fv W => deleteS_none fv W)
      have HG3 := hid g3
      obtain ⟨⟨f0', f1', f2', f3', f4', f5', f6', f7', f8', f9', f10'⟩, ⟨z0, z1, z2, z3, z4, z5, z6, z7, z8, z9, z10⟩⟩ := tok_block g1
      obtain ⟨⟨d0, d1, d2, d3, d4, d5, d6, d7, d8, d9, d10⟩, ⟨y0, y1, y2, y3, y4, y5, y6, y7, y8, y9, y10⟩⟩ := tok_block g3
      have hne12 : w.heap.size ≠ w.heap.size + 1 + 1 := by omega
      clear hcx hbl hcap hq g1 g2 g3 hb1 hbn
      go_wp2_with fail
      refine (HC.out _).mono ?_
      rintro e w2 ⟨rfl, hw2⟩
      subst w2
      go_wp2_with fail
      refine (HD.out _ _).mono ?_
      rintro e w3 ⟨rfl, hw3⟩
      subst w3
      go_wp2_with fail
      exact bodyPost_ret (paste_ret (put_four (by omega) HG3.out) _ rfl rfl) rfl ⟨rfl, put_four_below (Nat.le_refl _) (by omega) HB1.out⟩
  · rw [HP.out _ hts]
    rw [hts] at HT0
    clear hts HP
    dsimp only
    generalize (toksF 0 tx.data.toList).2 = FF at HT0
    obtain ⟨f0, f1, f2⟩ := FF
    go_enter Tryz.func25, Tryz.ntmps25
    go_wp2_with fail
    generalize (((w.alloc (.cells #[.int .i64 ak, .string ax, .bool asp, .bool af, .int .i64 afi, .int .i64 al, .int .i64 ah, .int .i64 an, .slice none 0 0, .slice ca cn cc, .int .i64 am] 43)).alloc (.cells #[.int .i64 bk, .string bx, .bool bsp, .bool bf, .int .i64 bfi, .int .i64 bl, .int .i64 bh, .int .i64 bn, .slice ha hn hc, .slice ga gn gc, .int .i64 bm] 43)).alloc (.cells #[.int .i64 0, .string ⟨#[]⟩, .bool false, .bool false, .int .i64 0, .int .i64 0, .int .i64 0, .int .i64 0, .slice none 0 0, .slice none 0 0, .int .i64 0] 43)) = w0 at HBY HB0 HT0 HS0 ⊢
    refine HT0.out.mono ?_
    rintro e w1 ⟨ta, tc, rfl, hTA, hb1, hcap⟩
    have hbn := hb1.alloc hb1.size (.cells #[.int .i64 f0, .int .i64 f1, .int .i64 f2] 29)
    have HB1 := hid (HB0.out.trans (hbn.mono HB0.out.size))
    have g1 := (hbn.block _ (lt_of_block HBY.out.1)).trans HBY.out.1
    have g2 := (hbn.block _ (lt_of_block HBY.out.2.1)).trans HBY.out.2.1
    have g3 := (hbn.block _ (lt_of_block HBY.out.2.2)).trans HBY.out.2.2
    have HL1 := hid (And.intro (lt_of_block g1) (lt_of_block g3))
    have hln : (((r.length : Int) + 1 + 1) != 1) = true := by simp; omega
    have hln2 : ¬ ((r.length : Int) + 1 + 1 = 1) := by omega
    clear hTA hcap
    have HG3 := hid g3
    obtain ⟨⟨d0, d1, d2, d3, d4, d5, d6, d7, d8, d9, d10⟩, ⟨y0, y1, y2, y3, y4, y5, y6, y7, y8, y9, y10⟩⟩ := tok_block g3
    clear g1 g2 g3 hb1 hbn
    go_wp2_with fail
    exact bodyPost_ret (paste_ret (put_one HG3.out) _ rfl rfl) rfl ⟨rfl, put_one_below (by omega) HB1.out⟩
end
section
open Go.RowKit Go.Shelf

/-- What stands behind the last token. -/
def endTk (ts : List Tk) : Tk := match ts.getLast? with
  | some t => ⟨0, ⟨#[]⟩, false, false, t.file, t.hi, 0, 0⟩
  | none => ⟨0, ⟨#[]⟩, false, false, -1, 0, 0, 0⟩
def tokAt (ts : List Tk) (i : Nat) : Tk := ts.getD i (endTk ts)
theorem tokAt_in {ts : List Tk} {i : Nat} {x : Tk} (h : ts[i]? = some x) : tokAt ts i = x := by unfold tokAt; rw [List.getD, h]; rfl
theorem tokAt_out {ts : List Tk} {i : Nat} (h : ts.length ≤ i) : tokAt ts i = endTk ts := by unfold tokAt; rw [List.getD, List.getElem?_eq_none h]; rfl
/-- What the function that tells token i holds. -/
structure NumAt (w : World) (Bl Be : Nat) (a : Option Addr) (c : Nat) (ts : List Tk) : Prop where
  l : w.heap[Bl]? = some (.cells #[.slice a ts.length c] 24)
  e : w.heap[Be]? = some (.cells #[.int .i64 (endTk ts).kind, .string (endTk ts).text, .bool (endTk ts).space, .bool (endTk ts).first, .int .i64 (endTk ts).file, .int .i64 (endTk ts).lo, .int .i64 (endTk ts).hi, .int .i64 (endTk ts).line, .slice none 0 0, .slice none 0 0, .int .i64 0] 43)
  toks : TAt w a ts
theorem NumAt.below {w w' : World} {Bl Be : Nat} {a : Option Addr} {c : Nat} {ts : List Tk} (h : NumAt w Bl Be a c ts) (hb : Below w.heap.size w w') : NumAt w' Bl Be a c ts :=
  ⟨(hb.block _ (lt_of_block h.l)).trans h.l, (hb.block _ (lt_of_block h.e)).trans h.e, h.toks.below hb⟩
theorem num_ret {W : World} {F : Nat} {v0 v1 v2 v3 v4 v5 v6 v7 v8 v9 v10 : Value} (hF : W.heap[F]? = some (.cells #[v0, v1, v2, v3, v4, v5, v6, v7, v8, v9, v10] 43)) (tmps : Array Value) (h4 : tmps.getD 4 undef = .pointer (some ⟨F, 0, none⟩)) :
    (results Tryz.f56 tmps).run Tryz.prog W = .ok (.agg #[v0, v1, v2, v3, v4, v5, v6, v7, v8, v9, v10]) W := by
  obtain ⟨⟨c0, c1, c2, c3, c4, c5, c6, c7, c8, c9, c10⟩, _⟩ := tok_block hF
  simp at h4
  simp [results, Tryz.results56, go_sem, h4, c0, c1, c2, c3, c4, c5, c6, c7, c8, c9, c10]

set_option maxRecDepth 100000 in
set_option maxHeartbeats 1000000 in
theorem num_at (Bl Be : Nat) (a : Option Addr) (c : Nat) (ts : List Tk) (i : Nat) (w : World) (h : NumAt w Bl Be a c ts) :
    Calls Tryz.prog 56 #[.int .i64 (i : Int), .pointer (some ⟨Bl, 0, none⟩), .pointer (some ⟨Be, 0, none⟩)] w fun e w' => e = .returned (aggT (tokAt ts i)) ∧ Below w.heap.size w w' := by
  have hi0 : (0 : Int) ≤ (i : Int) := Int.natCast_nonneg _
  have b0 : w.cell? ⟨Bl, 0, none⟩ = some (.slice a ts.length c) := by rw [Go.Joins.cell_of_block h.l]; rfl
  have hlb := lt_of_block h.l
  by_cases hlt : i < ts.length
  · obtain ⟨x, hx⟩ : ∃ x, ts[i]? = some x := ⟨_, List.getElem?_eq_getElem hlt⟩
    rw [tokAt_in hx]
    rcases h.toks with h0 | ⟨b, off, rfl, hb, hc⟩
    · rw [h0] at hlt; exact absurd hlt (Nat.not_lt_zero _)
    obtain ⟨c0, c1, c2, c3, c4, c5, c6, c7, c8, c9, c10⟩ := tk_cells (w := w) (hc i x hx)
    have hii : (i : Int) < (ts.length : Int) := Int.ofNat_lt.2 hlt
    clear hc hx h
    go_enter Tryz.func56, Tryz.ntmps56
    go_wp2_with fail
    exact bodyPost_ret (num_ret (heap_alloc_new w _) _ rfl) rfl ⟨rfl, (Below.refl _ w).alloc (Nat.le_refl _) _⟩
  · rw [tokAt_out (Nat.le_of_not_lt hlt)]
    have hii : ¬ ((i : Int) < (ts.length : Int)) := fun h => hlt (Int.ofNat_lt.1 h)
    obtain ⟨⟨c0, c1, c2, c3, c4, c5, c6, c7, c8, c9, c10⟩, _⟩ := tok_block h.e
    have hle := lt_of_block h.e
    clear h
    go_enter Tryz.func56, Tryz.ntmps56
    go_wp2_with fail
    exact bodyPost_ret (num_ret (heap_alloc_new w _) _ rfl) rfl ⟨rfl, (Below.refl _ w).alloc (Nat.le_refl _) _⟩
def NumPost (a : Option Addr) (c : Nat) (ts : List Tk) (w : World) (e : Ending) (w' : World) : Prop := ∃ Bl Be, e = .returned (.func (.func 56) #[] #[.pointer (some ⟨Bl, 0, none⟩), .pointer (some ⟨Be, 0, none⟩)]) ∧ NumAt w' Bl Be a c ts ∧ Below w.heap.size w w'
set_option maxRecDepth 100000 in
set_option maxHeartbeats 1000000 in
theorem numbered_any (a : Option Addr) (c : Nat) (ts : List Tk) (w : World) (hT : TAt w a ts) (hl : ts.length ≤ 1048576) :
    Calls Tryz.prog 29 #[.slice a ts.length c] w (NumPost a c ts w) := by
  have HT := hid hT
  rcases hts : ts.getLast? with _ | t
  · obtain rfl : ts = [] := List.getLast?_eq_none_iff.1 hts
    clear hts hT
    go_enter Tryz.func29, Tryz.ntmps29
    go_wp2_with fail
    go_ret
    obtain ⟨t1, t2⟩ := two_blocks w (.cells #[.slice a 0 c] 24) (.cells #[.int .i64 0, .string ⟨#[]⟩, .bool false, .bool false, .int .i64 (-1), .int .i64 0, .int .i64 0, .int .i64 0, .slice none 0 0, .slice none 0 0, .int .i64 0] 43)
    exact ⟨_, _, rfl, ⟨t1, t2, .inl rfl⟩, ((Below.refl _ w).alloc (Nat.le_refl _) _).alloc (by simp) _⟩
  · obtain ⟨m, hm⟩ : ∃ m, ts.length = m + 1 := ⟨ts.length - 1, by have : ts ≠ [] := fun e => by rw [e] at hts; cases hts
                                                                  have := List.length_pos_iff.2 this
                                                                  omega⟩
    have hx : ts[m]? = some t := by rw [List.getLast?_eq_getElem?, hm] at hts; exact hts
    have HE : Hid (endTk ts = ⟨0, ⟨#[]⟩, false, false, t.file, t.hi, 0, 0⟩) := by show _ = _; unfold endTk; rw [hts]
    rcases hT with h0 | ⟨b, off, rfl, hb, hc⟩
    · rw [h0] at hts; cases hts
    obtain ⟨c0, c1, c2, c3, c4, c5, c6, c7, c8, c9, c10⟩ := tk_cells (w := w) (hc m t hx)
    have HN := hid (fun W (hW : Below w.heap.size w W) => HT.out.below hW)
    have hmi : (m : Int) < ((m : Int) + 1) := by omega
    have hm0 : (0 : Int) ≤ (m : Int) := Int.natCast_nonneg _
    have hmw : IntKind.i64.wrap ((m : Int) + 1 - 1) = (m : Int) := by rw [IntKind.wrap_i64]; omega
    have hpos : (0 : Int) < (m : Int) + 1 := by omega
    have HM := hid hm
    rw [hm]
    push_cast
    obtain ⟨N, hN⟩ : ∃ N, m + 1 = N := ⟨_, rfl⟩
    have hNi : (m : Int) + 1 = (N : Int) := by omega
    rw [hN]
    rw [hNi] at hmi hmw hpos
    have HNN := hid hN
    clear hN hNi hm hts hx hc hl
    have HK : Hid (∀ W, Below (w.heap.size + 1) (w.alloc (.cells #[.slice (some ⟨b, off, none⟩) N c] 24)) W → W.cell? ⟨w.heap.size, 0, none⟩ = some (.slice (some ⟨b, off, none⟩) N c) ∧ W.cell? ⟨b, off + m * 11 + 4, none⟩ = some (.int .i64 t.file) ∧ W.cell? ⟨b, off + m * 11 + 6, none⟩ = some (.int .i64 t.hi)) := fun W hW => by
      have hb1 : Below w.heap.size w (w.alloc (.cells #[.slice (some ⟨b, off, none⟩) N c] 24)) := (Below.refl _ w).alloc (Nat.le_refl _) _
      refine ⟨(hW.cell (p := ⟨w.heap.size, 0, none⟩) (by simp)).trans (by simp), (hW.cell (p := ⟨b, _, none⟩) (by show b < _; omega)).trans ((hb1.cell (p := ⟨b, _, none⟩) hb).trans c4), (hW.cell (p := ⟨b, _, none⟩) (by show b < _; omega)).trans ((hb1.cell (p := ⟨b, _, none⟩) hb).trans c6)⟩
    clear c0 c1 c2 c3 c4 c5 c6 c7 c8 c9 c10
    go_enter Tryz.func29, Tryz.ntmps29
    go_wp2_with fail
    go_region_held3 (fun W => W.cell? ⟨w.heap.size, 0, none⟩ = some (.slice (some ⟨b, off, none⟩) N c) ∧ W.cell? ⟨b, off + m * 11 + 4, none⟩ = some (.int .i64 t.file) ∧ W.cell? ⟨b, off + m * 11 + 6, none⟩ = some (.int .i64 t.hi))
      (exact HK.out _ (by repeat' (first | exact Below.refl _ _ | apply Below.drew | apply Below.setCell | apply Below.alloc | (simp; done))))
      (fail)
    all_goals go_wp2_with fail
    all_goals go_ret
    obtain ⟨t1, t2⟩ := two_blocks w (.cells #[.slice (some ⟨b, off, none⟩) N c] 24) (.cells #[.int .i64 0, .string ⟨#[]⟩, .bool false, .bool false, .int .i64 t.file, .int .i64 t.hi, .int .i64 0, .int .i64 0, .slice none 0 0, .slice none 0 0, .int .i64 0] 43)
    have hbd : Below w.heap.size w ((w.alloc (.cells #[.slice (some ⟨b, off, none⟩) N c] 24)).alloc (.cells #[.int .i64 0, .string ⟨#[]⟩, .bool false, .bool false, .int .i64 t.file, .int .i64 t.hi, .int .i64 0, .int .i64 0, .slice none 0 0, .slice none 0 0, .int .i64 0] 43)).drew := (((Below.refl _ w).alloc (Nat.le_refl _) _).alloc (by simp) _).drew
    refine ⟨_, _, rfl, ⟨?_, ?_, HN.out _ hbd⟩, hbd⟩
    · rw [HM.out, HNN.out]
      exact t1
    · rw [HE.out]
      exact t2
end
section
open Go.RowKit Go.Shelf

def dotsL : List UInt8 := [46, 46, 46]
def restL : List UInt8 := [95, 95, 86, 65, 95, 65, 82, 71, 83, 95, 95]
def restB : ByteArray := ⟨#[95, 95, 86, 65, 95, 65, 82, 71, 83, 95, 95]⟩
/-- Why a token can't be the next parameter. -/
def wrongP (ps : List ByteArray) (more : Bool) (t : Tk) : Int :=
  if more || (t.text.toList == restL) || (!(t.text.toList == dotsL) && !(t.kind == 1)) then 2
  else if Lib.containsS ps t.text then 7
  else if ps.length = 6 then 5
  else 0
/-- Parameters from token i on: those that there are, whether the last one takes all, the next token, what is wrong. -/
def parL (ts : List Tk) : Nat → Nat → List ByteArray → Bool → List ByteArray × Bool × Nat × Int
  | 0, i, ps, more => (ps, more, i, 0)
  | f + 1, i, ps, more =>
    if wrongP ps more (tokAt ts i) ≠ 0 then (ps, more, i, wrongP ps more (tokAt ts i))
    else if (tokAt ts (i + 1)).text.toList == [41] then (ps ++ [if (tokAt ts i).text.toList == dotsL then restB else (tokAt ts i).text], (tokAt ts i).text.toList == dotsL, i + 2, 0)
    else if (tokAt ts (i + 1)).text.toList == [44] then parL ts f (i + 2) (ps ++ [if (tokAt ts i).text.toList == dotsL then restB else (tokAt ts i).text]) ((tokAt ts i).text.toList == dotsL)
    else (ps ++ [if (tokAt ts i).text.toList == dotsL then restB else (tokAt ts i).text], (tokAt ts i).text.toList == dotsL, i + 1, 2)
/-- A block that holds a definition's values. -/
def MBox (w : World) (B : Nat) (v : Mv) : Prop := w.heap[B]? = some (.cells #[.string v.name, .bool v.call, .slice v.pa v.pn v.pc, .bool v.more, .slice v.ba v.bn v.bc] 26)
theorem MBox.below {w w' : World} {B : Nat} {v : Mv} (h : MBox w B v) (hb : Below w.heap.size w w') : MBox w' B v := (hb.block _ (lt_of_block h)).trans h
theorem MBox.facts {w : World} {B : Nat} {v : Mv} (h : MBox w B v) : (w.cell? ⟨B, 0, none⟩ = some (.string v.name) ∧ w.cell? ⟨B, 1, none⟩ = some (.bool v.call) ∧ w.cell? ⟨B, 2, none⟩ = some (.slice v.pa v.pn v.pc) ∧ w.cell? ⟨B, 3, none⟩ = some (.bool v.more) ∧ w.cell? ⟨B, 4, none⟩ = some (.slice v.ba v.bn v.bc)) ∧ (w.frozen? ⟨B, 0, none⟩ = false ∧ w.frozen? ⟨B, 1, none⟩ = false ∧ w.frozen? ⟨B, 2, none⟩ = false ∧ w.frozen? ⟨B, 3, none⟩ = false ∧ w.frozen? ⟨B, 4, none⟩ = false) := by
  unfold MBox at h
  simp [World.cell?, World.frozen?, h]
theorem contains_any (a : Option Addr) (c : Nat) (ss : List ByteArray) (x : ByteArray) (w : World) (hS : StAt w a ss) (hl : ss.length ≤ 1048576) :
    Calls Tryz.prog 51 #[.slice a ss.length c, .string x] w fun e w' => e = .returned (.bool (Lib.containsS ss x)) ∧ Below w.heap.size w w' := by
  rcases hS with rfl | ⟨b, off, rfl, hb, hc⟩
  · refine (Any.slices_Contains_string_empty Tryz.layContainsS a c x w).mono ?_
    rintro e w' ⟨rfl, rfl⟩
    exact ⟨rfl, Below.refl _ _⟩
  · refine (Any.slices_Contains_string Tryz.layContainsS b off ss.length c ss x w (Nat.le_refl _) (by omega) (fun j hj => hc j _ (by simp [List.getD, List.getElem?_eq_getElem hj]))).mono ?_
    rintro e w' ⟨rfl, rfl⟩
    rw [List.take_length]
    exact ⟨rfl, Below.refl _ _⟩
set_option maxRecDepth 100000 in
set_option maxHeartbeats 2000000 in
theorem wrongParam_any (B : Nat) (v : Mv) (ps : List ByteArray) (t : Tk) (w : World) (hB : MBox w B v) (hS : StAt w v.pa ps) (hn : v.pn = ps.length) (hl : ps.length ≤ 1048576) :
    Calls Tryz.prog 76 #[.pointer (some ⟨B, 0, none⟩), aggT t] w fun e w' => e = .returned (.int .i64 (wrongP ps v.more t)) ∧ Below w.heap.size w w' := by
  obtain ⟨⟨b0, b1, b2, b3, b4⟩, _⟩ := hB.facts
  have hlb := lt_of_block hB
  have HC := hid (fun W (h : Below w.heap.size w W) => contains_any v.pa v.pc ps t.text W (hS.below h) hl)
  rw [← hn] at HC
  have HB := hid ((Below.refl _ w).alloc (Nat.le_refl _) (.cells #[.int .i64 t.kind, .string t.text, .bool t.space, .bool t.first, .int .i64 t.file, .int .i64 t.lo, .int .i64 t.hi, .int .i64 t.line, .slice none 0 0, .slice none 0 0, .int .i64 0] 43))
  have HT1 := hid (show (w.alloc (.cells #[.int .i64 t.kind, .string t.text, .bool t.space, .bool t.first, .int .i64 t.file, .int .i64 t.lo, .int .i64 t.hi, .int .i64 t.line, .slice none 0 0, .slice none 0 0, .int .i64 0] 43)).cell? ⟨w.heap.size, 1, none⟩ = some (.string t.text) by rw [Go.Joins.cell_of_block (heap_alloc_new w _)]; rfl)
  have HP2 := hid ((HB.out.cell (p := ⟨B, 2, none⟩) hlb).trans b2)
  unfold wrongP aggT dotsL restL
  rw [← hn]
  generalize Lib.containsS ps t.text = cb at HC ⊢
  obtain ⟨vn, vc, vpa, vpn, vpc, vm, vba, vbn, vbc⟩ := v
  dsimp only at b0 b1 b2 b3 b4 HC HP2 ⊢
  clear hB hS hn hl
  cases vm with
  | true =>
    go_enter Tryz.func76, Tryz.ntmps76
    go_wp2_with fail
    go_ret
    exact ⟨rfl, HB.out⟩
  | false =>
    rcases h1 : (t.text.toList == [95, 95, 86, 65, 95, 65, 82, 71, 83, 95, 95]) with _ | _
    · rcases h2 : (t.text.toList == [46, 46, 46]) with _ | _
      · rcases h3 : (t.kind == 1) with _ | _
        · have h3n : (t.kind != 1) = true := by simpa using h3
          go_enter Tryz.func76, Tryz.ntmps76
          go_wp2_with fail
          go_ret
          exact ⟨rfl, HB.out⟩
        · have h3n : (t.kind != 1) = false := by simpa using h3
          simp only [Bool.not_true, Bool.not_false, Bool.and_false, Bool.or_self, Bool.false_eq_true, if_false]
          cases cb with
          | true =>
            go_enter Tryz.func76, Tryz.ntmps76
            go_wp2_with fail
            generalize hwA : w.alloc (.cells #[.int .i64 t.kind, .string t.text, .bool t.space, .bool t.first, .int .i64 t.file, .int .i64 t.lo, .int .i64 t.hi, .int .i64 t.line, .slice none 0 0, .slice none 0 0, .int .i64 0] 43) = wA at HB HT1 HP2 ⊢
            have hnn : Nonempty (Later wA) := ⟨⟨_, Below.refl _ _⟩⟩
            have r1 := Later.cell HT1.out
            have r2 := Later.cell HP2.out
            have HSL : Hid (∀ p : Later wA, Below w.heap.size w p.W) := fun p => HB.out.trans (p.hb.mono HB.out.size)
            clear hwA
            refine region_later (by kernel_rfl) (by kernel_rfl) ?_
            repeat (quiet_step ((go_at_call 51; exact Calls.later (HC.out _ (HSL.out _)))))
            refine wpQuiet_nil ?_
            rintro _ ⟨p, rfl⟩
            have HB1 := hid (HSL.out p)
            have k2 := r2 p
            clear r1 r2 hnn HSL
            generalize p.W = w1 at HB1 k2 ⊢
            go_wp2_with fail
            go_ret
            exact ⟨rfl, HB1.out⟩
          | false =>
            by_cases h6 : vpn = 6
            · subst h6
              rw [if_pos rfl]
              go_enter Tryz.func76, Tryz.ntmps76
              go_wp2_with fail
              generalize hwA : w.alloc (.cells #[.int .i64 t.kind, .string t.text, .bool t.space, .bool t.first, .int .i64 t.file, .int .i64 t.lo, .int .i64 t.hi, .int .i64 t.line, .slice none 0 0, .slice none 0 0, .int .i64 0] 43) = wA at HB HT1 HP2 ⊢
              have hnn : Nonempty (Later wA) := ⟨⟨_, Below.refl _ _⟩⟩
              have r1 := Later.cell HT1.out
              have r2 := Later.cell HP2.out
              have HSL : Hid (∀ p : Later wA, Below w.heap.size w p.W) := fun p => HB.out.trans (p.hb.mono HB.out.size)
              clear hwA
              refine region_later (by kernel_rfl) (by kernel_rfl) ?_
              repeat (quiet_step ((go_at_call 51; exact Calls.later (HC.out _ (HSL.out _)))))
              refine wpQuiet_nil ?_
              rintro _ ⟨p, rfl⟩
              have HB1 := hid (HSL.out p)
              have k2 := r2 p
              clear r1 r2 hnn HSL
              generalize p.W = w1 at HB1 k2 ⊢
              go_wp2_with fail
              go_ret
              exact ⟨rfl, HB1.out⟩
            · have hn6 : ((vpn : Int) == 6) = false := by rw [beq_eq_false_iff_ne]; omega
              have hn6' : ¬ ((vpn : Int) = 6) := by omega
              rw [if_neg h6]
              go_enter Tryz.func76, Tryz.ntmps76
              go_wp2_with fail
              generalize hwA : w.alloc (.cells #[.int .i64 t.kind, .string t.text, .bool t.space, .bool t.first, .int .i64 t.file, .int .i64 t.lo, .int .i64 t.hi, .int .i64 t.line, .slice none 0 0, .slice none 0 0, .int .i64 0] 43) = wA at HB HT1 HP2 ⊢
              have hnn : Nonempty (Later wA) := ⟨⟨_, Below.refl _ _⟩⟩
              have r1 := Later.cell HT1.out
              have r2 := Later.cell HP2.out
              have HSL : Hid (∀ p : Later wA, Below w.heap.size w p.W) := fun p => HB.out.trans (p.hb.mono HB.out.size)
              clear hwA
              refine region_later (by kernel_rfl) (by kernel_rfl) ?_
              repeat (quiet_step ((go_at_call 51; exact Calls.later (HC.out _ (HSL.out _)))))
              refine wpQuiet_nil ?_
              rintro _ ⟨p, rfl⟩
              have HB1 := hid (HSL.out p)
              have k2 := r2 p
              clear r1 r2 hnn HSL
              generalize p.W = w1 at HB1 k2 ⊢
              go_wp2_with fail
              go_ret
              exact ⟨rfl, HB1.out⟩
      · simp only [Bool.not_true, Bool.false_and, Bool.or_self, Bool.false_eq_true, if_false]
        cases cb with
        | true =>
          go_enter Tryz.func76, Tryz.ntmps76
          go_wp2_with fail
          generalize hwA : w.alloc (.cells #[.int .i64 t.kind, .string t.text, .bool t.space, .bool t.first, .int .i64 t.file, .int .i64 t.lo, .int .i64 t.hi, .int .i64 t.line, .slice none 0 0, .slice none 0 0, .int .i64 0] 43) = wA at HB HT1 HP2 ⊢
          have hnn : Nonempty (Later wA) := ⟨⟨_, Below.refl _ _⟩⟩
          have r1 := Later.cell HT1.out
          have r2 := Later.cell HP2.out
          have HSL : Hid (∀ p : Later wA, Below w.heap.size w p.W) := fun p => HB.out.trans (p.hb.mono HB.out.size)
          clear hwA
          refine region_later (by kernel_rfl) (by kernel_rfl) ?_
          repeat (quiet_step ((go_at_call 51; exact Calls.later (HC.out _ (HSL.out _)))))
          refine wpQuiet_nil ?_
          rintro _ ⟨p, rfl⟩
          have HB1 := hid (HSL.out p)
          have k2 := r2 p
          clear r1 r2 hnn HSL
          generalize p.W = w1 at HB1 k2 ⊢
          go_wp2_with fail
          go_ret
          exact ⟨rfl, HB1.out⟩
        | false =>
          by_cases h6 : vpn = 6
          · subst h6
            rw [if_pos rfl]
            go_enter Tryz.func76, Tryz.ntmps76
            go_wp2_with fail
            generalize hwA : w.alloc (.cells #[.int .i64 t.kind, .string t.text, .bool t.space, .bool t.first, .int .i64 t.file, .int .i64 t.lo, .int .i64 t.hi, .int .i64 t.line, .slice none 0 0, .slice none 0 0, .int .i64 0] 43) = wA at HB HT1 HP2 ⊢
            have hnn : Nonempty (Later wA) := ⟨⟨_, Below.refl _ _⟩⟩
            have r1 := Later.cell HT1.out
            have r2 := Later.cell HP2.out
            have HSL : Hid (∀ p : Later wA, Below w.heap.size w p.W) := fun p => HB.out.trans (p.hb.mono HB.out.size)
            clear hwA
            refine region_later (by kernel_rfl) (by kernel_rfl) ?_
            repeat (quiet_step ((go_at_call 51; exact Calls.later (HC.out _ (HSL.out _)))))
            refine wpQuiet_nil ?_
            rintro _ ⟨p, rfl⟩
            have HB1 := hid (HSL.out p)
            have k2 := r2 p
            clear r1 r2 hnn HSL
            generalize p.W = w1 at HB1 k2 ⊢
            go_wp2_with fail
            go_ret
            exact ⟨rfl, HB1.out⟩
          · have hn6 : ((vpn : Int) == 6) = false := by rw [beq_eq_false_iff_ne]; omega
            have hn6' : ¬ ((vpn : Int) = 6) := by omega
            rw [if_neg h6]
            go_enter Tryz.func76, Tryz.ntmps76
            go_wp2_with fail
            generalize hwA : w.alloc (.cells #[.int .i64 t.kind, .string t.text, .bool t.space, .bool t.first, .int .i64 t.file, .int .i64 t.lo, .int .i64 t.hi, .int .i64 t.line, .slice none 0 0, .slice none 0 0, .int .i64 0] 43) = wA at HB HT1 HP2 ⊢
            have hnn : Nonempty (Later wA) := ⟨⟨_, Below.refl _ _⟩⟩
            have r1 := Later.cell HT1.out
            have r2 := Later.cell HP2.out
            have HSL : Hid (∀ p : Later wA, Below w.heap.size w p.W) := fun p => HB.out.trans (p.hb.mono HB.out.size)
            clear hwA
            refine region_later (by kernel_rfl) (by kernel_rfl) ?_
            repeat (quiet_step ((go_at_call 51; exact Calls.later (HC.out _ (HSL.out _)))))
            refine wpQuiet_nil ?_
            rintro _ ⟨p, rfl⟩
            have HB1 := hid (HSL.out p)
            have k2 := r2 p
            clear r1 r2 hnn HSL
            generalize p.W = w1 at HB1 k2 ⊢
            go_wp2_with fail
            go_ret
            exact ⟨rfl, HB1.out⟩
    · go_enter Tryz.func76, Tryz.ntmps76
      go_wp2_with fail
      go_ret
      exact ⟨rfl, HB.out⟩
end
end Go.Proofs.YtedmcefckcmheaaGreatDoor
