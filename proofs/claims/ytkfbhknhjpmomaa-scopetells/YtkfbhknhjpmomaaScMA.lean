/- Walk of the document's own With: names in a map of their own, one more. · Maps of numbers by names, made and looked up. -/
import Derived.Test.YtkfbhknhjpmomaaScSmall
import Derived.Maps.Ext
import Derived.Maps.RangeWalk
import Derived.Maps.OwnSet
import Derived.Maps.Own
import Derived.OpenShut
namespace Go.Proofs.Ytkfbhknhjpmomaa
section
open Go.RowKit Go.Shelf Go.Maps

def hasN : En → List UInt8 → Bool
  | [], _ => false
  | x :: r, s => if x.1 = s then true else hasN r s
/-- What a map of names is. -/
def EnIs (D : DataW Unit) (e : En) : Prop := Go.Maps.IsMap D ∧ ∀ x, (hasN e x = false ∧ ∀ zd, D.atKey (.string x) zd = zd) ∨ (hasN e x = true ∧ ∀ zd, D.atKey (.string x) zd = .lit (.bool (typN e x)))
theorem EnIs.nil : EnIs (.map []) [] := ⟨⟨[], rfl⟩, fun _ => .inl ⟨rfl, fun _ => rfl⟩⟩
theorem EnIs.put {D : DataW Unit} {e : En} (h : EnIs D e) (x : List UInt8) (t : Bool) : EnIs (D.put (.string x) (.lit (.bool t))) ((x, t) :: e) := by
  refine ⟨?_, fun y => ?_⟩
  · obtain ⟨es, rfl⟩ := h.1
    exact ⟨_, rfl⟩
  · by_cases hy : x = y
    · subst hy
      exact .inr ⟨by simp [hasN], fun zd => by rw [show typN ((x, t) :: e) x = t by simp [typN]]; exact Go.Maps.atKey_put_same h.1 (show Go.WideAt.IsKeyLit (.string x) from trivial) _ _⟩
    · have e1 : ∀ zd, (D.put (.string x) (.lit (.bool t))).atKey (.string y) zd = D.atKey (.string y) zd := fun zd => Go.Maps.atKey_put_other (fun e => hy (by injection e with e; exact e.symm)) _ _
      have e2 : hasN ((x, t) :: e) y = hasN e y := by simp [hasN, hy]
      have e3 : typN ((x, t) :: e) y = typN e y := by simp [typN, hy]
      rw [e2, e3]
      rcases h.2 y with ⟨h0, h1⟩ | ⟨h0, h1⟩
      · exact .inl ⟨h0, fun zd => (e1 zd).trans (h1 zd)⟩
      · exact .inr ⟨h0, fun zd => (e1 zd).trans (h1 zd)⟩
theorem typN_has {e : En} {x : List UInt8} (h : hasN e x = false) : typN e x = false := by
  induction e with
  | nil => rfl
  | cons y r ih =>
    unfold hasN at h
    unfold typN
    split at h
    · cases h
    · rename_i hn
      rw [if_neg hn]
      exact ih h
/-- Names lie there. -/
def EnAt (w : World) (v : Value) (e : En) : Prop := ∃ b D, v = .map (some b) ∧ w.ownsMap Try.prog 9 (plainElem Try.prog 4) b e.length D ∧ EnIs D e
theorem emap_same {w w' : World} {b n : Nat} {D : DataW Unit} (h : w.ownsMap Try.prog 9 (plainElem Try.prog 4) b n D) (hb : w'.heap[b]? = w.heap[b]?) : w'.ownsMap Try.prog 9 (plainElem Try.prog 4) b n D := by
  obtain ⟨es, clock, h1, h2⟩ := h
  exact ⟨es, clock, hb.trans h1, h2⟩
theorem EnAt.below {w w' : World} {v : Value} {e : En} (h : EnAt w v e) (hb : Below w.heap.size w w') : EnAt w' v e := by
  obtain ⟨b, D, rfl, h1, h2⟩ := h
  exact ⟨b, D, rfl, emap_same h1 (hb.block b h1.lt), h2⟩
/-- Names stay where one block that is no map is written. -/
theorem EnAt.kept {w w' : World} {v : Value} {e : En} {r : Nat} {c : Array Value} {t : TypeId} {fz : Nat × Nat} (h : EnAt w v e) (hr : w.heap[r]? = some (.cells c t fz)) (hk : Kept (· = r) w w') : EnAt w' v e := by
  obtain ⟨b, D, rfl, h1, h2⟩ := h
  refine ⟨b, D, rfl, emap_same h1 (hk.block b h1.lt (fun e => ?_)), h2⟩
  subst e
  obtain ⟨es, cl, hb, _⟩ := h1
  rw [hr] at hb
  cases hb

theorem key_mk {x : ByteArray} (hx : x.size ≤ maxLen) : keyOf Try.prog 9 (.string x) = some (.string x.data.toList) := by
  first | exact Go.Maps.keyOf_string_mk Try.underlying9 hx | (simp [keyOf, Try.underlying9, mapKey, hx])
theorem key_inv {key : Value} {kl : Lit} (h : keyOf Try.prog 9 key = some kl) : ∃ x : ByteArray, key = .string x ∧ kl = .string x.data.toList ∧ x.size ≤ maxLen := by
  have h2 : mapKey Try.prog 9 key = some kl := by rw [← h]; simp [keyOf, Try.underlying9]
  simp only [mapKey, Try.underlying9] at h2
  split at h2 <;> simp_all
theorem bool_inv {v : Value} {z : DataW Unit × List MemPlace} (h : plainElem Try.prog 4 v = some z) : ∃ c, v = .bool c ∧ z = (.lit (.bool c), []) := by
  simp only [plainElem, Try.underlying4] at h
  split at h <;> simp_all

/-- A truth value by a number, so that nothing parts on it. -/
def mkB (c : Nat) : Bool := c == 1
theorem mkB_of (b : Bool) : ∃ c, b = mkB c := by cases b; exact ⟨0, rfl⟩; exact ⟨1, rfl⟩
theorem next_sb {w : World} {ops : Array Oper} {rest : List Oper} {o : Oper} {a : Act} {Q : Exit → Act → World → Prop} (hg : o.guard = none) (it : Operand) (hop : o.op = Op.next it false)
    (b r n : Nat) (D : DataW Unit) (left : Lit → Bool) (cnt : Nat) (hit : a.eval it = .pointer (some ⟨r, 0, none⟩)) (h : w.ranges Try.prog 9 (plainElem Try.prog 4) b r n D left cnt)
    (hDone : cnt = 0 → (∀ kl, left kl = false) → wpList Try.prog ops Q rest (a.put o.dst (.tuple #[.bool false])) w)
    (hMore : ∀ (x : ByteArray) (c : Nat) (w' : World) (cnt' : Nat), x.size ≤ maxLen → (∀ zd, D.atKey (.string x.data.toList) zd = .lit (.bool (mkB c))) → w'.ranges Try.prog 9 (plainElem Try.prog 4) b r n D (fun z => left z && !z.sameKey (.string x.data.toList)) cnt' → cnt' < cnt →
      w.grownBy w' (some r) → w'.heap.size = w.heap.size → (Instr.entry (.pointer (some ⟨r, 0, none⟩))).run Try.prog w' = .ok (.tuple #[.string x, .bool (mkB c)]) w' → wpList Try.prog ops Q rest (a.put o.dst (.tuple #[.bool true, .string x, .bool (mkB c)])) w') :
    wpList Try.prog ops Q (o :: rest) a w :=
  wpList_next_ranges w hg it hop 9 (Go.Maps.string_keyed Try.underlying9) (plainElem Try.prog 4) Value.string (fun c : Nat => Value.bool (mkB c)) (fun key kl hkey => by obtain ⟨x, rfl, _⟩ := key_inv hkey; exact ⟨x, rfl⟩)
    (fun v y hv => by obtain ⟨c, rfl, _⟩ := bool_inv hv; obtain ⟨q, rfl⟩ := mkB_of c; exact ⟨q, rfl⟩) b r n D left cnt hit h hDone (fun x c kl y w' cnt' hkey hlk hv hat hrg hlt hgr hsz hen => by
      obtain ⟨x', ex, rfl, hx⟩ := key_inv hkey
      cases ex
      obtain ⟨c', ec, rfl⟩ := bool_inv hv
      injection ec with ec
      subst ec
      exact hMore x c w' cnt' hx hat hrg hlt hgr hsz hen)

set_option maxRecDepth 100000 in
set_option maxHeartbeats 1000000 in
theorem With_any (b n : Nat) (D0 : DataW Unit) (x : ByteArray) (t : Bool) (w : World) (hown : w.ownsMap Try.prog 9 (plainElem Try.prog 4) b n D0) (hn : n < 1000000) (hx : x.size ≤ maxLen) :
    Calls Try.prog 58 #[.map (some b), .string x, .bool t] w fun e w' => e = .returned (.map (some w.heap.size)) ∧ w'.ownsMap Try.prog 9 (plainElem Try.prog 4) w.heap.size (n + 1) (D0.put (.string x.data.toList) (.lit (.bool t))) ∧ Below w.heap.size w w' := by
  have hmm := @run_makeMap Try.prog
  have hbl := hown.lt
  have law := Go.Maps.string_keyed Try.underlying9
  have hsz := hown.size_le
  have e1 : (w.alloc (.map #[] 0)).heap.size = w.heap.size + 1 := by simp
  go_enter Try.func58, Try.ntmps58
  go_wp2_with (first
    | (at_range; refine wpList_range_own _ rfl _ 52 rfl 9 4 law Try.underlying52 _ b n _ rfl (hown.alloc _) ?_; intro w0 hrg0 hg0 hs0)
    | go_in)
  go_frame
  rw [e1] at hrg0 hs0 ⊢
  go_loopw [8] (fun _ wr => ∃ (left : Lit → Bool) (cnt : Nat) (Dout : DataW Unit), wr.ranges Try.prog 9 (plainElem Try.prog 4) b (w.heap.size + 1) n D0 left cnt ∧ cnt ≤ Maps.size D0 ∧
      wr.ownsMap Try.prog 9 (plainElem Try.prog 4) w.heap.size (Maps.size D0 - cnt) Dout ∧ Agree Dout D0 left ∧ Below w.heap.size w wr)
    (fun _ wr => wr.rangeLeft b (w.heap.size + 1))
  case atStart =>
    exact ⟨_, _, .map [], hrg0, Nat.le_refl _, ((World.ownsMap_made _ _ _ _).kept hg0 (by simp)).mono (Nat.zero_le _), agree_start D0, ((Below.refl _ _).alloc (Nat.le_refl _) _).grown hg0 (by simp) (fun j hj => by cases hj)⟩
  case round =>
    obtain ⟨left, cnt, Dout, hrg, hcs, hout, hA, hnx⟩ := hrel
    go_wp2_with (first
      | (at_next; refine next_sb rfl _ rfl b (w.heap.size + 1) n _ _ _ rfl hrg ?_ ?_)
      | go_in)
    · intro hc0 hl0
      subst hc0
      have e := agree_end hA hl0 (hout.canon law) (hown.canon law)
      subst e
      go_wp2_with (first
        | (at_mapUpdate; refine wpList_mapUpdate_own _ rfl _ _ _ 52 rfl 9 4 law Try.underlying52 _ w.heap.size n _ rfl (hout.mono (by omega)) (by unfold maxLen; omega) _ _ _ rfl rfl (key_mk hx) _ [] (plainElem_bool Try.underlying4 t) ?_; intro w2 hout2 hg2; go_frame)
        | go_in)
      go_ret
      exact ⟨rfl, hout2, hnx.grown hg2 hnx.size (fun j hj => by cases hj; exact Nat.le_refl _)⟩
    · intro y c w1 cnt1 hyl hat hrg1 hlt hg1 hs1 hen
      have hout1 := hout.kept hg1 (by simp)
      have hkey' := key_mk hyl
      generalize mkB c = bc at hat hen ⊢
      go_wp2_with (first
        | (at_mapUpdate; refine wpList_mapUpdate_own _ rfl _ _ _ 52 rfl 9 4 law Try.underlying52 _ w.heap.size _ _ rfl hout1 (by unfold maxLen; omega) _ _ _ rfl rfl hkey' _ [] (plainElem_bool Try.underlying4 bc) ?_; intro w2 hout2 hg2; go_frame)
        | go_in)
      have hrg2 := hrg1.kept hg2 (fun e => by have := Option.some.inj e; omega) (fun e => by have := Option.some.inj e; omega)
      go_roundw
      case rel =>
        exact ⟨_, cnt1, _, hrg2, by omega, hout2.mono (by omega), agree_step hA hout.isMap trivial hat,
          (hnx.grown hg1 hnx.size (fun j hj => by cases hj; exact Nat.le_succ _)).grown hg2 (by have := hnx.size; omega) (fun j hj => by cases hj; exact Nat.le_refl _)⟩
      case measure => rw [hrg2.left_eq, hrg.left_eq]; exact hlt
/-- A name more. -/
theorem With_en {w : World} {v : Value} {e : En} (h : EnAt w v e) (hn : e.length < 1000000) (x : ByteArray) (hx : x.size ≤ maxLen) (t : Bool) :
    Calls Try.prog 58 #[v, .string x, .bool t] w fun q w' => ∃ v', q = .returned v' ∧ EnAt w' v' ((x.data.toList, t) :: e) ∧ Below w.heap.size w w' := by
  obtain ⟨b, D, rfl, h1, h2⟩ := h
  refine (With_any b e.length D x t w h1 hn hx).mono ?_
  rintro q w' ⟨rfl, h3, h4⟩
  exact ⟨_, rfl, ⟨_, _, rfl, h3, h2.put _ _⟩, h4⟩
end
section
open Go.RowKit Go.Shelf Go.Maps Go.WideMaps
/-- An int. -/
def ScI (n : Int) : Prop := -9223372036854775808 ≤ n ∧ n ≤ 9223372036854775807
/-- What a map of these holds; the last one first. -/
def ScTold (L : List (List UInt8 × Int)) (D : DataW Unit) : Prop := Maps.IsMap D ∧ ∀ s zd, D.atKey (.string s) zd = match L.find? (fun p => p.1 == s) with | some p => .lit (.int .i64 p.2) | none => zd
theorem ScTold.none : ScTold [] (.map []) := ⟨⟨_, rfl⟩, fun _ _ => rfl⟩
theorem ScTold.put {L : List (List UInt8 × Int)} {D : DataW Unit} (h : ScTold L D) (s : List UInt8) (c : Int) : ScTold ((s, c) :: L) (D.put (.string s) (.lit (.int .i64 c))) := by
  refine ⟨h.1.put _ _, fun t zd => ?_⟩
  by_cases e : t = s
  · subst e
    rw [Maps.atKey_put_same h.1 (show WideAt.IsKeyLit (.string t) from trivial)]
    simp
  · have e' : Lit.string t ≠ Lit.string s := fun h => e (by injection h)
    rw [Maps.atKey_put_other e', h.2 t zd]
    have : (s == t) = false := by rw [beq_eq_false_iff_ne]; exact fun h => e h.symm
    simp [List.find?, this]
theorem scLaw : Keyed Try.prog 9 := string_keyed Try.underlying9
theorem scZero (w : World) : (zeroValue 3).run Try.prog w = .ok (.int .i64 0) w := by kernel_rfl
theorem sc_ins {w : World} {B n : Nat} {D : DataW Unit} {L : List (List UInt8 × Int)} {s : ByteArray} {c : Int} {α : Type} (G : Result α → Prop) (f : Unit → World → Result α) (hown : w.ownsMap Try.prog 9 (plainElem Try.prog 3) B n D) (hL : ScTold L D) (hn : n < 1000) (hs : s.size ≤ 1000) (hc : ScI c)
    (h : ∀ (w' : World) (D' : DataW Unit), w'.ownsMap Try.prog 9 (plainElem Try.prog 3) B (n + 1) D' → ScTold ((s.data.toList, c) :: L) D' → w.grownBy w' (some B) → G (f () w')) :
    G (((Instr.mapUpdate 61 (.map (some B)) (.string s) (.int .i64 c)).run Try.prog w).andThen f) := by
  obtain ⟨w', hrun, r1, r2⟩ := hown.update scLaw Try.underlying61 (by unfold maxLen; omega) (keyOf_string_mk Try.underlying9 (s := s) (by unfold maxLen; omega)) (plainElem_int Try.underlying3 (WalkArith.wf_i64 hc))
  rw [hrun]
  exact h w' _ r1 (hL.put _ _) r2
def scLook (L : List (List UInt8 × Int)) (s : List UInt8) : Int := match L.find? (fun p => p.1 == s) with
  | some p => p.2
  | none => 0
set_option maxRecDepth 10000 in
theorem sc_look {w : World} {B n : Nat} {D : DataW Unit} {L : List (List UInt8 × Int)} (s : ByteArray) (hown : w.ownsMap Try.prog 9 (plainElem Try.prog 3) B n D) (hL : ScTold L D) (hs : s.size ≤ maxLen) :
    (Instr.lookup 61 (.map (some B)) (.string s) false).run Try.prog w = .ok (.int .i64 (scLook L s.data.toList)) w := by
  obtain ⟨c, hrun, hat, _⟩ := hown.lookup_int scLaw Try.underlying61 Try.underlying3 (scZero w) (keyOf_string_mk Try.underlying9 (s := s) hs)
  rw [hrun]
  rw [hL.2] at hat
  unfold scLook
  split at hat
  · rename_i p hp
    have h2 : p.2 = c := by simpa using hat
    exact congrArg (fun z => Result.ok (Value.int .i64 z) w) h2.symm
  · have h2 : 0 = c := by simpa using hat
    exact congrArg (fun z => Result.ok (Value.int .i64 z) w) h2.symm
end
end Go.Proofs.Ytkfbhknhjpmomaa
