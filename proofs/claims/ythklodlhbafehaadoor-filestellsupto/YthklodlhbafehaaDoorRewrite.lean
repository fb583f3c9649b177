/- Walk of rewrite: a call returns a file's text with its edits done, or that it would be too long, and leaves all that lay in memory as it was. -/
import Derived.Test.YthklodlhbafehaaDoorMisfit
import Derived.Test.YthklodlhbafehaaDoorBuild
namespace Go.Proofs.YthklodlhbafehaaDoor
open Go.RowKit Go.Shelf

def gain (es : List Ed) : Int := (es.map fun e => (e.text.size : Int) - (e.hi - e.lo)).sum
def sizeAfter (T : ByteArray) (es : List Ed) : Int := T.size + gain es
def total (es : List Ed) : Nat := (es.map fun e => e.text.size).sum

/-- Edits of a text of n bytes, one behind the other. -/
def Chain (n : Nat) (k : Int) : List Ed → Prop
  | [] => k ≤ n
  | e :: r => k ≤ e.lo ∧ e.lo ≤ e.hi ∧ e.hi ≤ n ∧ Chain n e.hi r

def spliceL (T : List UInt8) (k : Nat) : List Ed → List UInt8
  | [] => T.drop k
  | e :: r => (T.take e.lo.toNat).drop k ++ e.text.data.toList ++ spliceL T e.hi.toNat r
/-- What is written ahead of the last piece. -/
def builtL (T : List UInt8) (k : Nat) : List Ed → List UInt8
  | [] => []
  | e :: r => (T.take e.lo.toNat).drop k ++ e.text.data.toList ++ builtL T e.hi.toNat r
def atAfter (k : Int) : List Ed → Int
  | [] => k
  | e :: r => atAfter e.hi r

theorem gain_snoc (es : List Ed) (e : Ed) : gain (es ++ [e]) = gain es + ((e.text.size : Int) - (e.hi - e.lo)) := by simp [gain]
theorem total_snoc (es : List Ed) (e : Ed) : total (es ++ [e]) = total es + e.text.size := by simp [total]
theorem total_append (a b : List Ed) : total (a ++ b) = total a + total b := by simp [total]
theorem total_take (es : List Ed) (k : Nat) : total (es.take k) ≤ total es := by
  rw [← List.take_append_drop k es]
  conv => rhs; rw [total_append]
  simp

theorem Chain.gain_le {n : Nat} : ∀ {k : Int} {es : List Ed}, Chain n k es → gain es ≤ total es ∧ (total es : Int) - ((n : Int) - k) ≤ gain es
  | k, [], h => by simp [gain, total]; exact h
  | k, e :: r, h => by
    obtain ⟨h1, h2, h3, h4⟩ := h
    have ih := Chain.gain_le h4
    simp only [gain, total, List.map_cons, List.sum_cons] at ih ⊢
    push_cast
    omega

theorem Chain.take {n : Nat} : ∀ {k : Int} {es : List Ed}, Chain n k es → (∀ j, Chain n k (es.take j))
  | k, [], h, j => by simpa using h
  | k, _ :: _, h, 0 => by obtain ⟨h1, h2, h3, _⟩ := h; show k ≤ n; omega
  | _, _ :: _, h, j + 1 => ⟨h.1, h.2.1, h.2.2.1, Chain.take h.2.2.2 j⟩

theorem atAfter_snoc (k : Int) : ∀ (es : List Ed) (e : Ed), atAfter k (es ++ [e]) = e.hi
  | [], _ => rfl
  | x :: r, e => atAfter_snoc x.hi r e

/-- At an edit of a chain: behind those ahead of it, and within the text. -/
theorem Chain.at {n : Nat} : ∀ {k : Int} {es : List Ed} {e : Ed} {r : List Ed}, Chain n k (es ++ e :: r) → atAfter k es ≤ e.lo ∧ e.lo ≤ e.hi ∧ e.hi ≤ n ∧ k ≤ atAfter k es
  | k, [], e, r, h => ⟨h.1, h.2.1, h.2.2.1, Int.le_refl _⟩
  | k, x :: es, e, r, h => by
    have ih := Chain.at (es := es) h.2.2.2
    refine ⟨ih.1, ih.2.1, ih.2.2.1, ?_⟩
    have h1 := h.1
    have h2 := h.2.1
    have h3 := ih.2.2.2
    show k ≤ atAfter x.hi es
    omega
theorem Chain.end {n : Nat} : ∀ {k : Int} {es : List Ed}, Chain n k es → k ≤ atAfter k es ∧ atAfter k es ≤ n
  | k, [], h => ⟨Int.le_refl _, h⟩
  | k, x :: es, h => by
    have ih := Chain.end h.2.2.2
    refine ⟨?_, ih.2⟩
    have h1 := h.1
    have h2 := h.2.1
    have h3 := ih.1
    show k ≤ atAfter x.hi es
    omega

theorem at_nat (k : Int) (r : List Ed) : (atAfter (k.toNat : Int) r).toNat = (atAfter k r).toNat := by
  cases r with
  | nil => simp only [atAfter]; omega
  | cons y r => rfl
theorem builtL_snoc (T : List UInt8) : ∀ (k : Nat) (es : List Ed) (e : Ed), builtL T k (es ++ [e]) = builtL T k es ++ ((T.take e.lo.toNat).drop (atAfter k es).toNat ++ e.text.data.toList)
  | k, [], e => by simp [builtL, atAfter]
  | k, x :: r, e => by
    simp only [List.cons_append, builtL]
    rw [builtL_snoc T x.hi.toNat r e, at_nat]
    simp [List.append_assoc, atAfter]
theorem splice_built (T : List UInt8) : ∀ (k : Nat) (es : List Ed), spliceL T k es = builtL T k es ++ T.drop (atAfter k es).toNat
  | k, [] => by simp [spliceL, builtL, atAfter]
  | k, e :: r => by
    simp only [spliceL, builtL, List.append_assoc]
    rw [splice_built T e.hi.toNat r, at_nat]
    rfl

theorem builtL_length (T : ByteArray) {k : Nat} : ∀ {es : List Ed}, Chain T.size k es → ((builtL T.data.toList k es).length : Int) = gain es + (atAfter k es - k) := by
  intro es
  induction es generalizing k with
  | nil => intro _; simp [builtL, gain, atAfter]
  | cons e r ih =>
    intro h
    obtain ⟨h1, h2, h3, h4⟩ := h
    have hl : T.data.toList.length = T.size := by simp
    have e1 : e.hi = (e.hi.toNat : Int) := by omega
    rw [e1] at h4
    have := ih h4
    simp only [builtL, gain, List.map_cons, List.sum_cons, atAfter, List.length_append, List.length_drop, List.length_take, hl] at this ⊢
    rw [← e1] at this
    have ht : e.text.data.toList.length = e.text.size := by simp
    rw [ht]
    push_cast
    have h5 : min (e.lo.toNat) T.size = e.lo.toNat := by omega
    rw [h5]
    omega

theorem IsBuilder.alloc {B b : Nat} {bs : List Value} {w : World} (h : Lib.IsBuilder 74 5 B b bs w) (o : Obj) : Lib.IsBuilder 74 5 B b bs (w.alloc o) := by
  have key : ∀ p, Lib.BuilderAt 74 5 B b p bs w → Lib.BuilderAt 74 5 B b p bs (w.alloc o) := fun p hp => by
    have hlt := hp.lt
    obtain ⟨hB, v, hb, ho, hne⟩ := hp
    exact ⟨hB, v, (Below.heap_alloc w o b hlt).trans hb, ho.alloc o, hne⟩
  exact h.imp (key _) (key _)

theorem take_succ_ed (es : List Ed) (k : Nat) (x : Ed) (h : es[k]? = some x) : es.take (k + 1) = es.take k ++ [x] := by
  have hlt := (List.getElem?_eq_some_iff.1 h).1
  rw [List.take_succ_eq_append_getElem hlt]
  rw [List.getElem?_eq_getElem hlt] at h
  cases h; rfl

/-- A text with its edits done, where it is not too long. -/
def fitsB (T : ByteArray) (es : List Ed) : Bool := decide (sizeAfter T es ≤ 3000)
def doneB (T : ByteArray) (es : List Ed) : ByteArray := if fitsB T es then ⟨(spliceL T.data.toList 0 es).toArray⟩ else ⟨#[]⟩

theorem ret_two {s s' : ByteArray} {b b' : Bool} (h1 : s = s') (h2 : b = b') : Ending.returned (.tuple #[.string s, .bool b]) = .returned (.tuple #[.string s', .bool b']) := by rw [h1, h2]

theorem extract_piece (T : ByteArray) (p q : Nat) : (T.extract p q).data.toList = (T.data.toList.take q).drop p := by
  rw [Lib.extract_data, List.take_drop]
  by_cases h : p ≤ q
  · rw [show p + (q - p) = q by omega]
  · rw [show p + (q - p) = p by omega]
    rw [List.drop_eq_nil_of_le (by simp; omega), List.drop_eq_nil_of_le (by simp; omega)]

set_option maxRecDepth 100000 in
set_option maxHeartbeats 1000000 in
theorem rewrite_any (T : ByteArray) (a : Option Addr) (cap : Nat) (es : List Ed) (w : World) (hE : EAt w a es) (hch : Chain T.size 0 es) (hsum : T.size + total es ≤ 1000000000000000000) (hT : T.size ≤ 1000000) (hn : es.length ≤ maxLen) :
    Calls Tryd.prog 36 #[.string T, .slice a es.length cap] w fun e w' => e = .returned (.tuple #[.string (doneB T es), .bool (fitsB T es)]) ∧ Below w.heap.size w w' := by
  unfold maxLen at hn
  go_enter Tryd.func36, Tryd.ntmps36
  go_wp2
  go_loopw [6, 8, 17] (fun s _ i wr => ∃ k : Nat, k ≤ es.length ∧ i = .int .i64 k ∧ s = .int .i64 (sizeAfter T (es.take k)) ∧ Hid (Below w.heap.size w wr)) (fun _ _ i _ => es.length - (intOf i).toNat)
  case atStart => exact ⟨0, Nat.zero_le _, rfl, by simp [sizeAfter, gain], Below.refl _ _⟩
  case round =>
    obtain ⟨k, hk, rfl, rfl, HB⟩ := hrel
    have hg := (hch.take k).gain_le
    have htk := total_take es k
    by_cases hlt : k < es.length
    · obtain ⟨b, off, rfl, hb, hc⟩ := hE.cells k hlt
      have hgx : es[k]? = some es[k] := List.getElem?_eq_getElem hlt
      obtain ⟨c0, c1, c2, c3⟩ := hc k es[k] hgx
      rw [← HB.out.cell (p := ⟨b, _, none⟩) hb] at c0 c1 c2 c3
      have hat := Chain.at (es := es.take k) (e := es[k]) (r := es.drop (k + 1)) (by rw [← List.drop_eq_getElem_cons hlt, List.take_append_drop]; exact hch)
      have HT := hid (take_succ_ed es k _ hgx)
      have htk1 := total_take es (k + 1)
      rw [HT.out, total_snoc] at htk1
      generalize es[k] = x at c0 c1 c2 c3 hat HT htk1
      obtain ⟨f, lo, hi, tx⟩ := x
      simp only [Ed.file, Ed.lo, Ed.hi, Ed.text] at c0 c1 c2 c3 hat htk1
      have hs0 : 0 ≤ sizeAfter T (es.take k) := by unfold sizeAfter; omega
      have hs1 : sizeAfter T (es.take k) ≤ 1000000000000000000 := by unfold sizeAfter; omega
      have htx : tx.size ≤ 1000000000000000000 := by omega
      have HS : Hid (sizeAfter T (es.take (k + 1)) = sizeAfter T (es.take k) + ((tx.size : Int) - (hi - lo))) := by show _ = _; rw [HT.out]; unfold sizeAfter; rw [gain_snoc]; simp only [Ed.text, Ed.hi, Ed.lo]; omega
      obtain ⟨h1, h2, h3, h4⟩ := hat
      have hlo0 : 0 ≤ lo := by omega
      have hhi : hi ≤ 1000000000000000000 := by omega
      generalize sizeAfter T (es.take k) = S at hs0 hs1 HS ⊢
      have HB1 := hid (HB.out.alloc HB.out.size (.cells #[.int .i64 f, .int .i64 lo, .int .i64 hi, .string tx] 41))
      clear hg htk htk1 hc hgx h1 h4
      go_wp2
      go_roundw
      case rel => exact ⟨k + 1, by omega, by go_num, by rw [HS.out], HB1.out⟩
      case measure => simp [intOf]; omega
    · have he : es.take k = es := List.take_of_length_le (by omega)
      rw [he] at hg ⊢
      clear htk he hk
      by_cases hbig : sizeAfter T es ≤ 3000
      · have hd : decide (3000 < sizeAfter T es) = false := by simp; omega
        have HF : Hid (fitsB T es = true) := by simp [Hid, fitsB, hbig]
        have HR : Hid (doneB T es = ⟨(spliceL T.data.toList 0 es).toArray⟩) := by show _ = _; unfold doneB; rw [HF.out]; rfl
        have htot : total es ≤ 3000 := by have := hch.gain_le; unfold sizeAfter at hbig; omega
        generalize sizeAfter T es = S at hd hbig ⊢
        have hdk : decide (k < es.length) = false := by simpa using hlt
        have HSz := hid hlt
        clear hlt hg
        obtain ⟨w0, rfl⟩ : ∃ w0, w0 = wr := ⟨_, rfl⟩
        go_wp2
        have hBl := Lib.fresh_isBuilder 74 5 w0
        go_loopw [10, 12, 37] (fun p _ i wr => ∃ k : Nat, k ≤ es.length ∧ i = .int .i64 k ∧ p = .int .i64 (atAfter 0 (es.take k)) ∧ Hid (Below w0.heap.size w0 wr ∧ Lib.IsBuilder 74 5 w0.heap.size w0.heap.size (Lib.byteCells (builtL T.data.toList 0 (es.take k))) wr)) (fun _ _ i _ => es.length - (intOf i).toNat)
        case atStart => exact ⟨0, Nat.zero_le _, rfl, by simp [atAfter], (Below.refl _ _).alloc (Nat.le_refl _) _, hBl⟩
        case round =>
          clear hBl HSz
          obtain ⟨k, hk, rfl, rfl, H⟩ := hrel
          obtain ⟨hB2, hBu⟩ := H.out
          have HB2 := hid hB2
          have HBu := hid hBu
          clear H hB2 hBu
          have hck := hch.take k
          have hend := hck.end
          have hgk := hck.gain_le
          have hbl := builtL_length T (k := 0) hck
          simp only [Int.cast_ofNat_Int] at hbl
          have htk := total_take es k
          have hBw : w.heap.size ≤ w0.heap.size := HB.out.size
          by_cases hlt : k < es.length
          · obtain ⟨b, off, rfl, hb, hc⟩ := hE.cells k hlt
            have hgx : es[k]? = some es[k] := List.getElem?_eq_getElem hlt
            obtain ⟨c0, c1, c2, c3⟩ := hc k es[k] hgx
            have hbw : b < w0.heap.size := by omega
            rw [← HB.out.cell (p := ⟨b, _, none⟩) hb, ← HB2.out.cell (p := ⟨b, _, none⟩) hbw] at c0 c1 c2 c3
            have hat := Chain.at (es := es.take k) (e := es[k]) (r := es.drop (k + 1)) (by rw [← List.drop_eq_getElem_cons hlt, List.take_append_drop]; exact hch)
            have HT := hid (take_succ_ed es k _ hgx)
            have htk1 := total_take es (k + 1)
            rw [HT.out, total_snoc] at htk1
            have HBS := hid (builtL_snoc T.data.toList 0 (es.take k) es[k])
            have HAS := hid (atAfter_snoc 0 (es.take k) es[k])
            generalize es[k] = x at c0 c1 c2 c3 hat HT htk1 HBS HAS
            obtain ⟨f, lo, hi, tx⟩ := x
            simp only [Ed.file, Ed.lo, Ed.hi, Ed.text] at c0 c1 c2 c3 hat htk1 HBS HAS
            obtain ⟨h1, h2, h3, h4⟩ := hat
            obtain ⟨p, hp⟩ : ∃ p : Nat, atAfter 0 (es.take k) = p := ⟨(atAfter 0 (es.take k)).toNat, by omega⟩
            obtain ⟨q, rfl⟩ : ∃ q : Nat, lo = q := ⟨lo.toNat, by omega⟩
            obtain ⟨r, rfl⟩ : ∃ r : Nat, hi = r := ⟨hi.toNat, by omega⟩
            have HBS' : Hid (builtL T.data.toList 0 (es.take (k + 1)) = (builtL T.data.toList 0 (es.take k) ++ (T.extract p q).data.toList) ++ tx.data.toList) := by
              show _ = _
              have := HBS.out
              simp only [Int.cast_ofNat_Int] at this
              rw [HT.out, extract_piece, List.append_assoc]
              rw [hp] at this
              simpa using this
            have HAS' : Hid (atAfter 0 (es.take (k + 1)) = (r : Int)) := by show _ = _; rw [HT.out]; exact HAS.out
            rw [hp] at h1 hbl hend ⊢
            have hpq : p ≤ q := by omega
            have hqr : q ≤ r := by omega
            have hrT : r ≤ T.size := by omega
            have hxs : (T.extract p q).size = q - p := by simp [ByteArray.size_extract]; omega
            have HB1 := hid (HB2.out.alloc HB2.out.size (.cells #[.int .i64 f, .int .i64 q, .int .i64 r, .string tx] 41))
            have hw1 := WriteString_any w0.heap.size w0.heap.size _ (T.extract p q) _ (IsBuilder.alloc HBu.out (.cells #[.int .i64 f, .int .i64 q, .int .i64 r, .string tx] 41)) (by omega) (by have := HB2.out.size; simp; omega)
            clear hc hgx HT HBS HAS hck hend
            have HW1 := hid hw1
            clear hw1
            have hwz : w0.heap.size < wr.heap.size := by
              rcases HBu.out with h | h
              · exact h.lt
              · exact h.lt
            go_wp2_with fail
            refine HW1.out.mono ?_
            rintro e W1 ⟨⟨v, rfl⟩, hI1, hb1, hk1⟩
            have hx1 := hk1 wr.heap.size _ _ _ (World.alloc_heap_new wr _) (by decide) (by omega)
            have d2 : W1.cell? ⟨wr.heap.size, 2, none⟩ = some (.int .i64 r) := by rw [Go.Joins.cell_of_block hx1]; rfl
            have d3 : W1.cell? ⟨wr.heap.size, 3, none⟩ = some (.string tx) := by rw [Go.Joins.cell_of_block hx1]; rfl
            have hpl : (T.extract p q).data.toList.length = q - p := by rw [Array.length_toList]; exact hxs
            have hz1 : w0.heap.size ≤ W1.heap.size := by have h1 := hb1.size; have h2 := HB2.out.size; simp at h1; omega
            have hw2 := WriteString_any w0.heap.size w0.heap.size _ tx W1 hI1 (by rw [List.length_append]; omega) hz1
            have HX1 := hid hx1
            have HC1 := hid (HB1.out.trans hb1)
            have HW2 := hid hw2
            clear hw2 hx1 hk1 hI1 HW1 c0 c1 c2 c3
            go_wp2_with fail
            refine HW2.out.mono ?_
            rintro e W2 ⟨⟨v, rfl⟩, hI2, hb2, hk2⟩
            have hx2 := hk2 wr.heap.size _ _ _ HX1.out (by decide) (by omega)
            have g2 : W2.cell? ⟨wr.heap.size, 2, none⟩ = some (.int .i64 r) := by rw [Go.Joins.cell_of_block hx2]; rfl
            have HI2 := hid hI2
            have HC2 := hid (HC1.out.trans hb2)
            clear hI2 hb2 hk2 hx2 HX1 HW2 hb1 d2 d3
            go_wp2
            go_roundw
            case rel => exact ⟨k + 1, by omega, by go_num, by rw [HAS'.out], HC2.out, by rw [HBS'.out]; exact HI2.out⟩
            case measure => simp [intOf]; omega
          · have he : es.take k = es := List.take_of_length_le (by omega)
            rw [he] at hbl hend hgk HBu ⊢
            obtain ⟨p, hp⟩ : ∃ p : Nat, atAfter 0 es = p := ⟨(atAfter 0 es).toNat, by omega⟩
            rw [hp] at hbl hend ⊢
            have HSp : Hid (spliceL T.data.toList 0 es = builtL T.data.toList 0 es ++ (T.extract p T.size).data.toList) := by
              show _ = _
              have := splice_built T.data.toList 0 es
              simp only [Int.cast_ofNat_Int] at this
              rw [this, hp, Lib.extract_to_end]; simp
            have hpT : p ≤ T.size := by omega
            have hxs : (T.extract p T.size).size = T.size - p := by simp [ByteArray.size_extract]
            have hpl : (T.extract p T.size).data.toList.length = T.size - p := by rw [Array.length_toList]; exact hxs
            have hw1 := WriteString_any w0.heap.size w0.heap.size _ (T.extract p T.size) _ HBu.out (by omega) HB2.out.size
            have hst := fun W hI hz => Tryd.Builder_String_any w0.heap.size w0.heap.size (builtL T.data.toList 0 es ++ (T.extract p T.size).data.toList) W hI hz
            rw [← HSp.out] at hw1 hst
            have HW1 := hid hw1
            have HST := hid hst
            clear hw1 hst hck hend hgk hbl htk he hxs hpl HSp
            go_wp2_with fail
            refine HW1.out.mono ?_
            rintro e W1 ⟨⟨v, rfl⟩, hI1, hb1, _⟩
            have hz1 : w0.heap.size ≤ W1.heap.size := by have h1 := hb1.size; have h2 := HB2.out.size; omega
            have HS1 := hid (HST.out W1 hI1 hz1)
            have HC1 := hid (HB2.out.trans hb1)
            clear hI1 hb1 HST HW1
            go_wp2_with fail
            refine HS1.out.mono ?_
            rintro e W2 ⟨rfl, hb2⟩
            go_wp2_with fail
            go_ret2
            exact ⟨ret_two HR.out.symm HF.out.symm, HB.out.trans ((HC1.out.trans hb2).mono hBw)⟩
      · have hd : 3000 < sizeAfter T es := by omega
        have HF : Hid (fitsB T es = false) := by simp [Hid, fitsB]; omega
        have HR : Hid (doneB T es = ⟨#[]⟩) := by show _ = _; unfold doneB; rw [HF.out]; rfl
        clear hg hbig
        generalize sizeAfter T es = S at hd ⊢
        go_wp2
        go_ret2
        exact ⟨ret_two HR.out.symm HF.out.symm, HB.out⟩

end Go.Proofs.YthklodlhbafehaaDoor
