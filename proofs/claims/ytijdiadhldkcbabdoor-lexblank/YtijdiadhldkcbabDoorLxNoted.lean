/- Walk of LexBlank. -/
import Derived.Test.YtijdiadhldkcbabDoorLxAlive
import Derived.Test.YtijdiadhldkcbabDoorLxNoteB
import Derived.Test.YtijdiadhldkcbabDoorLxStand
import Derived.Deep.RegionHeld3
namespace Go.Proofs.YtijdiadhldkcbabDoor
open Go.RowKit Go.Shelf

/-- What of a token is compared. -/
def viewT (t : Tk) : Int × List UInt8 × Bool := (t.kind, t.text.data.toList, t.first)
theorem view_tks (file : Int) (l : List UInt8) (h : bytesAt l (kept l) = l) (ps : List Pc) : (tksOf file l ps).map viewT = ps.map (viewPc l) := by
  unfold tksOf
  rw [List.map_map]
  refine List.map_congr_left (fun p _ => ?_)
  simp [viewT, viewPc, tkOf, h]

/-- A text's tokens, and those of the text with notes. -/
theorem toks_noted (file : Int) (l : List UInt8) (hl : plainL l) (hn : (withN l).length ≤ 3000) (h0 : (toksF file l).2.1 = 0) :
    (toksF file (withN l)).2.1 = 0 ∧ (toksF file l).1.map viewT = (toksF file (withN l)).1.map viewT := by
  have b1 := bytes_plain l (fun c hc => ⟨(hl c hc).1, (hl c hc).2.2.2⟩)
  have b2 := bytes_plain (withN l) (withN_plain l hl)
  have hln : l.length ≤ (withN l).length := by have := plN_le l 0; unfold withN; have := noted_len l; simp; omega
  unfold toksF at h0 ⊢
  rw [if_neg (by omega)] at h0 ⊢
  rw [if_neg (by omega)]
  rw [b1] at h0 ⊢
  rw [b2]
  cases hp : pcs l with
  | inl k => rw [hp] at h0; simp at h0
  | inr ps =>
    obtain ⟨A', h1, h2⟩ := pcsF_noted l hl (l.length + 1) ((withN l).length + 1) 0 [] [] ps (by omega) (by omega) (Nat.zero_le _) rfl hp
    have h1 : pcs (withN l) = .inr A' := h1
    rw [h1]
    exact ⟨rfl, by rw [view_tks file l b1, view_tks file (withN l) b2, h2]⟩

def notedB (l : List UInt8) : ByteArray := ⟨(noted l).toArray⟩
theorem notedB_size (l : List UInt8) : (notedB l).size = (noted l).length := by show (noted l).toArray.size = _; simp
theorem noted_most : ∀ (s : List UInt8), (noted s).length ≤ 11 * s.length
  | [] => Nat.le_refl _
  | c :: r => by
    have := noted_most r
    unfold noted
    split <;> simp [noteB] <;> omega
theorem noted_snoc (s : ByteArray) (k : Nat) (hk : k < s.size) : s.data.toList.take (k + 1) = s.data.toList.take k ++ [s[k]] := by
  rw [List.take_add_one, List.getElem?_eq_getElem (by rw [size_data]; exact hk)]; rfl
theorem cat_byte (s : ByteArray) (k : Nat) (hk : k < s.size) (h : ¬ (s[k].toNat : Int) = 10) : notedB (s.data.toList.take k) ++ s.extract k (k + 1) = notedB (s.data.toList.take (k + 1)) := by
  have hne : s[k] ≠ 10 := fun e => h (by rw [e]; rfl)
  apply ByteArray.ext
  apply Array.ext'
  rw [ByteArray.data_append, Array.toList_append, extract_data]
  show (noted _).toArray.toList ++ _ = (noted _).toArray.toList
  rw [noted_snoc s k hk, noted_append, List.drop_append_of_le_length (by rw [List.length_take, size_data]; omega), List.drop_of_length_le (by rw [List.length_take]; omega)]
  simp [noted, hne]
theorem cat_feed (s : ByteArray) (k : Nat) (hk : k < s.size) (h : (s[k].toNat : Int) = 10) : (notedB (s.data.toList.take k) ++ s.extract k (k + 1)) ++ ⟨noteB.toArray⟩ = notedB (s.data.toList.take (k + 1)) := by
  have he : s[k] = 10 := by rw [← UInt8.toNat_inj]; have : (10 : UInt8).toNat = 10 := rfl; omega
  apply ByteArray.ext
  apply Array.ext'
  rw [ByteArray.data_append, Array.toList_append, ByteArray.data_append, Array.toList_append, extract_data]
  show (noted _).toArray.toList ++ _ ++ noteB.toArray.toList = (noted _).toArray.toList
  rw [noted_snoc s k hk, noted_append, List.drop_append_of_le_length (by rw [List.length_take, size_data]; omega), List.drop_of_length_le (by rw [List.length_take]; omega)]
  simp [noted, he]

theorem box3_facts {wr : World} {B : Nat} {x y z : Value} {T : TypeId} (h : wr.heap[B]? = some (.cells #[x, y, z] T)) :
    wr.cell? ⟨B, 0, none⟩ = some x ∧ wr.cell? ⟨B, 1, none⟩ = some y ∧ wr.cell? ⟨B, 2, none⟩ = some z ∧ wr.frozen? ⟨B, 0, none⟩ = false ∧ wr.frozen? ⟨B, 1, none⟩ = false ∧ wr.frozen? ⟨B, 2, none⟩ = false := by
  simp [World.cell?, World.frozen?, h]
theorem TAt.store3 {w : World} {a : Option Addr} {ts : List Tk} {B : Nat} {x y z : Value} {T : TypeId} (h : TAt w a ts) (hB : w.heap[B]? = some (.cells #[x, y, z] T)) (p q r : Value) :
    TAt (((w.setCell ⟨B, 0, none⟩ p).setCell ⟨B, 1, none⟩ q).setCell ⟨B, 2, none⟩ r) a ts := by
  rcases h with rfl | ⟨b, off, rfl, hb, hc⟩
  · exact .inl rfl
  · cases ts with
    | nil => exact .inl rfl
    | cons t0 tr =>
      have hne : b ≠ B := fun e => by
        have h0 := hc 0 t0 rfl 10 _ rfl
        rw [e, Go.Joins.cell_of_block hB] at h0
        simp at h0
      have hh : (((w.setCell ⟨B, 0, none⟩ p).setCell ⟨B, 1, none⟩ q).setCell ⟨B, 2, none⟩ r).heap[b]? = w.heap[b]? := by
        rw [Below.heap_setCell _ _ _ _ hne, Below.heap_setCell _ _ _ _ hne, Below.heap_setCell _ _ _ _ hne]
      refine .inr ⟨b, off, rfl, ?_, fun j x hx i v hv => ?_⟩
      · have : w.heap[b]? = some w.heap[b] := Array.getElem?_eq_getElem hb
        rw [← hh] at this
        exact (Array.getElem?_eq_some_iff.1 this).1
      · have := hc j x hx i v hv
        simp only [World.cell?, hh] at this ⊢
        exact this

set_option maxRecDepth 100000 in
set_option maxHeartbeats 2000000 in
theorem Blank_walk (s : ByteArray) (w : World) (hE : Env w) :
    Calls Tryd.prog 6 #[.string s] w fun e w' => e = .returned (.bool true) ∧ Below w.heap.size w w' := by
  have HT := hid (fun t W (h : Below w.heap.size w W) => Tokens_any 0 t W (hE.below h))
  unfold TokPost faultV at HT
  go_enter Tryd.func6, Tryd.ntmps6
  go_wp2_with (go_at_call 24; refine (alive_any w hE).mono ?_; rintro e w1 ⟨rfl, hb1⟩)
  refine (HT.out s _ hb1).mono ?_
  rintro e w2 ⟨a, c, rfl, hT, hb2, hcap⟩
  have HB2 := hid (hb1.trans (hb2.mono hb1.size))
  by_cases hf : (toksF 0 s.data.toList).2.1 = 0
  · have hs : s.size ≤ 3000 := by
      rcases Nat.lt_or_ge 3000 s.size with h | h
      · unfold toksF at hf; rw [if_pos (by rw [size_data]; exact h)] at hf; simp at hf
      · exact h
    have HF := hid hf
    generalize hts : (toksF 0 s.data.toList).1 = ts at hT hcap ⊢
    generalize (toksF 0 s.data.toList).2 = F at hf ⊢
    obtain ⟨f0, f1, f2⟩ := F
    dsimp only at hf ⊢
    subst hf
    have HTS := hid hts
    have hl : ts.length ≤ 3000 := by
      have h := stands_len _ (toksF 0 s.data.toList).1 0 (toks_stand 0 s.data.toList)
      rw [hts, size_data] at h
      omega
    have HT2 := hid hT
    clear hE hb1 hb2 hT hcap hts
    go_wp2_with fail
    generalize hw3 : w2.alloc (.cells #[.int .i64 0, .int .i64 f1, .int .i64 f2] 25) = w3
    have HB3 : Hid (Below w.heap.size w w3) := by
      show Below _ _ _
      rw [← hw3]
      exact HB2.out.trans (((Below.refl _ w2).alloc (Nat.le_refl _) _).mono HB2.out.size)
    have HT3 : Hid (TAt w3 a ts) := by
      show TAt _ _ _
      rw [← hw3]
      exact HT2.out.below ((Below.refl _ w2).alloc (Nat.le_refl _) _)
    have HF3 : Hid (w3.heap[w2.heap.size]? = some (.cells #[.int .i64 0, .int .i64 f1, .int .i64 f2] 25) ∧ Below w2.heap.size w2 w3) := by
      show _ ∧ _
      rw [← hw3]
      exact ⟨heap_alloc_new w2 _, (Below.refl _ w2).alloc (Nat.le_refl _) _⟩
    clear hw3
    go_loop [5, 21] (fun t x => ∃ k : Nat, k ≤ s.size ∧ t = .string (notedB (s.data.toList.take k)) ∧ x = .int .i64 k ∧ Hid (plainL (s.data.toList.take k))) (fun _ x => s.size - (intOf x).toNat)
    case atStart => exact ⟨0, Nat.zero_le _, rfl, rfl, fun c hc => by simp at hc⟩
    case round =>
      obtain ⟨k, hk, rfl, rfl, HP⟩ := hrel
      by_cases hlt : k < s.size
      · have hsz : (notedB (s.data.toList.take k)).size ≤ 33000 := by
          rw [notedB_size]
          have := noted_most (s.data.toList.take k)
          rw [List.length_take, size_data] at this
          omega
        by_cases h92 : (s[k].toNat : Int) = 92
        · go_wp2
          go_ret
          exact ⟨rfl, HB3.out⟩
        by_cases h47 : (s[k].toNat : Int) = 47
        · go_wp2
          go_ret
          exact ⟨rfl, HB3.out⟩
        by_cases h42 : (s[k].toNat : Int) = 42
        · go_wp2
          go_ret
          exact ⟨rfl, HB3.out⟩
        by_cases h13 : (s[k].toNat : Int) = 13
        · go_wp2
          go_ret
          exact ⟨rfl, HB3.out⟩
        have HP2 : Hid (plainL (s.data.toList.take (k + 1))) := fun c hc => by
          rw [noted_snoc s k hlt] at hc
          rcases List.mem_append.1 hc with h | h
          · exact HP.out c h
          · have : c = s[k] := by simpa using h
            subst this
            simp only [Ne, u8i]
            exact ⟨h92, h47, h42, h13⟩
        have n1 : ((s[k].toNat : Int) == 92) = false := by simpa using h92
        have n2 : ((s[k].toNat : Int) == 47) = false := by simpa using h47
        have n3 : ((s[k].toNat : Int) == 42) = false := by simpa using h42
        have n4 : ((s[k].toNat : Int) == 13) = false := by simpa using h13
        have hes : (s.extract k (k + 1)).size = 1 := by rw [ByteArray.size_extract]; omega
        have hcat : ∀ W : World, (Op.stringOp .add (notedB (s.data.toList.take k)) (s.extract k (k + 1))).run Tryd.prog W = .ok (.string (notedB (s.data.toList.take k) ++ s.extract k (k + 1))) W := fun W => by
          rw [run_string_add_sum W _ _ (by omega)]
        clear HP h92 h47 h42 h13
        by_cases h10 : (s[k].toNat : Int) = 10
        · have hcat2 : ∀ W : World, (Op.stringOp .add (notedB (s.data.toList.take k) ++ s.extract k (k + 1)) ⟨#[32, 32, 47, 42, 32, 120, 32, 42, 47, 9]⟩).run Tryd.prog W = .ok (.string (notedB (s.data.toList.take (k + 1)))) W := fun W => by
            rw [run_string_add_sum W _ _ (by rw [ByteArray.size_append]; show _ + _ + 10 ≤ _; omega), ← cat_feed s k hlt h10]; rfl
          go_wp2_with fail
          exact ⟨⟨k + 1, by omega, rfl, by go_num, HP2.out⟩, by simp [intOf]; omega⟩
        · have HC := hid (cat_byte s k hlt h10)
          have n5 : ((s[k].toNat : Int) == 10) = false := by simpa using h10
          go_wp2_with fail
          exact ⟨⟨k + 1, by omega, by rw [HC.out], by go_num, HP2.out⟩, by simp [intOf]; omega⟩
      · obtain rfl : k = s.size := by omega
        have hfull : s.data.toList.take s.size = s.data.toList := by rw [← size_data, List.take_length]
        rw [hfull] at HP ⊢
        have hTs : (notedB s.data.toList).size = (noted s.data.toList).length := notedB_size _
        have hmost := noted_most s.data.toList
        rw [size_data] at hmost
        have hTl : ((notedB s.data.toList) ++ ⟨#[47, 47, 32, 121]⟩ : ByteArray).data.toList = withN s.data.toList := by
          rw [ByteArray.data_append, Array.toList_append]; rfl
        have HTl := hid hTl
        have hcat : ∀ W : World, (Op.stringOp .add (notedB s.data.toList) ⟨#[47, 47, 32, 121]⟩).run Tryd.prog W = .ok (.string (notedB s.data.toList ++ ⟨#[47, 47, 32, 121]⟩)) W := fun W => by
          rw [run_string_add_sum W _ _ (by show _ + 4 ≤ _; omega)]
        have hwl : (withN s.data.toList).length = (noted s.data.toList).length + 4 := by simp [withN, lastB]
        clear hTl hfull hlt hk
        have HW := hid (HT.out (notedB s.data.toList ++ ⟨#[47, 47, 32, 121]⟩) w3 HB3.out)
        rw [HTl.out] at HW
        generalize notedB s.data.toList ++ ⟨#[47, 47, 32, 121]⟩ = T2 at hcat HW
        by_cases hm : (withN s.data.toList).length ≤ 3000
        · obtain ⟨g0, g1⟩ := toks_noted 0 s.data.toList HP.out hm HF.out
          rw [HTS.out] at g1
          have HG := hid g1
          have hle : ts.length = (toksF 0 (withN s.data.toList)).1.length := by have := congrArg List.length g1; simpa using this
          have hlt3 : ¬ (3000 < (notedB s.data.toList).size) := by omega
          generalize (toksF 0 (withN s.data.toList)).1 = us at HW HG hle
          generalize (toksF 0 (withN s.data.toList)).2 = G at HW g0
          obtain ⟨q0, q1, q2⟩ := G
          dsimp only at g0 HW
          subst g0
          generalize notedB s.data.toList = T at hTs hcat hlt3 ⊢
          clear HTl HP HF HTS HT g1 hmost hwl hm
          go_wp2_with fail
          refine HW.out.mono ?_
          rintro e w4 ⟨a4, c4, rfl, hT4, hb4, hcap4⟩
          have HB4 := hid (HB3.out.trans (hb4.mono HB3.out.size))
          have hB4 := (hb4.block w2.heap.size (Array.getElem?_eq_some_iff.1 HF3.out.1).1).trans HF3.out.1
          have hTa := fun p q r => TAt.store3 (HT3.out.below hb4) hB4 p q r
          have hTb := fun p q r => TAt.store3 hT4 hB4 p q r
          have HTa := hid hTa
          have HTb := hid hTb
          have HB5 : Hid (∀ p q r, Below w.heap.size w (((w4.setCell ⟨w2.heap.size, 0, none⟩ p).setCell ⟨w2.heap.size, 1, none⟩ q).setCell ⟨w2.heap.size, 2, none⟩ r)) := fun p q r =>
            ((HB4.out.setCell (p := ⟨w2.heap.size, 0, none⟩) HB2.out.size p).setCell (p := ⟨w2.heap.size, 1, none⟩) HB2.out.size q).setCell (p := ⟨w2.heap.size, 2, none⟩) HB2.out.size r
          obtain ⟨b0, b1, b2, z0, z1, z2⟩ := box3_facts hB4
          rw [← hle]
          have HLe := hid hle
          clear HW hcap4 hT4 hb4 HT3 HB3 hTa hTb hB4 HF3 HT2 HB2 HB4 hle
          go_wp2_with fail
          have HTa5 := hid (HTa.out (.int .i64 0) (.int .i64 q1) (.int .i64 q2))
          have HTb5 := hid (HTb.out (.int .i64 0) (.int .i64 q1) (.int .i64 q2))
          have HB6 := hid (HB5.out (.int .i64 0) (.int .i64 q1) (.int .i64 q2))
          clear HTa HTb HB5 b0 b1 b2 z0 z1 z2 hcat hlt3 hTs
          generalize ((w4.setCell ⟨w2.heap.size, 0, none⟩ (.int .i64 0)).setCell ⟨w2.heap.size, 1, none⟩ (.int .i64 q1)).setCell ⟨w2.heap.size, 2, none⟩ (.int .i64 q2) = w5 at HTa5 HTb5 HB6 ⊢
          go_loopw [85] (fun x wr => ∃ k : Nat, k ≤ ts.length ∧ x = .int .i64 k ∧ Hid (Below w5.heap.size w5 wr)) (fun x _ => ts.length - (intOf x).toNat)
          case atStart => exact ⟨0, Nat.zero_le _, rfl, Below.refl _ _⟩
          case round =>
            obtain ⟨k, hk, rfl, HB⟩ := hrel
            by_cases hlt : k < ts.length
            · have hxk : ts[k]? = some ts[k] := List.getElem?_eq_getElem hlt
              have hyk : us[k]? = some (us[k]'(by rw [← HLe.out]; exact hlt)) := List.getElem?_eq_getElem _
              have hv : viewT ts[k] = viewT (us[k]'(by rw [← HLe.out]; exact hlt)) := by
                have := congrArg (·[k]?) HG.out
                simp only [List.getElem?_map, hxk, hyk, Option.map_some, Option.some.injEq] at this
                exact this
              rcases HTa5.out with h | ⟨ba, oa, rfl, hba, hca⟩
              · rw [h] at hlt; simp at hlt
              rcases HTb5.out with h | ⟨bb, ob, rfl, hbb, hcb⟩
              · rw [HLe.out, h] at hlt; simp at hlt
              have hcx : ∀ i v, (encT ts[k])[i]? = some v → wr.cell? ⟨ba, oa + k * 11 + i, none⟩ = some v := fun i v hv => (HB.out.cell (p := ⟨ba, _, none⟩) hba).trans (hca k _ hxk i v hv)
              have hcy : ∀ i v, (encT (us[k]'(by rw [← HLe.out]; exact hlt)))[i]? = some v → wr.cell? ⟨bb, ob + k * 11 + i, none⟩ = some v := fun i v hv => (HB.out.cell (p := ⟨bb, _, none⟩) hbb).trans (hcb k _ hyk i v hv)
              have hba2 : ba < wr.heap.size := Nat.lt_of_lt_of_le hba HB.out.size
              have hbb2 : bb < wr.heap.size := Nat.lt_of_lt_of_le hbb HB.out.size
              generalize ts[k] = t at hcx hv
              generalize (us[k]'(by rw [← HLe.out]; exact hlt)) = y at hcy hv
              obtain ⟨tk, tt, tsp, tfi, tf, tl, th, tn⟩ := t
              obtain ⟨yk, yt, ysp, yfi, yf, yl, yh, yn⟩ := y
              simp only [viewT, Prod.mk.injEq] at hv
              obtain ⟨rfl, hv2, rfl⟩ := hv
              obtain rfl : tt = yt := ByteArray.ext (Array.ext' hv2)
              have c0 := hcx 0 _ rfl
              have c1 := hcx 1 _ rfl
              have c3 := hcx 3 _ rfl
              have d0 := hcy 0 _ rfl
              have d1 := hcy 1 _ rfl
              have d3 := hcy 3 _ rfl
              simp only [Nat.add_zero] at c0 d0
              clear hcx hcy hxk hyk hca hcb HTa5 HTb5 hv2 HG
              have e1 : (tk != tk) = false := by simp
              have e3 : (tfi != tfi) = false := by simp
              have hki : (k : Int) < (ts.length : Int) := by omega
              have hk0 : (0 : Int) ≤ (k : Int) := by omega
              go_wp2_with fail
              go_quiet (fail)
              have HBn := hid (below_drewN HB.out nq)
              go_wp2
              exact ⟨⟨k + 1, by omega, by go_num, HBn.out⟩, by simp [intOf]; omega⟩
            · go_wp2
              go_ret
              exact ⟨rfl, HB6.out.trans (HB.out.mono HB6.out.size)⟩
        · have HW2 : Hid (toksF 0 (withN s.data.toList) = ([], (4, 0, 0))) := by
            show _ = _
            unfold toksF; rw [if_pos (by omega)]
          rw [HW2.out] at HW
          have h43 : (3000 : Int) < ((notedB s.data.toList).size : Int) + 4 := by omega
          dsimp only [List.length_nil] at HW
          generalize notedB s.data.toList = T at hTs hcat h43 ⊢
          clear HTl HP HF HTS HT hwl hm HW2
          by_cases hlt3 : 3000 < T.size
          · go_wp2
            go_ret
            exact ⟨rfl, HB3.out⟩
          · go_wp2_with fail
            refine HW.out.mono ?_
            rintro e w4 ⟨a4, c4, rfl, hT4, hb4, hcap4⟩
            have HB4 := hid (HB3.out.trans (hb4.mono HB3.out.size))
            have hB4 := (hb4.block w2.heap.size (Array.getElem?_eq_some_iff.1 HF3.out.1).1).trans HF3.out.1
            have HB5 : Hid (∀ p q r, Below w.heap.size w (((w4.setCell ⟨w2.heap.size, 0, none⟩ p).setCell ⟨w2.heap.size, 1, none⟩ q).setCell ⟨w2.heap.size, 2, none⟩ r)) := fun p q r =>
              ((HB4.out.setCell (p := ⟨w2.heap.size, 0, none⟩) HB2.out.size p).setCell (p := ⟨w2.heap.size, 1, none⟩) HB2.out.size q).setCell (p := ⟨w2.heap.size, 2, none⟩) HB2.out.size r
            obtain ⟨b0, b1, b2, z0, z1, z2⟩ := box3_facts hB4
            clear HW hcap4 hT4 hb4 HT3 hB4 HF3 HT2 HB2 HB4 HB3
            go_wp2_with fail
            go_ret
            refine ⟨?_, HB5.out _ _ _⟩
            show Ending.returned (.bool (decide _)) = _
            exact ret_bool (by simp; omega)
  · clear hE HT hb1 hb2 hT hcap
    generalize (toksF 0 s.data.toList).1 = ts
    generalize (toksF 0 s.data.toList).2 = F at hf ⊢
    obtain ⟨f0, f1, f2⟩ := F
    dsimp only at hf ⊢
    have hfb : (f0 == 0) = false := by simpa using hf
    go_wp2
    go_ret
    exact ⟨rfl, HB2.out.trans (((Below.refl _ w2).alloc (Nat.le_refl _) _).mono HB2.out.size)⟩
end Go.Proofs.YtijdiadhldkcbabDoor
