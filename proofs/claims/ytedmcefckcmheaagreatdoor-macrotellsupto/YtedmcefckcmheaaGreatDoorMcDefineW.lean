/- Walk of the statement that what is defined twice is defined once. -/
import Derived.Test.YtedmcefckcmheaaGreatDoorMcJ
import Derived.Test.YtedmcefckcmheaaGreatDoorMcD
import Derived.Test.YtedmcefckcmheaaGreatDoorMcToks
import Derived.Test.YtedmcefckcmheaaGreatDoorLxSmall
namespace Go.Proofs.YtedmcefckcmheaaGreatDoor
open Go.RowKit Go.Shelf

/-- What a text defines, or what is wrong. -/
def parsedS (l : List UInt8) : Mc × (Int × Int × Int) := parseL (toksF 0 l).1
theorem parse_few (ts : List Tk) (h : ts.length ≤ 1048576) : Few (parseL ts).1 := by
  unfold parseL
  split
  · exact ⟨Nat.zero_le _, Nat.zero_le _⟩
  · split
    · exact ⟨Nat.zero_le _, Nat.zero_le _⟩
    · refine ⟨Nat.le_trans (head_len ts) (by decide), ?_⟩
      show (bodyL ts _ _).length ≤ _
      rw [bodyL_length]
      omega
theorem parsed_few (l : List UInt8) : Few (parsedS l).1 := parse_few _ (Nat.le_trans (toks_small 0 l).1 (by decide))
/-- Parse of a text's tokens. -/
theorem Parse_of (l : List UInt8) (a : Option Addr) (c : Nat) (w : World) (hT : TAt w a (toksF 0 l).1) (hc : (toksF 0 l).1.length ≤ c) :
    Calls Tryz.prog 7 #[.slice a (toksF 0 l).1.length c] w (ParsePost w (parsedS l)) :=
  Parse_any a c (toksF 0 l).1 w hT hc (Nat.le_trans (toks_small 0 l).1 (by decide)) (toks_full 0 l)
/-- A list of definitions in memory. -/
structure LSt (w : World) (a : Option Addr) (vs : List Mv) (ms : List Mc) (W : World) : Prop where
  old : Below w.heap.size w W
  at_ : MsAt W a vs
  is : MsIs W vs ms
  few : ∀ o ∈ ms, Few o
  len : ms.length ≤ 30
theorem LSt.below {w : World} {a : Option Addr} {vs : List Mv} {ms : List Mc} {W W' : World} (h : LSt w a vs ms W) (hb : Below W.heap.size W W') : LSt w a vs ms W' :=
  ⟨h.old.trans (hb.mono h.old.size), h.at_.below hb, h.is.below hb, h.few, h.len⟩
theorem LSt.vlen {w : World} {a : Option Addr} {vs : List Mv} {ms : List Mc} {W : World} (h : LSt w a vs ms W) : vs.length ≤ 30 := by rw [h.is.1]; exact h.len
theorem LSt.def {w : World} {a : Option Addr} {vs : List Mv} {ms : List Mc} {W : World} (h : LSt w a vs ms W) {x : Mv} {m : Mc} (hx : MIs W x m) (hm : Few m) {a' : Option Addr} {W' : World} (hM : MsAt W' a' (defV vs ms x m).1) (hb : Below W.heap.size W W') : LSt w a' (defV vs ms x m).1 (defM ms m).1 W' :=
  ⟨h.old.trans (hb.mono h.old.size), hM, (def_is h.is hx).2.below hb, fun o ho => (def_mem ho).elim (h.few o) (fun e => by rw [e]; exact hm), def_len h.len⟩
theorem LSt.stay {w : World} {a : Option Addr} {vs : List Mv} {ms : List Mc} {W : World} (h : LSt w a vs ms W) (n : List UInt8) {a' : Option Addr} {W' : World} (hM : MsAt W' a' (stay n vs)) (hb : Below W.heap.size W W') : LSt w a' (stay n vs) (stayM n ms) W' :=
  ⟨h.old.trans (hb.mono h.old.size), hM, (stay_is h.is n).below hb, fun o ho => h.few o (List.mem_filter.1 ho).1, Nat.le_trans (List.length_filter_le _ _) h.len⟩
/-- Define, of such a list. -/
theorem Define_of {w : World} {a : Option Addr} {vs : List Mv} {ms : List Mc} {W : World} (h : LSt w a vs ms W) (c : Nat) {x : Mv} {m : Mc} (hx : MIs W x m) (hm : Few m) :
    Calls Tryz.prog 13 #[.slice a vs.length c, aggM x] W (DefPost W (defV vs ms x m)) :=
  Define_any a c vs ms x m W h.at_ h.is hx (Nat.le_trans h.vlen (by decide)) h.few hm

/-- What lies there behind the first Define. -/
structure ESt (w : World) (x y : Mv) (mx my : Mc) (Bx By : Nat) (a : Option Addr) (us : List Mv) (ms : List Mc) (W : World) : Prop where
  l : LSt w a us ms W
  isx : MIs W x mx
  isy : MIs W y my
  bx : W.heap[Bx]? = some (.cells #[.string x.name, .bool x.call, .slice x.pa x.pn x.pc, .bool x.more, .slice x.ba x.bn x.bc] 26)
  by_ : W.heap[By]? = some (.cells #[.string y.name, .bool y.call, .slice y.pa y.pn y.pc, .bool y.more, .slice y.ba y.bn y.bc] 26)
theorem ESt.below {w : World} {x y : Mv} {mx my : Mc} {Bx By : Nat} {a : Option Addr} {us : List Mv} {ms : List Mc} {W W' : World} (h : ESt w x y mx my Bx By a us ms W) (hb : Below W.heap.size W W') : ESt w x y mx my Bx By a us ms W' :=
  ⟨h.l.below hb, h.isx.below hb, h.isy.below hb, (hb.block _ (lt_of_block h.bx)).trans h.bx, (hb.block _ (lt_of_block h.by_)).trans h.by_⟩
set_option maxRecDepth 100000 in
set_option maxHeartbeats 1000000 in
theorem Define_walk (HR : RToks) (HL : McLive) (da : Option Addr) (dc : Nat) (ds : List ByteArray) (a b : ByteArray) (w : World) (hD : StAt w da ds) (hdl : ds.length ≤ 9223372036854775807) (hE : Env w) :
    Calls Tryz.prog 4 #[.slice da ds.length dc, .string a, .string b] w fun e w' => e = .returned (.bool true) ∧ Below w.heap.size w w' := by
  have HV := hid (HL w hE)
  have HTk := hid (fun s W => toks_any HR s W)
  unfold ToksPost at HTk
  have HPa := hid (fun l a c W hT hc => Parse_of l a c W hT hc)
  unfold ParsePost at HPa
  have HDe := hid (fun (w0 : World) a vs ms W (h : LSt w0 a vs ms W) c x m hx hm => Define_of h c (x := x) (m := m) hx hm)
  unfold DefPost at HDe
  unfold aggM at HPa HDe
  have HD := hid hD
  obtain ⟨N, hN⟩ : ∃ N, ds.length = N := ⟨_, rfl⟩
  have HN := hid hN
  rw [hN] at hdl ⊢
  clear hD hE HL HR hN
  go_enter Tryz.func4, Tryz.ntmps4
  go_wp2_with fail
  refine HV.out.mono ?_
  rintro e w1 ⟨rfl, hb1⟩
  have HB1 := hid hb1
  clear hb1 HV
  go_wp2_with fail
  go_loopw [7, 29] (fun lv x wr => ∃ (k : Nat) (la : Option Addr) (lc : Nat) (vs : List Mv) (ms : List Mc), k ≤ N ∧ lv = .slice la vs.length lc ∧ x = .int .i64 k ∧ Hid (LSt w1 la vs ms wr)) (fun _ x _ => N - (intOf x).toNat)
  case atStart => exact ⟨0, none, 0, [], [], Nat.zero_le _, rfl, rfl, ⟨Below.refl _ _, .inl ⟨rfl, rfl⟩, MsIs.nil, (fun o ho => by cases ho), Nat.zero_le _⟩⟩
  case round =>
    obtain ⟨k, la, lc, vs, ms, hk, rfl, rfl, HS⟩ := hrel
    by_cases hlt : k < N
    · obtain ⟨d, hd⟩ : ∃ d, ds[k]? = some d := ⟨_, List.getElem?_eq_getElem (by rw [HN.out]; exact hlt)⟩
      rcases HD.out with h0 | ⟨db, off, rfl, hdb, hdc⟩
      · rw [h0] at hd; cases hd
      have hcell := ((HB1.out.trans (HS.out.old.mono HB1.out.size)).cell (p := ⟨db, off + k, none⟩) hdb).trans (hdc k d hd)
      have HF := hid (parsed_few d.data.toList)
      have HPd := hid (HPa.out d.data.toList)
      have HTd := hid (HTk.out d)
      generalize parsedS d.data.toList = R at HF HPd
      generalize (toksF 0 d.data.toList).1 = ts at HPd HTd
      obtain ⟨m, e0, e1, e2⟩ := R
      dsimp only at HF HPd
      have hki : (k : Int) < (N : Int) := Int.ofNat_lt.2 hlt
      have hk0 : (0 : Int) ≤ (k : Int) := Int.natCast_nonneg _
      have hkp : IntKind.i64.wrap ((k : Int) + 1) = (k : Int) + 1 := by rw [IntKind.wrap_i64]; omega
      have hkw : wrap64 ((k : Int) + 1) = (k : Int) + 1 := by unfold wrap64; omega
      clear hdc hd hdb
      go_wp2_with fail
      refine (HTd.out _).mono ?_
      rintro e w2 ⟨a2, c2, rfl, hT2, hb2, hc2⟩
      have HS2 := hid (HS.out.below hb2)
      have HP2 := hid (HPd.out a2 c2 w2 hT2 hc2)
      clear hcell hT2 hb2 hc2 HPd HTd HS
      go_wp2_with fail
      refine HP2.out.mono ?_
      rintro e w3 ⟨x, rfl, hx3, hb3⟩
      have hbn : Below w3.heap.size w3 ((w3.alloc (.cells #[.string x.name, .bool x.call, .slice x.pa x.pn x.pc, .bool x.more, .slice x.ba x.bn x.bc] 26)).alloc (.cells #[.int .i64 e0, .int .i64 e1, .int .i64 e2] 29)) := ((Below.refl _ w3).alloc (Nat.le_refl _) _).alloc (by simp) _
      have HS4 := hid ((HS2.out.below hb3).below hbn)
      have HX4 := hid (hx3.below hbn)
      clear hbn hx3 hb3 HP2 HS2
      by_cases he : e0 = 0
      · subst he
        have HDx := hid (HDe.out w1 la vs ms _ HS4.out lc x m HX4.out HF.out)
        have HDI := hid (def_is HS4.out.is HX4.out)
        have HDL := hid (fun a' W' h1 h2 => HS4.out.def HX4.out HF.out (a' := a') (W' := W') h1 h2)
        generalize defV vs ms x m = r at HDx HDI HDL
        obtain ⟨us, er⟩ := r
        dsimp only at HDx HDI HDL
        have HER := hid HDI.out.1
        generalize (defM ms m).1 = ms' at HDL
        clear HDI
        by_cases her : er = 0
        · subst her
          go_wp2_with fail
          refine HDx.out.mono ?_
          rintro e w5 ⟨a5, c5, rfl, hM5, hb5⟩
          have HS5 := hid (HDL.out a5 w5 hM5 hb5)
          clear hM5 hb5 HDx HDL HS4 HX4
          go_wp2_with fail
          exact ⟨⟨k + 1, a5, c5, us, ms', hlt, rfl, by go_num, HS5.out⟩, less_j hlt (by go_num)⟩
        · have herb : (er == 0) = false := by simpa using her
          go_wp2_with fail
          refine HDx.out.mono ?_
          rintro e w5 ⟨a5, c5, rfl, hM5, hb5⟩
          have HS5 := hid (HS4.out.below hb5)
          clear hM5 hb5 HDx HDL HS4 HX4
          go_wp2_with fail
          exact ⟨⟨k + 1, la, lc, vs, ms, hlt, rfl, by go_num, HS5.out⟩, less_j hlt (by go_num)⟩
      · have heb : (e0 == 0) = false := by simpa using he
        go_wp2_with fail
        exact ⟨⟨k + 1, la, lc, vs, ms, hlt, rfl, by go_num, HS4.out⟩, less_j hlt (by go_num)⟩
    · obtain rfl : k = N := by omega
      clear hk hlt
      have HFa := hid (parsed_few a.data.toList)
      have HPA := hid (HPa.out a.data.toList)
      have HTA := hid (HTk.out a)
      generalize parsedS a.data.toList = R at HFa HPA
      generalize (toksF 0 a.data.toList).1 = ta at HPA HTA
      obtain ⟨mx, f0, f1, f2⟩ := R
      have HFb := hid (parsed_few b.data.toList)
      have HPB := hid (HPa.out b.data.toList)
      have HTB := hid (HTk.out b)
      generalize parsedS b.data.toList = R at HFb HPB
      generalize (toksF 0 b.data.toList).1 = tb at HPB HTB
      obtain ⟨my, g0, g1, g2⟩ := R
      dsimp only at HFa HPA HFb HPB
      clear HPa HTk HD HN
      go_wp2_with fail
      refine (HTA.out _).mono ?_
      rintro e w2 ⟨a2, c2, rfl, hT2, hb2, hc2⟩
      have HS2 := hid (HS.out.below hb2)
      have HP2 := hid (HPA.out a2 c2 w2 hT2 hc2)
      clear hT2 hb2 hc2 HPA HTA HS
      go_wp2_with fail
      refine HP2.out.mono ?_
      rintro e w3 ⟨x, rfl, hx3, hb3⟩
      have hbn : Below w3.heap.size w3 ((w3.alloc (.cells #[.string x.name, .bool x.call, .slice x.pa x.pn x.pc, .bool x.more, .slice x.ba x.bn x.bc] 26)).alloc (.cells #[.int .i64 f0, .int .i64 f1, .int .i64 f2] 29)) := ((Below.refl _ w3).alloc (Nat.le_refl _) _).alloc (by simp) _
      have HK4 := hid (two_blocks w3 (.cells #[.string x.name, .bool x.call, .slice x.pa x.pn x.pc, .bool x.more, .slice x.ba x.bn x.bc] 26) (.cells #[.int .i64 f0, .int .i64 f1, .int .i64 f2] 29))
      have HS4 := hid ((HS2.out.below hb3).below hbn)
      have HX4 := hid (hx3.below hbn)
      clear hbn hx3 hb3 HP2 HS2
      go_wp2_with fail
      generalize ((w3.alloc (.cells #[.string x.name, .bool x.call, .slice x.pa x.pn x.pc, .bool x.more, .slice x.ba x.bn x.bc] 26)).alloc (.cells #[.int .i64 f0, .int .i64 f1, .int .i64 f2] 29)) = w4 at HK4 HS4 HX4 ⊢
      obtain ⟨Bf, hBf⟩ : ∃ Bf, w3.heap.size + 1 = Bf := ⟨_, rfl⟩
      rw [hBf] at HK4 ⊢
      clear hBf
      generalize w3.heap.size = Bx at HK4 ⊢
      refine (HTB.out _).mono ?_
      rintro e w5 ⟨a5, c5, rfl, hT5, hb5, hc5⟩
      have HS5 := hid (HS4.out.below hb5)
      have HX5 := hid (HX4.out.below hb5)
      have HK5 := hid (And.intro ((hb5.block _ (lt_of_block HK4.out.1)).trans HK4.out.1) ((hb5.block _ (lt_of_block HK4.out.2)).trans HK4.out.2))
      have HP5 := hid (HPB.out a5 c5 w5 hT5 hc5)
      clear hT5 hb5 hc5 HPB HTB HS4 HX4 HK4
      go_wp2_with fail
      refine HP5.out.mono ?_
      rintro e w6 ⟨y, rfl, hy6, hb6⟩
      have HK6 := hid (And.intro ((hb6.block _ (lt_of_block HK5.out.1)).trans HK5.out.1) ((hb6.block _ (lt_of_block HK5.out.2)).trans HK5.out.2))
      have hbn : Below w6.heap.size w6 ((w6.alloc (.cells #[.string y.name, .bool y.call, .slice y.pa y.pn y.pc, .bool y.more, .slice y.ba y.bn y.bc] 26)).alloc (.cells #[.int .i64 g0, .int .i64 g1, .int .i64 g2] 29)) := ((Below.refl _ w6).alloc (Nat.le_refl _) _).alloc (by simp) _
      have HK7 := hid (two_blocks w6 (.cells #[.string y.name, .bool y.call, .slice y.pa y.pn y.pc, .bool y.more, .slice y.ba y.bn y.bc] 26) (.cells #[.int .i64 g0, .int .i64 g1, .int .i64 g2] 29))
      have HS7 := hid ((HS5.out.below hb6).below hbn)
      have HX7 := hid ((HX5.out.below hb6).below hbn)
      have HY7 := hid (hy6.below hbn)
      have HJ7 := hid ((hbn.block _ (lt_of_block HK6.out.1)).trans HK6.out.1)
      obtain ⟨p0, p1, p2, p3, p4⟩ := mac_facts HK6.out.1
      obtain ⟨r0, _⟩ := fault_block HK6.out.2
      have hlx := lt_of_block HK6.out.1
      have hlf := lt_of_block HK6.out.2
      clear hbn hy6 hb6 HP5 HS5 HX5 HK5
      by_cases hf : f0 = 0
      · subst hf
        by_cases hg : g0 = 0
        · subst hg
          have HDx := hid (HDe.out w1 la vs ms _ HS7.out lc x mx HX7.out HFa.out)
          have HDI := hid (def_is HS7.out.is HX7.out)
          have HDL := hid (fun a' W' h1 h2 => HS7.out.def HX7.out HFa.out (a' := a') (W' := W') h1 h2)
          have HLn := hid HS7.out.len
          generalize defV vs ms x mx = r at HDx HDI HDL
          obtain ⟨us, er⟩ := r
          dsimp only at HDx HDI HDL
          have HER := hid HDI.out.1
          have HUL := hid HDI.out.2.1
          clear HDI
          go_wp2_with fail
          generalize ((w6.alloc (.cells #[.string y.name, .bool y.call, .slice y.pa y.pn y.pc, .bool y.more, .slice y.ba y.bn y.bc] 26)).alloc (.cells #[.int .i64 0, .int .i64 g1, .int .i64 g2] 29)) = w7 at HDx HDL HK7 HS7 HX7 HY7 HJ7 ⊢
          generalize w6.heap.size = By at HK7 ⊢
          clear p0 p1 p2 p3 p4 r0 hlx hlf HK6
          refine HDx.out.mono ?_
          rintro e w8 ⟨a8, c8, rfl, hM8, hb8⟩
          have HE8 : Hid (ESt w1 x y mx my Bx By a8 us (defM ms mx).1 w8) := ⟨HDL.out a8 w8 hM8 hb8, HX7.out.below hb8, HY7.out.below hb8, (hb8.block _ (lt_of_block HJ7.out)).trans HJ7.out, (hb8.block _ (lt_of_block HK7.out.1)).trans HK7.out.1⟩
          have HO8 := hid (HB1.out.trans (HE8.out.l.old.mono HB1.out.size))
          clear hM8 hb8 HDx HDL HK7 HS7 HX7 HY7 HJ7
          by_cases her : er = 0
          · subst her
            have HE0 := hid HER.out.symm
            have HTw := hid (def_twice HE0.out)
            have HOt := hid (fun h1 h2 => def_other (y := my) HE0.out h1 h2)
            have HAg := hid (fun h1 => def_again (y := my) HE0.out HLn.out h1)
            generalize (defM ms mx).1 = nm at HE8 HTw HOt HAg HUL
            obtain ⟨x0, x1, x2, x3, x4⟩ := mac_facts HE8.out.bx
            have HDx := hid (HDe.out w1 a8 us nm _ HE8.out.l c8 x mx HE8.out.isx HFa.out)
            have HDI := hid (def_is HE8.out.l.is HE8.out.isx)
            rw [HTw.out] at HDI
            generalize defV us nm x mx = r at HDx HDI
            obtain ⟨ns, en⟩ := r
            obtain ⟨hen, hns⟩ := HDI.out
            dsimp only at hen hns HDx
            subst hen
            have HNs := hid hns
            clear HDI hns
            go_wp2_with fail
            refine HDx.out.mono ?_
            rintro e w9 ⟨a9, c9, rfl, hM9, hb9⟩
            have HE9 := hid (HE8.out.below hb9)
            have HEq := hid (REqualM_same a9 a8 c9 c8 ns us nm w9 hM9 HE9.out.l.at_ (HNs.out.below hb9) HE9.out.l.is (Nat.le_trans HE9.out.l.len (by decide)) HE9.out.l.few)
            clear hM9 hb9 HDx HE8 x0 x1 x2 x3 x4 HNs
            go_wp2_with fail
            refine HEq.out.mono ?_
            rintro e w10 ⟨rfl, hb10⟩
            have HE10 := hid (HE9.out.below hb10)
            clear hb10 HEq HE9
            have HUn := hid (fun W (h : LSt w1 a8 us nm W) => Undef_any a8 c8 us x.name W h.at_ (Nat.le_trans h.vlen (by decide)))
            unfold DelPost at HUn
            obtain ⟨x0, x1, x2, x3, x4⟩ := mac_facts HE10.out.bx
            obtain ⟨y0, y1, y2, y3, y4⟩ := mac_facts HE10.out.by_
            rcases hyx : (y.name.toList == x.name.toList) with _ | _
            · go_wp2_with fail
              refine (HUn.out _ HE10.out.l).mono ?_
              rintro e wu ⟨au, cu, rfl, hMu, hbu⟩
              have HEu := hid (HE10.out.below hbu)
              have HLu := hid (HE10.out.l.stay x.name.toList hMu hbu)
              have HAh := hid (fun h => HAg.out h)
              rw [← HE10.out.isx.name] at HAh
              have HFn := hid (stay_find x.name.toList nm)
              generalize stayM x.name.toList nm = sm at HLu HAh HFn
              generalize stay x.name.toList us = ss at HLu hMu ⊢
              have HFi := hid (Find_any au cu ss x.name wu hMu (Nat.le_trans HLu.out.vlen (by decide)))
              have hneg : findV ss x.name.toList = -1 := by
                rcases findV_M HLu.out.is x.name.toList with ⟨h, _⟩ | ⟨k', _, h⟩
                · exact h
                · rw [HFn.out] at h; cases h
              rw [hneg] at HFi
              clear hneg hMu hbu x0 x1 x2 x3 x4 y0 y1 y2 y3 y4
              obtain ⟨x0, x1, x2, x3, x4⟩ := mac_facts HEu.out.bx
              go_wp2_with fail
              refine HFi.out.mono ?_
              rintro e wf ⟨rfl, hbf⟩
              have HEf := hid (HEu.out.below hbf)
              have HLf := hid (HLu.out.below hbf)
              have HDy := hid (HDe.out w1 au ss sm _ HLf.out cu y my HEf.out.isy HFb.out)
              have hdi := (def_is HLf.out.is HEf.out.isy).1
              generalize defV ss sm y my = r4 at HDy hdi
              obtain ⟨zs, ez⟩ := r4
              dsimp only at hdi HDy
              clear hbf HFi x0 x1 x2 x3 x4
              obtain ⟨y0, y1, y2, y3, y4⟩ := mac_facts HEf.out.by_
              go_wp2_with fail
              refine HDy.out.mono ?_
              rintro e wd ⟨ad, cd, rfl, _, hbd⟩
              have HEd := hid (HEf.out.below hbd)
              clear hbd HDy y0 y1 y2 y3 y4
              obtain ⟨x0, x1, x2, x3, x4⟩ := mac_facts HEd.out.bx
              obtain ⟨y0, y1, y2, y3, y4⟩ := mac_facts HEd.out.by_
              go_wp2_with fail
              go_ret
              exact ⟨rfl, HB1.out.trans (HEd.out.l.old.mono HB1.out.size)⟩
            · have HSm := hid (Same_any x y mx my w10 HE10.out.isx HE10.out.isy HFa.out.1 HFb.out.1 HFa.out.2)
              unfold aggM at HSm
              rcases hsm : sameM mx my with _ | _
              · rw [hsm] at HSm
                have HD3 := hid (def_is HE10.out.l.is HE10.out.isy).1
                rw [HOt.out (by rw [← HE10.out.isy.name, ← HE10.out.isx.name]; simpa using hyx) hsm] at HD3
                go_wp2_with fail
                refine HSm.out.mono ?_
                rintro e w11 ⟨rfl, hb11⟩
                have HE11 := hid (HE10.out.below hb11)
                have HD4 := hid (HDe.out w1 a8 us nm _ HE11.out.l c8 y my HE11.out.isy HFb.out)
                generalize defV us nm y my = r3 at HD3 HD4
                obtain ⟨qs, eq⟩ := r3
                dsimp only at HD3 HD4
                obtain rfl : eq = 7 := HD3.out
                clear hb11 HSm x0 x1 x2 x3 x4 y0 y1 y2 y3 y4
                obtain ⟨y0, y1, y2, y3, y4⟩ := mac_facts HE11.out.by_
                go_wp2_with fail
                refine HD4.out.mono ?_
                rintro e w12 ⟨a12, c12, rfl, _, hb12⟩
                have HE12 := hid (HE11.out.below hb12)
                clear hb12 HD4 HD3 y0 y1 y2 y3 y4
                obtain ⟨x0, x1, x2, x3, x4⟩ := mac_facts HE12.out.bx
                obtain ⟨y0, y1, y2, y3, y4⟩ := mac_facts HE12.out.by_
                go_wp2_with fail
                refine (HUn.out _ HE12.out.l).mono ?_
                rintro e wu ⟨au, cu, rfl, hMu, hbu⟩
                have HEu := hid (HE12.out.below hbu)
                have HLu := hid (HE12.out.l.stay x.name.toList hMu hbu)
                have HAh := hid (fun h => HAg.out h)
                rw [← HE12.out.isx.name] at HAh
                have HFn := hid (stay_find x.name.toList nm)
                generalize stayM x.name.toList nm = sm at HLu HAh HFn
                generalize stay x.name.toList us = ss at HLu hMu ⊢
                have HFi := hid (Find_any au cu ss x.name wu hMu (Nat.le_trans HLu.out.vlen (by decide)))
                have hneg : findV ss x.name.toList = -1 := by
                  rcases findV_M HLu.out.is x.name.toList with ⟨h, _⟩ | ⟨k', _, h⟩
                  · exact h
                  · rw [HFn.out] at h; cases h
                rw [hneg] at HFi
                clear hneg hMu hbu x0 x1 x2 x3 x4 y0 y1 y2 y3 y4
                obtain ⟨x0, x1, x2, x3, x4⟩ := mac_facts HEu.out.bx
                go_wp2_with fail
                refine HFi.out.mono ?_
                rintro e wf ⟨rfl, hbf⟩
                have HEf := hid (HEu.out.below hbf)
                have HLf := hid (HLu.out.below hbf)
                have HDy := hid (HDe.out w1 au ss sm _ HLf.out cu y my HEf.out.isy HFb.out)
                have hdi := (def_is HLf.out.is HEf.out.isy).1
                generalize defV ss sm y my = r4 at HDy hdi
                obtain ⟨zs, ez⟩ := r4
                dsimp only at hdi HDy
                have hz0 : ez = 0 := hdi.trans (HAh.out (by rw [← HEf.out.isy.name]; simpa using hyx))
                subst hz0
                clear hbf HFi x0 x1 x2 x3 x4
                obtain ⟨y0, y1, y2, y3, y4⟩ := mac_facts HEf.out.by_
                go_wp2_with fail
                refine HDy.out.mono ?_
                rintro e wd ⟨ad, cd, rfl, _, hbd⟩
                have HEd := hid (HEf.out.below hbd)
                clear hbd HDy y0 y1 y2 y3 y4
                obtain ⟨x0, x1, x2, x3, x4⟩ := mac_facts HEd.out.bx
                obtain ⟨y0, y1, y2, y3, y4⟩ := mac_facts HEd.out.by_
                go_wp2_with fail
                go_ret
                exact ⟨rfl, HB1.out.trans (HEd.out.l.old.mono HB1.out.size)⟩
              · rw [hsm] at HSm
                go_wp2_with fail
                refine HSm.out.mono ?_
                rintro e w11 ⟨rfl, hb11⟩
                have HE11 := hid (HE10.out.below hb11)
                clear hb11 HSm x0 x1 x2 x3 x4 y0 y1 y2 y3 y4
                obtain ⟨x0, x1, x2, x3, x4⟩ := mac_facts HE11.out.bx
                obtain ⟨y0, y1, y2, y3, y4⟩ := mac_facts HE11.out.by_
                go_wp2_with fail
                refine (HUn.out _ HE11.out.l).mono ?_
                rintro e wu ⟨au, cu, rfl, hMu, hbu⟩
                have HEu := hid (HE11.out.below hbu)
                have HLu := hid (HE11.out.l.stay x.name.toList hMu hbu)
                have HAh := hid (fun h => HAg.out h)
                rw [← HE11.out.isx.name] at HAh
                have HFn := hid (stay_find x.name.toList nm)
                generalize stayM x.name.toList nm = sm at HLu HAh HFn
                generalize stay x.name.toList us = ss at HLu hMu ⊢
                have HFi := hid (Find_any au cu ss x.name wu hMu (Nat.le_trans HLu.out.vlen (by decide)))
                have hneg : findV ss x.name.toList = -1 := by
                  rcases findV_M HLu.out.is x.name.toList with ⟨h, _⟩ | ⟨k', _, h⟩
                  · exact h
                  · rw [HFn.out] at h; cases h
                rw [hneg] at HFi
                clear hneg hMu hbu x0 x1 x2 x3 x4 y0 y1 y2 y3 y4
                obtain ⟨x0, x1, x2, x3, x4⟩ := mac_facts HEu.out.bx
                go_wp2_with fail
                refine HFi.out.mono ?_
                rintro e wf ⟨rfl, hbf⟩
                have HEf := hid (HEu.out.below hbf)
                have HLf := hid (HLu.out.below hbf)
                have HDy := hid (HDe.out w1 au ss sm _ HLf.out cu y my HEf.out.isy HFb.out)
                have hdi := (def_is HLf.out.is HEf.out.isy).1
                generalize defV ss sm y my = r4 at HDy hdi
                obtain ⟨zs, ez⟩ := r4
                dsimp only at hdi HDy
                have hz0 : ez = 0 := hdi.trans (HAh.out (by rw [← HEf.out.isy.name]; simpa using hyx))
                subst hz0
                clear hbf HFi x0 x1 x2 x3 x4
                obtain ⟨y0, y1, y2, y3, y4⟩ := mac_facts HEf.out.by_
                go_wp2_with fail
                refine HDy.out.mono ?_
                rintro e wd ⟨ad, cd, rfl, _, hbd⟩
                have HEd := hid (HEf.out.below hbd)
                clear hbd HDy y0 y1 y2 y3 y4
                obtain ⟨x0, x1, x2, x3, x4⟩ := mac_facts HEd.out.bx
                obtain ⟨y0, y1, y2, y3, y4⟩ := mac_facts HEd.out.by_
                go_wp2_with fail
                go_ret
                exact ⟨rfl, HB1.out.trans (HEd.out.l.old.mono HB1.out.size)⟩
          · have herb : (er == 0) = false := by simpa using her
            have hne : (defM ms mx).2 ≠ 0 := by rw [← HER.out]; exact her
            have hus : us.length = 0 := by rw [HUL.out, def_none hne]; rfl
            rw [hus]
            have herb2 : (er != 0) = true := by simpa using her
            clear hne
            go_wp2_with fail
            go_ret
            exact ⟨rfl, HO8.out⟩
        · have hgb : (g0 == 0) = false := by simpa using hg
          have HO7 := hid (HB1.out.trans (HS7.out.old.mono HB1.out.size))
          go_wp2_with fail
          go_ret
          exact ⟨rfl, HO7.out⟩
      · have hfb : (f0 == 0) = false := by simpa using hf
        have HO7 := hid (HB1.out.trans (HS7.out.old.mono HB1.out.size))
        go_wp2_with fail
        go_ret
        exact ⟨rfl, HO7.out⟩
end Go.Proofs.YtedmcefckcmheaaGreatDoor
