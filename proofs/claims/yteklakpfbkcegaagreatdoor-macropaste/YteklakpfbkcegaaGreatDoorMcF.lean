/- Closed facts that the statements of definitions ask first. · Walk of the closed fact of the statements of definitions. -/
import Derived.Test.YteklakpfbkcegaaGreatDoorMcD
import Derived.Test.YteklakpfbkcegaaGreatDoorMcA
import Derived.Test.YteklakpfbkcegaaGreatDoorMcToks
import Derived.Test.YteklakpfbkcegaaGreatDoorLxSmall
namespace Go.Proofs.YteklakpfbkcegaaGreatDoor
section
open Go.RowKit Go.Shelf

/-- The texts that are asked first. -/
def aliveF : List UInt8 := [70, 40, 97, 44, 46, 46, 46, 41, 32, 97, 32, 35, 35, 32, 120, 32, 35, 32, 97]
def aliveQ : List UInt8 := [97, 32, 32, 34, 98, 34]
def aliveM : Mc := (parseL (toksF 0 aliveF).1).1
theorem alive_err : (parseL (toksF 0 aliveF).1).2 = (0, -1, 0) := by decide +kernel
theorem alive_name : aliveM.name.data.toList = [70] := by decide +kernel
theorem alive_rest : aliveM.call = true ∧ aliveM.more = true ∧ aliveM.params.length = 2 ∧ aliveM.body.length = 5 := by decide +kernel
theorem alive_quote : quoteL (toksF 0 aliveQ).1 = [34, 97, 32, 92, 34, 98, 92, 34, 34] := by decide +kernel
theorem alive_paste : (pasteT [97, 49]).isSome = true := by decide +kernel
theorem alive_builtin : builtinB [95, 95, 76, 73, 78, 69, 95, 95] = true := by decide +kernel
end
section
open Go.RowKit Go.Shelf

theorem alive_few : Few aliveM := ⟨by rw [alive_rest.2.2.1]; decide, by rw [alive_rest.2.2.2]; decide⟩
theorem alive_def {x : Mv} (hx : x.name = aliveM.name) : defV [] [] x aliveM = ([x], 0) ∧ findV [x] [70] = 0 ∧ stay [70] [x] = [] := by
  have hn : x.name.toList = [70] := by rw [hx, toList_data]; exact alive_name
  refine ⟨rfl, ?_, ?_⟩
  · unfold findV Lib.idxBy
    simp [Lib.idxByFrom, hn]
  · unfold stay
    simp [hn]
/-- What lies there behind Define. -/
structure AliveSt (w : World) (x : Mv) (Bm : Nat) (a : Option Addr) (W : World) : Prop where
  old : Below w.heap.size w W
  is : MIs W x aliveM
  box : W.heap[Bm]? = some (.cells #[.string x.name, .bool x.call, .slice x.pa x.pn x.pc, .bool x.more, .slice x.ba x.bn x.bc] 26)
  flt : W.heap[Bm + 1]? = some (.cells #[.int .i64 0, .int .i64 (-1), .int .i64 0] 29)
  ms : MsAt W a [x]
theorem AliveSt.below {w : World} {x : Mv} {Bm : Nat} {a : Option Addr} {W W' : World} (h : AliveSt w x Bm a W) (hb : Below W.heap.size W W') : AliveSt w x Bm a W' :=
  ⟨h.old.trans (hb.mono h.old.size), h.is.below hb, (hb.block _ (lt_of_block h.box)).trans h.box, (hb.block _ (lt_of_block h.flt)).trans h.flt, h.ms.below hb⟩
set_option maxRecDepth 100000 in
set_option maxHeartbeats 1000000 in
theorem mcAlive_any (HR : RToks) : McLive := by
  intro w hE
  have HT1 : Hid (∀ W, Calls Tryz.prog 8 #[.string ⟨#[70, 40, 97, 44, 46, 46, 46, 41, 32, 97, 32, 35, 35, 32, 120, 32, 35, 32, 97]⟩] W (ToksPost aliveF W)) := fun W => toks_any HR ⟨aliveF.toArray⟩ W
  have HT2 : Hid (∀ W, Calls Tryz.prog 8 #[.string ⟨#[97, 32, 32, 34, 98, 34]⟩] W (ToksPost aliveQ W)) := fun W => toks_any HR ⟨aliveQ.toArray⟩ W
  have HPa := hid (fun a c W hT hc => Parse_any a c (toksF 0 aliveF).1 W hT hc (Nat.le_trans (toks_small 0 aliveF).1 (by decide)) (toks_full 0 aliveF))
  have HPs := hid (fun W (h : Below w.heap.size w W) => Paste_nil 1 ⟨#[97]⟩ false false 0 0 0 0 none 0 0 0 2 ⟨#[49]⟩ false false 0 0 0 0 none 0 0 none 0 0 0 W (hE.below h) (by decide))
  have HQt := hid (fun W (hW : Below w.heap.size w W) a c hT => Quote_any a c (toksF 0 aliveQ).1 0 ⟨#[]⟩ false false 0 0 0 0 none 0 0 none 0 0 0 W (hE.below hW).1 hT (Nat.le_trans (toks_small 0 aliveQ).1 (by decide)) (fun t ht => Nat.le_trans ((toks_small 0 aliveQ).2 t ht) (by decide)))
  have HBu := hid (fun W => Builtin_any ⟨#[95, 95, 76, 73, 78, 69, 95, 95]⟩ W)
  rw [alive_quote] at HQt
  rw [show (⟨#[95, 95, 76, 73, 78, 69, 95, 95]⟩ : ByteArray).toList = [95, 95, 76, 73, 78, 69, 95, 95] by rw [toList_data], alive_builtin] at HBu
  rw [show (⟨#[97]⟩ : ByteArray).data.toList ++ (⟨#[49]⟩ : ByteArray).data.toList = [97, 49] from rfl] at HPs
  rw [show ((⟨#[97]⟩ : ByteArray) ++ ⟨#[49]⟩) = ⟨#[97, 49]⟩ by decide] at HPs
  obtain ⟨pt, hpt⟩ := Option.isSome_iff_exists.1 alive_paste
  rw [hpt] at HPs
  unfold ParsePost at HPa
  rw [alive_err] at HPa
  rw [show (parseL (toksF 0 aliveF).1).1 = aliveM from rfl] at HPa
  unfold ToksPost at HT1 HT2
  generalize (toksF 0 aliveF).1 = T1 at HT1 HPa
  generalize (toksF 0 aliveQ).1 = T2 at HT2 HQt
  have HDe := hid (fun x W (hx : MIs W x aliveM) => Define_any none 0 [] [] x aliveM W (.inl ⟨rfl, rfl⟩) MsIs.nil hx (by decide) (fun o ho => by cases ho) alive_few)
  have HSa := hid (fun x W (hx : MIs W x aliveM) => Same_any x x aliveM aliveM W hx hx alive_few.1 alive_few.1 alive_few.2)
  rw [sameM_self] at HSa
  clear hE HR hpt
  unfold aggM at HPa HDe HSa
  go_enter Tryz.func27, Tryz.ntmps27
  go_wp2_with fail
  refine (HT1.out _).mono ?_
  rintro e w1 ⟨a1, c1, rfl, hT1, hb1, hc1⟩
  have HB1 := hid hb1
  have HP1 := hid (HPa.out a1 c1 w1 hT1 hc1)
  clear hb1 hT1 hc1 HT1 HPa
  go_wp2_with fail
  refine HP1.out.mono ?_
  rintro e w2 ⟨x, rfl, hx2, hb2⟩
  have HB2 := hid (HB1.out.trans (hb2.mono HB1.out.size))
  have HX2 := hid hx2
  clear hb2 hx2 HP1
  dsimp only
  obtain ⟨D1, D2, D3⟩ := alive_def HX2.out.name
  have HD := hid (And.intro D2 D3)
  have HDx := hid (fun W h => HDe.out x W h)
  unfold DefPost at HDx
  rw [D1] at HDx
  have hb3 : Below w2.heap.size w2 ((w2.alloc (.cells #[.string x.name, .bool x.call, .slice x.pa x.pn x.pc, .bool x.more, .slice x.ba x.bn x.bc] 26)).alloc (.cells #[.int .i64 0, .int .i64 (-1), .int .i64 0] 29)) := ((Below.refl _ w2).alloc (Nat.le_refl _) _).alloc (by simp) _
  have HBk := hid (two_blocks w2 (.cells #[.string x.name, .bool x.call, .slice x.pa x.pn x.pc, .bool x.more, .slice x.ba x.bn x.bc] 26) (.cells #[.int .i64 0, .int .i64 (-1), .int .i64 0] 29))
  have HX3 := hid (HX2.out.below hb3)
  have HB3 := hid (HB2.out.trans (hb3.mono HB2.out.size))
  clear D1 D2 D3 hb3 HX2 HB2 HDe
  go_wp2_with fail
  generalize ((w2.alloc (.cells #[.string x.name, .bool x.call, .slice x.pa x.pn x.pc, .bool x.more, .slice x.ba x.bn x.bc] 26)).alloc (.cells #[.int .i64 0, .int .i64 (-1), .int .i64 0] 29)) = w3 at HBk HX3 HB3 ⊢
  generalize w2.heap.size = Bm at HBk ⊢
  refine (HDx.out w3 HX3.out).mono ?_
  rintro e w4 ⟨a4, c4, rfl, hM4, hb4⟩
  have HA4 : Hid (AliveSt w x Bm a4 w4) := ⟨HB3.out.trans (hb4.mono HB3.out.size), HX3.out.below hb4, (hb4.block _ (lt_of_block HBk.out.1)).trans HBk.out.1, (hb4.block _ (lt_of_block HBk.out.2)).trans HBk.out.2, hM4⟩
  clear hM4 hb4 HDx HX3 HB3 HBk
  dsimp only [List.length_cons, List.length_nil]
  go_wp2_with fail
  refine (HPs.out _ HA4.out.old).mono ?_
  rintro e w5 ⟨rfl, hb5⟩
  have HA5 := hid (HA4.out.below hb5)
  clear hb5 HA4 HPs
  dsimp only
  have HN5 := hid ((Below.refl _ w5).alloc (Nat.le_refl _) (.cells #[.int .i64 pt.kind, .string ⟨#[97, 49]⟩, .bool false, .bool false, .int .i64 0, .int .i64 0, .int .i64 0, .int .i64 0, .slice none 0 0, .slice none 0 0, .int .i64 1] 43))
  have HK5 := hid (heap_alloc_new w5 (.cells #[.int .i64 pt.kind, .string ⟨#[97, 49]⟩, .bool false, .bool false, .int .i64 0, .int .i64 0, .int .i64 0, .int .i64 0, .slice none 0 0, .slice none 0 0, .int .i64 1] 43))
  have HA6 := hid (HA5.out.below HN5.out)
  go_wp2_with fail
  generalize w5.alloc (.cells #[.int .i64 pt.kind, .string ⟨#[97, 49]⟩, .bool false, .bool false, .int .i64 0, .int .i64 0, .int .i64 0, .int .i64 0, .slice none 0 0, .slice none 0 0, .int .i64 1] 43) = w6 at HK5 HA6 HN5 ⊢
  generalize w5.heap.size = Bt at HK5 ⊢
  refine (HT2.out _).mono ?_
  rintro e w7 ⟨a7, c7, rfl, hT7, hb7, hc7⟩
  have HA7 := hid (HA6.out.below hb7)
  have HK7 := hid ((hb7.block _ (lt_of_block HK5.out)).trans HK5.out)
  have HT7 := hid hT7
  clear HA6 HK5 HN5 HA5 hT7 hb7 hc7 HT2
  go_wp2_with fail
  refine (HQt.out _ HA7.out.old a7 c7 HT7.out).mono ?_
  rintro e w8 ⟨rfl, hb8⟩
  have HA8 := hid (HA7.out.below hb8)
  have HK8 := hid ((hb8.block _ (lt_of_block HK7.out)).trans HK7.out)
  clear hb8 HA7 HK7 HT7 HQt
  have HN8 := hid ((Below.refl _ w8).alloc (Nat.le_refl _) (.cells #[.int .i64 4, .string ⟨#[34, 97, 32, 92, 34, 98, 92, 34, 34]⟩, .bool false, .bool false, .int .i64 0, .int .i64 0, .int .i64 0, .int .i64 0, .slice none 0 0, .slice none 0 0, .int .i64 2] 43))
  have HQ9 := hid (heap_alloc_new w8 (.cells #[.int .i64 4, .string ⟨#[34, 97, 32, 92, 34, 98, 92, 34, 34]⟩, .bool false, .bool false, .int .i64 0, .int .i64 0, .int .i64 0, .int .i64 0, .slice none 0 0, .slice none 0 0, .int .i64 2] 43))
  have HA9 := hid (HA8.out.below HN8.out)
  have HK9 := hid ((HN8.out.block _ (lt_of_block HK8.out)).trans HK8.out)
  obtain ⟨q0, q1, q2, q3, q4⟩ := mac_facts HA8.out.box
  have hl1 := lt_of_block HA8.out.box
  obtain ⟨Bf, hBf⟩ : ∃ Bf, Bm + 1 = Bf := ⟨_, rfl⟩
  have hfl := HA8.out.flt
  rw [hBf] at hfl ⊢
  obtain ⟨f0, _⟩ := fault_block hfl
  have hl2 := lt_of_block hfl
  obtain ⟨⟨_, k1, _⟩, _⟩ := tok_block HK8.out
  have hl3 := lt_of_block HK8.out
  obtain ⟨xc1, xc2, xc3, xc4⟩ := alive_rest
  have hx1 : x.call = true := HA8.out.is.call.trans xc1
  have hx2 : x.more = true := HA8.out.is.more.trans xc2
  have hx3 : x.pn = 2 := HA8.out.is.pn.trans xc3
  have hx4 : x.bn = 5 := HA8.out.is.bn.trans xc4
  rw [hx1] at q1
  rw [hx2] at q3
  rw [hx3] at q2
  rw [hx4] at q4
  have HHX := hid (And.intro hx1 (And.intro hx2 (And.intro hx3 hx4)))
  have HSx := hid (fun W h => HSa.out x W h)
  rw [hx1, hx2, hx3, hx4] at HSx
  have HFi := hid (fun W (h : MsAt W a4 [x]) => Find_any a4 c4 [x] ⟨#[70]⟩ W h (by simp))
  have HUn := hid (fun W (h : MsAt W a4 [x]) => Undef_any a4 c4 [x] ⟨#[70]⟩ W h (by simp))
  rw [show (⟨#[70]⟩ : ByteArray).toList = [70] by rw [toList_data]] at HFi HUn
  rw [HD.out.1] at HFi
  rw [HD.out.2] at HUn
  unfold DelPost at HUn
  dsimp only [List.length_cons, List.length_nil] at HFi HUn
  clear hx1 hx2 hx3 hx4 xc1 xc2 xc3 xc4 hfl hBf
  go_wp2_with fail
  generalize w8.alloc (.cells #[.int .i64 4, .string ⟨#[34, 97, 32, 92, 34, 98, 92, 34, 34]⟩, .bool false, .bool false, .int .i64 0, .int .i64 0, .int .i64 0, .int .i64 0, .slice none 0 0, .slice none 0 0, .int .i64 2] 43) = w9 at HN8 HQ9 HA9 HK9 ⊢
  clear q0 q1 q2 q3 q4 hl1 f0 hl2 k1 hl3
  refine (HFi.out _ HA9.out.ms).mono ?_
  rintro e w10 ⟨rfl, hb10⟩
  have HA10 := hid (HA9.out.below hb10)
  have HK10 := hid ((hb10.block _ (lt_of_block HK9.out)).trans HK9.out)
  have HQ10 := hid ((hb10.block _ (lt_of_block HQ9.out)).trans HQ9.out)
  clear hb10 HFi
  go_wp2_with fail
  refine (HUn.out _ HA10.out.ms).mono ?_
  rintro e w11 ⟨a11, c11, rfl, _, hb11⟩
  have HA11 := hid (HA10.out.below hb11)
  have HK11 := hid ((hb11.block _ (lt_of_block HK10.out)).trans HK10.out)
  have HQ11 := hid ((hb11.block _ (lt_of_block HQ10.out)).trans HQ10.out)
  obtain ⟨q0, q1, q2, q3, q4⟩ := mac_facts HA11.out.box
  obtain ⟨⟨_, k1, _⟩, _⟩ := tok_block HK11.out
  obtain ⟨⟨_, t1, _⟩, _⟩ := tok_block HQ11.out
  rw [HHX.out.1] at q1
  rw [HHX.out.2.1] at q3
  rw [HHX.out.2.2.1] at q2
  rw [HHX.out.2.2.2] at q4
  clear hb11 HUn
  go_wp2_with fail
  refine (HSx.out _ HA11.out.is).mono ?_
  rintro e w12 ⟨rfl, hb12⟩
  have HA12 := hid (HA11.out.below hb12)
  clear hb12 HSx q0 q1 q2 q3 q4 k1 t1
  go_wp2_with fail
  refine (HBu.out _).mono ?_
  rintro e w13 ⟨rfl, hw13⟩
  subst w13
  go_wp2_with fail
  go_ret
  exact ⟨rfl, HA12.out.old⟩
end
end Go.Proofs.YteklakpfbkcegaaGreatDoor
