/- MacroPaste, its row and its card, without a bound: at any two texts the call returns true, and the texts read as they did: two tokens are one, or none. -/
import Derived.Test.YteklakpfbkcegaaGreatDoorMcPasteW
import Derived.Test.YteklakpfbkcegaaGreatDoorMcF
import Derived.Test.YteklakpfbkcegaaGreatDoorRxTokens
import Derived.Test.YteklakpfbkcegaaGreatDoorLxShelfC
import Derived.Test.YteklakpfbkcegaaGreatDoorCards
import Derived.Test.YteklakpfbkcegaaGreatDoorTie
import Derived.ProofKit
import Derived.OpenShut
import Derived.Lay
import Derived.LaidSub
import Derived.Deep.DeepHandedRow
import Derived.Deep.DeepWitnessRowRef
import Derived.Deep.DeepLaidRun
import Derived.Lib.LaidTab
namespace Go.Proofs.YteklakpfbkcegaaGreatDoor.PasteF
open Go.ChangeShapes Go.WideShapes Go.ChangeAt Go.RowKit
open Go.ChangeMaps (open_string shut_string)

theorem own : ownKnob Tryz.prog.godebug = none := by kernel_rfl
theorem laid_eq : (Rows.macroPasteRow.laid).filter (fun x => x.1 == "strings.asciiSpace") = [("strings.asciiSpace", Lib.tabData .u8 Lib.asciiSpaceTab)] := by kernel_rfl
theorem env_of {W : World} (hsh : W.ShapedOpen Tryz.prog) (hL : laidMet Tryz.prog Rows.macroPasteRow.laid W) : Env W := by
  refine ⟨Tryz.laysM143.s1_3 W hsh, ?_⟩
  have h := hL.filter (fun x => x.1 == "strings.asciiSpace")
  rw [laid_eq] at h
  exact Lib.tabIs_of_head (g := 3) (t := ((Tryz.prog.globals[3]?).map (·.type)).getD 0) (e := 5) (n := 256) (by kernel_rfl) (by kernel_rfl) (by kernel_rfl) (by kernel_rfl) (by kernel_rfl) (by kernel_rfl) h

set_option maxRecDepth 100000 in
theorem contract (H : Type) (enc : TypeId × Value → H) (W : World) (base : Nat) (args : Array Value) (ds gs : List (DataW H)) (before : List MemPlace)
    (hval : ∀ (j : Nat) t v, Tryz.f6.params[j]? = some t → args[j]? = some v → Value.okWide Tryz.prog W .any base t v)
    (hW : DataW.Whole enc Tryz.prog Tryz.f6.params.toList Rows.macroPasteSpec.vars false W args.toList ds gs before) (hk : ∀ n ∈ DataW.weightsEach Tryz.prog (Tryz.f6.params.toList ++ []) (ds ++ gs), n ≤ reachBytes) (hE : Env W) :
    Calls Tryz.prog 6 args W fun e W' => ∃ v, e = .returned v ∧ Rows.macroPasteSpec.post enc Tryz.prog Tryz.f6 false true false false W args v W' := by
  have hW' := hW
  obtain ⟨p, q, hA0, hV, rfl, hfz, hnd⟩ := hW
  have hA : DataW.TrodAll enc Tryz.prog W 0 (fun _ => true) true Tryz.f6.params.toList args.toList ds p := hA0
  rw [Tryz.params6] at hA hval hk
  obtain ⟨v0, vs0, d0, ds0, p0, q0, hargs, rfl, rfl, h0, r0⟩ := trodAll_cons hA
  obtain ⟨v1, vs1, d1, ds1, p1, q1, hargs1, rfl, rfl, h1, r1⟩ := trodAll_cons r0
  obtain ⟨rfl, rfl, rfl⟩ := trodAll_nil r1
  obtain rfl : args = #[v0, v1] := by cases args; simp_all
  obtain ⟨rfl, rfl⟩ := trodVars_none hV
  obtain ⟨s, rfl, rfl, rfl, hmax⟩ := open_string Tryz.underlying9 (hval 0 9 v0 rfl rfl) h0
  obtain ⟨t, rfl, rfl, rfl, hmax1⟩ := open_string Tryz.underlying9 (hval 1 9 v1 rfl rfl) h1
  clear hA0
  simp only [List.append_nil] at hW'
  have hsl : s.data.toList.length = s.size := by simp
  have htl : t.data.toList.length = t.size := by simp
  simp only [List.append_nil, DataW.weightsEach, DataW.weights, hsl, htl] at hk
  have hR : reachBytes ≤ 140737488355328 := by decide
  have hs1 : s.size ≤ reachBytes := hk _ (by simp)
  have hs2 : t.size ≤ reachBytes := hk _ (by simp)
  refine (Paste_walk RTokens_any (mcAlive_any RTokens_any) s t W hE (by omega)).mono fun e W' ⟨he, hn⟩ => ?_
  subst he
  refine ⟨_, rfl, _, _, _, [], [], [], hW', trodAll_cons_mk (shut_bool Tryz.underlying4 _) trodAll_mk0, ?_, rfl, hn.frame _, fun h => by cases h⟩
  exact trodAll_cons_mk (shut_string Tryz.underlying9 hmax) (trodAll_cons_mk (shut_string Tryz.underlying9 hmax1) trodAll_mk0)

def wit : Array Value := #[.string .empty, .string .empty]
theorem laid_met (os : Os) : laidMet Tryz.prog Rows.macroPasteRow.laid (((World.laidAll Tryz.prog os Rows.macroPasteRow.laid).forCall (fun _ _ => 0) ⟨#[], wit, []⟩).memory) :=
  laidMet_laidAll _ (by kernel_rfl) (by kernel_rfl)
theorem reads (os : Os) {H : Type} (enc : TypeId × Value → H) : ∃ places, DataW.whole enc Tryz.prog ((World.laidAll Tryz.prog os Rows.macroPasteRow.laid).forCall (fun _ _ => 0) ⟨#[], wit, []⟩).memory Tryz.f6.params.toList Rows.macroPasteSpec.vars false wit.toList 8 =
    some ([.lit (.string []), .lit (.string [])], [], places) :=
  ⟨[], by kernel_rfl⟩

set_option maxRecDepth 100000 in
theorem lifted (os : Os) (started : os.Started) (H : Type) (enc : TypeId × Value → H) (F : Stop.Interp) :
    ReturnsInHanded {} Tryz.checked os 6 .any ((OpenSpec.ofChange Rows.macroPasteSpec).preRow enc Tryz.prog Tryz.f6 Rows.macroPasteRow.domain false Rows.macroPasteRow.laid) (((OpenSpec.ofChange Rows.macroPasteSpec).at F).post enc Tryz.prog Tryz.f6 false true false false) := by
  obtain ⟨places, hx⟩ := reads os enc
  refine returnsInHanded_of_row (C := Tryz.checked) (s := OpenSpec.ofChange Rows.macroPasteSpec) own started (by kernel_rfl) Tryz.func6
    (witness_row_atRef (enc := enc) (C := Tryz.checked) false (World.laidAll Tryz.prog os Rows.macroPasteRow.laid) wit (World.laidAll_os _ _ _) (by kernel_rfl) (by kernel_rfl) (by kernel_rfl)
      (OpenSpec.preRow_of_cond 8 hx (by kernel_rfl) (fun k hk => by cases hk) (by kernel_rfl) (laid_met os))) ?_
  intro W base args ds gs before hval hW _ _ hwt hL hsh _
  exact contract H enc W base args ds gs before hval hW (fun n hn => by have := List.all_eq_true.1 hwt n hn; simpa using this) (env_of hsh hL)

theorem said : Rows.MacroPasteSaid :=
  OpenClaim.holds_of_cond 6 Tryz.f6 rfl rfl rfl rfl rfl rfl rfl ⟨rfl, rfl, rfl, rfl, rfl⟩ rfl rfl rfl rfl rfl (by kernel_rfl) Tryz.func6 (by kernel_rfl)
    (of_decide_eq_true (by kernel_rfl)) (by unfold Func.isWrapper; first | (rw [if_pos (by decide +kernel)]; kernel_rfl) | (rw [if_neg (by decide +kernel)]; exact ⟨rfl, rfl⟩))
    (fun os started H enc _ F => by rw [OpenClaim.pre_eq_preRow]; exact lifted os started H enc F)

theorem plain (f : FuncId) (fn : Func) (hf : Tryz.pinned.checked.prog.funcNamed "preamble/prelaw5.MacroPaste" = some f) (hfn : Tryz.pinned.checked.prog.funcs[f]? = some fn) :
    false = Tryz.pinned.checked.prog.looks [] ∧ ∀ (j : Nat) t, fn.params[j]? = some t → Tryz.pinned.checked.prog.wantsStandIn t = false := by
  obtain rfl : f = 6 := Option.some.inj ((show Tryz.prog.funcNamed "preamble/prelaw5.MacroPaste" = some 6 by kernel_rfl).symm.trans hf) |>.symm
  obtain rfl : fn = Tryz.f6 := (Option.some.inj (Tryz.func6.symm.trans hfn)).symm
  refine ⟨by kernel_rfl, fun j t ht => ?_⟩
  rw [Tryz.params6] at ht
  have hm : t ∈ #[9, 9] := Array.mem_of_getElem? ht
  simp at hm
  rcases hm with rfl
  exact (show Tryz.prog.wantsStandIn 9 = false by kernel_rfl)

theorem card : Rows.MacroPasteCardSaid :=
  Claim7.holds_tied_plain_at .later [] _ _ _ _ said (fun _ h => by cases h) (by kernel_rfl) (fun _ h => by cases h) macroPaste_row_tie rfl ⟨rfl, rfl⟩ (by kernel_rfl) rfl plain (by kernel_rfl)

end Go.Proofs.YteklakpfbkcegaaGreatDoor.PasteF
namespace Go.Proofs.YteklakpfbkcegaaGreatDoor
/-- The card of MacroPaste. -/
theorem macroPaste_holds : Rows.MacroPasteCardSaid := PasteF.card
end Go.Proofs.YteklakpfbkcegaaGreatDoor
