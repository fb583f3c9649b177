/- Walk of written: a line's text, with its end. -/
import Derived.Test.YtoedgcpfomgagaaDoorNtBehind
namespace Go.Proofs.YtoedgcpfomgagaaDoor
open Go.RowKit Go.Shelf

theorem endF_snoc (g0 : List Tk) (t : Tk) : endF (g0 ++ [t]) = if isB t 92 then [32, 10] else [10] := by
  unfold endF
  simp [List.getD]

set_option maxRecDepth 100000 in
set_option maxHeartbeats 1000000 in
theorem written_any (a : Option Addr) (c : Nat) (g : List Tk) (hne : g ≠ []) (w : World) (hE : Env w) (hT : TAt w a g) (hl : g.length ≤ 3000) (hz : ∀ t ∈ g, t.text.size ≤ 3000) :
    Calls Tryd.prog 15 #[.slice a g.length c] w fun e w' => e = .returned (.string ⟨(writtenF g).toArray⟩) ∧ Below w.heap.size w w' := by
  have HJ := hid (Join_any a c g w hE hT (by omega) (fun t ht => by have := hz t ht; omega))
  have hjl : (joinL g).length ≤ 3000 * 3001 := Nat.le_trans (joinN_le g 3000 hz g.length (Nat.le_refl _)) (Nat.mul_le_mul (by omega) (Nat.le_refl _))
  have HW : Hid (writtenF g = joinL g ++ endF g) := rfl
  obtain ⟨g0, t, rfl⟩ : ∃ g0 t, g = g0 ++ [t] := ⟨g.dropLast, g.getLast hne, (List.dropLast_concat_getLast hne).symm⟩
  rw [endF_snoc] at HW
  rcases hT with h | ⟨b0, off, rfl, hlt, hc⟩
  · exact absurd h hne
  have c1 := hc g0.length t (by simp) 1 _ rfl
  have hb1 : (t.text.toList == [92]) = isB t 92 := rfl
  have hlen : (g0 ++ [t]).length = g0.length + 1 := by simp
  rw [hlen] at HJ hl ⊢
  generalize isB t 92 = x at HW hb1
  generalize writtenF (g0 ++ [t]) = wr at HW ⊢
  generalize joinL (g0 ++ [t]) = jl at HJ HW hjl
  generalize t.text = tt at c1 hb1
  clear hc hz hne hlen
  have hq : IntKind.i64.wrap ((g0.length : Int) + 1 - 1) = (g0.length : Int) := by rw [IntKind.wrap_i64]; omega
  have hq0 : (0 : Int) ≤ (g0.length : Int) := by omega
  have hq1 : (g0.length : Int) < (g0.length : Int) + 1 := by omega
  have hcat : ∀ (z : ByteArray) (W : World), z.size ≤ 2 → (Op.stringOp .add ⟨jl.toArray⟩ z).run Tryd.prog W = .ok (.string ⟨(jl ++ z.data.toList).toArray⟩) W := fun z W hz => by
    rw [run_string_add_sum W _ _ (by show jl.toArray.size + _ ≤ _; simp; omega)]
    congr 2
    first | done | (apply ByteArray.ext; apply Array.ext'; rw [ByteArray.data_append, Array.toList_append]; simp)
  have HE := hid hE
  clear hE
  go_enter Tryd.func15, Tryd.ntmps15
  cases x with
  | true =>
    have hc2 := fun W => hcat ⟨#[32, 10]⟩ W (by decide)
    clear hcat
    go_wp2_with fail
    refine HJ.out.mono ?_
    rintro e w1 ⟨rfl, hb⟩
    go_wp2_with fail
    go_ret
    exact ⟨by rw [HW.out]; rfl, hb⟩
  | false =>
    have hc2 := fun W => hcat ⟨#[10]⟩ W (by decide)
    clear hcat
    go_wp2_with fail
    refine HJ.out.mono ?_
    rintro e w1 ⟨rfl, hb⟩
    go_wp2_with fail
    go_ret
    exact ⟨by rw [HW.out]; rfl, hb⟩
end Go.Proofs.YtoedgcpfomgagaaDoor
