/- Walk of measure: the first of some shapes that fits. -/
import Derived.Test.YteklakpfbkcegaaGreatDoorLxBlank
import Derived.Test.YteklakpfbkcegaaGreatDoorLater
import Derived.Laws.EntriesVeiled
namespace Go.Proofs.YteklakpfbkcegaaGreatDoor
open Go.RowKit Go.Shelf

/-- A shape: its kind, the function that measures it with what that holds, and what it answers of the text at hand. -/
structure Shape where
  kind : Int
  fn : Nat
  caps : Array Value
  size : Int

def Shape.Fits (e : Shape) (s : ByteArray) (w : World) : Prop :=
  (∀ args W, (callFunc e.fn args).run Tryz.prog W = .ok (.enter e.fn args) W) ∧
  ∀ W, Below w.heap.size w W → Calls Tryz.prog e.fn (#[.string s] ++ e.caps) W fun r w' => r = .returned (.int .i64 e.size) ∧ Below W.heap.size W w'

/-- What a slice of shapes holds. -/
def ShAt (w : World) (b : Nat) (es : List Shape) : Prop :=
  b < w.heap.size ∧ ∀ (j : Nat) e, es[j]? = some e → w.cell? ⟨b, j * 2, none⟩ = some (.int .i64 e.kind) ∧ w.cell? ⟨b, j * 2 + 1, none⟩ = some (.func (.func e.fn) #[] e.caps)

def kindSize (e : Shape) : Int × Int := (e.kind, e.size)

theorem pick_cons (k n : Int) (r : List (Int × Int)) : pick ((k, n) :: r) = if n = -1 then (-1, 0) else if 0 < n then (k, n) else pick r := rfl

theorem ret_pair {a b c d : Int} (h1 : a = c) (h2 : b = d) : Ending.returned (.tuple #[.int .i64 a, .int .i64 b]) = .returned (.tuple #[.int .i64 c, .int .i64 d]) := by rw [h1, h2]

set_option maxRecDepth 100000 in
set_option maxHeartbeats 1000000 in
theorem measure_any (b c i : Nat) (es : List Shape) (s : ByteArray) (w : World) (hS : ShAt w b es) (hl : es.length ≤ 1000) (hi : i ≤ s.size) (hs : s.size ≤ 1048576)
    (hF : ∀ e ∈ es, e.Fits (s.extract i s.size) w ∧ e.size ≤ 1048576) :
    Calls Tryz.prog 85 #[.slice (some ⟨b, 0, none⟩) es.length c, .string s, .int .i64 (i : Int)] w
      fun e w' => e = .returned (.tuple #[.int .i64 (pick (es.map kindSize)).1, .int .i64 ((i : Int) + (pick (es.map kindSize)).2)]) ∧ Below w.heap.size w w' := by
  go_enter Tryz.func85, Tryz.ntmps85
  go_wp2
  go_loopw [13] (fun x wr => ∃ j : Nat, j ≤ es.length ∧ x = .int .i64 j ∧ Hid (Below w.heap.size w wr ∧ pick (es.map kindSize) = pick ((es.drop j).map kindSize))) (fun x _ => es.length - (intOf x).toNat)
  case atStart => exact ⟨0, Nat.zero_le _, rfl, Below.refl _ _, rfl⟩
  case round =>
    obtain ⟨j, hj, rfl, HR⟩ := hrel
    by_cases hlt : j < es.length
    · have hgj : es[j]? = some es[j] := List.getElem?_eq_getElem hlt
      obtain ⟨c0, c1⟩ := hS.2 j es[j] hgj
      rw [← HR.out.1.cell (p := ⟨b, _, none⟩) hS.1] at c0 c1
      obtain ⟨⟨eg, hcall⟩, hsz⟩ := hF es[j] (List.getElem_mem hlt)
      have HP : Hid (pick (es.map kindSize) = if es[j].size = -1 then (-1, 0) else if 0 < es[j].size then (es[j].kind, es[j].size) else pick ((es.drop (j + 1)).map kindSize)) := by
        show _ = _
        rw [HR.out.2, List.drop_eq_getElem_cons hlt, List.map_cons]; exact pick_cons _ _ _
      have HC := hid hcall
      generalize es[j] = e at c0 c1 eg HC HP hsz
      obtain ⟨k, f, caps, n⟩ := e
      dsimp only at c0 c1 eg HC hsz HP
      clear hgj hcall hF
      have HB := hid HR.out.1
      clear HR
      go_wp2_with fail
      have HB2 := hid (HB.out.alloc HB.out.size (.cells #[.int .i64 k, .func (.func f) #[] caps] 128))
      have x0 : (wr.alloc (.cells #[.int .i64 k, .func (.func f) #[] caps] 128)).cell? ⟨wr.heap.size, 0, none⟩ = some (.int .i64 k) := by rw [World.cell?_alloc_mark]; rfl
      have x1 : (wr.alloc (.cells #[.int .i64 k, .func (.func f) #[] caps] 128)).cell? ⟨wr.heap.size, 1, none⟩ = some (.func (.func f) #[] caps) := by rw [World.cell?_alloc_mark]; rfl
      have HC2 := hid (fun p : Later (wr.alloc (.cells #[.int .i64 k, .func (.func f) #[] caps] 128)) => HC.out p.W (HB2.out.trans (p.hb.mono HB2.out.size)))
      have hnn : Nonempty (Later (wr.alloc (.cells #[.int .i64 k, .func (.func f) #[] caps] 128))) := ⟨⟨_, Below.refl _ _⟩⟩
      have l1 := Later.cell x1
      refine region_later (by kernel_rfl) (by kernel_rfl) ?_
      repeat (quiet_step ((refine Calls.later (HC2.out _))))
      refine wpQuiet_nil ?_
      rintro _ ⟨p, rfl⟩
      have HB3 := hid (HB2.out.trans (p.hb.mono HB2.out.size))
      have y0 := Later.cell x0 p
      clear l1 HC2 hnn x0 x1 c0 c1
      by_cases hn1 : n = -1
      · subst hn1
        have HE := hid (HP.out.trans (if_pos rfl))
        clear HP
        go_wp2
        go_ret2
        exact ⟨ret_pair (by rw [HE.out]) (by rw [HE.out]; simp), HB3.out⟩
      · have hnb : (n == -1) = false := by simpa using hn1
        have HE1 := hid (HP.out.trans (if_neg hn1))
        by_cases hn2 : 0 < n
        · have HE := hid (HE1.out.trans (if_pos hn2))
          clear HP HE1 hn1
          go_wp2
          go_ret2
          exact ⟨ret_pair (by rw [HE.out]) (by rw [HE.out]), HB3.out⟩
        · have HE := hid (HE1.out.trans (if_neg hn2))
          clear HP HE1 hn1
          go_wp2
          go_roundw
          case rel => exact ⟨j + 1, by omega, by go_num, HB3.out, HE.out⟩
          case measure => simp [intOf]; omega
    · have HE : Hid (pick (es.map kindSize) = (6, 1)) := by show _ = _; rw [HR.out.2, List.drop_eq_nil_of_le (by omega)]; rfl
      have HB := hid HR.out.1
      clear hF HR
      go_wp2
      go_ret2
      exact ⟨ret_pair (by rw [HE.out]) (by rw [HE.out]), HB.out⟩
end Go.Proofs.YteklakpfbkcegaaGreatDoor
