/- Walk of Clean: a call returns whether the bytes are a path, and leaves all that lay in memory as it was. -/
import Derived.Test.YthklodlhbafehaaDoorNames
import Derived.Test.YthklodlhbafehaaDoorShelf
import Derived.Lib.SplitLaws
namespace Go.Proofs.YthklodlhbafehaaDoor
open Go.RowKit

def slash : ByteArray := ⟨#[47]⟩
def pcsB (s : ByteArray) : List ByteArray := Lib.splitB slash 0 (Lib.countB s slash) s
def cleanB (s : ByteArray) : Bool := decide (s.size ≤ 40) && (pcsB s).all fun p => nameOk p.data.toList

theorem pcsB_length (s : ByteArray) : (pcsB s).length = Lib.countB s slash + 1 := Lib.splitB_all slash (by decide) 0 _ s rfl
theorem pcsB_size (s : ByteArray) : ∀ p ∈ pcsB s, p.size ≤ s.size := by
  unfold pcsB
  generalize Lib.countB s slash = k
  induction k generalizing s with
  | zero => intro p hp; simp [Lib.splitB] at hp; subst hp; exact Nat.le_refl _
  | succ k ih =>
    intro p hp
    unfold Lib.splitB at hp
    split at hp
    · simp at hp; subst hp; exact Nat.le_refl _
    · rcases List.mem_cons.1 hp with rfl | hp
      · simp [ByteArray.size_extract]; omega
      · have := ih _ p hp; simp [ByteArray.size_extract] at this; omega

theorem all_take_succ {α : Type} (l : List α) (p : α → Bool) (k : Nat) (h : k < l.length) : (l.take (k + 1)).all p = ((l.take k).all p && p l[k]) := by
  rw [List.take_succ_eq_append_getElem h, List.all_append]; simp
theorem all_false' {α : Type} {l : List α} {p : α → Bool} (k : Nat) (h : k < l.length) (hx : p l[k] = false) : l.all p = false := by
  rw [List.all_eq_false]; exact ⟨l[k], List.getElem_mem h, by simp [hx]⟩

set_option maxHeartbeats 400000 in
theorem Clean_long (s : ByteArray) (w : World) (hs : 40 < s.size) (hz : s.size ≤ maxLen) :
    Calls Tryd.prog 7 #[.string s] w fun e w' => e = .returned (.bool false) ∧ w' = w := by
  unfold maxLen at hz
  go_enter Tryd.func7, Tryd.ntmps7
  go_wp2
  go_ret
  exact ⟨rfl, rfl⟩

theorem split_any (s : ByteArray) (w : World) (m : Int) (hm : w.cell? ⟨0, 0, none⟩ = some (.int .i64 m)) (hs : s.size < 4294967281) :
    Calls Tryd.prog 21 #[.string s, .string { data := #[47] }] w fun e w' =>
      e = .returned (.slice (some ⟨w.heap.size, 0, none⟩) (pcsB s).length (pcsB s).length) ∧ w' = w.alloc (.cells ((pcsB s).map Value.string).toArray 9) := by
  rw [pcsB_length]
  exact Tryd.strings_Split s slash m w hs hm (by decide)

theorem cell_piece (ps : List ByteArray) (w : World) (k : Nat) (h : k < ps.length) : (w.alloc (.cells (ps.map Value.string).toArray 9)).cell? ⟨w.heap.size, k, none⟩ = some (.string ps[k]) := by
  rw [World.cell?_alloc_mark]; simp [h]

set_option maxHeartbeats 400000 in
theorem Clean_short (s : ByteArray) (w : World) (m : Int) (hm : w.cell? ⟨0, 0, none⟩ = some (.int .i64 m)) (hs : s.size ≤ 40) :
    Calls Tryd.prog 7 #[.string s] w fun e w' => e = .returned (.bool ((pcsB s).all fun p => nameOk p.data.toList)) ∧ Below w.heap.size w w' := by
  have hl := pcsB_length s
  have hp := pcsB_size s
  have hc : Lib.countB s slash ≤ s.size := Lib.countB_le slash (by decide) s.size s (Nat.le_refl _)
  have hsp := split_any s w m hm (by omega)
  clear hm
  generalize pcsB s = ps at *
  generalize Lib.countB s slash = n at *
  have hl' : ps.length ≤ 41 := by omega
  clear hl hc
  have hd : decide (40 < (s.size : Int)) = false := by simp; omega
  go_enter Tryd.func7, Tryd.ntmps7
  go_wp2_with fail
  refine hsp.mono ?_
  rintro e w' ⟨rfl, rfl⟩
  go_wp2
  go_loop [4, 11] (fun _ i => ∃ k : Nat, k ≤ ps.length ∧ i = .int .i64 k ∧ Hid ((ps.take k).all (fun p => nameOk p.data.toList) = true)) (fun _ i => ps.length - (intOf i).toNat)
  case atStart => exact ⟨0, Nat.zero_le _, rfl, by simp [Hid]⟩
  case round =>
    obtain ⟨k, hk, rfl, HA⟩ := hrel
    by_cases hlt : k < ps.length
    · have hcl := cell_piece ps w k hlt
      have hsz : ps[k].size ≤ maxLen := by have := hp ps[k] (List.getElem_mem hlt); unfold maxLen; omega
      have HT := hid (all_take_succ ps (fun p => nameOk p.data.toList) k hlt)
      have HF := fun h => hid (all_false' (p := fun p : ByteArray => nameOk p.data.toList) k hlt h)
      generalize ps[k] = q at hcl hsz HT HF
      have hcall := isName_any q (w.alloc (.cells (ps.map Value.string).toArray 9)) hsz
      cases hb : nameOk q.data.toList with
      | true =>
        have HB := hid hb
        rw [hb] at hcall
        clear hb HF
        go_wp2_with fail
        refine hcall.mono ?_
        rintro e w' ⟨rfl, rfl⟩
        go_wp2
        go_round
        case rel => exact ⟨k + 1, by omega, by go_num, by show _ = true; rw [HT.out, HA.out, HB.out]; rfl⟩
        case measure => simp [intOf]; omega
      | false =>
        have HB := HF hb
        rw [hb] at hcall
        clear hb HF HT
        go_wp2_with (go_at_call 22; refine hcall.mono ?_; rintro e w' ⟨rfl, rfl⟩)
        go_ret
        exact ⟨ret_bool HB.out.symm, (Below.refl _ _).alloc (Nat.le_refl _) _⟩
    · have HE : Hid (ps.all (fun p => nameOk p.data.toList) = true) := by
        have := HA.out; rwa [List.take_of_length_le (by omega)] at this
      go_wp2
      go_ret
      exact ⟨ret_bool HE.out.symm, (Below.refl _ _).alloc (Nat.le_refl _) _⟩

/-- Clean, at whatever string: what cleanB says. -/
theorem Clean_any (s : ByteArray) (w : World) (m : Int) (hm : w.cell? ⟨0, 0, none⟩ = some (.int .i64 m)) (hz : s.size ≤ maxLen) :
    Calls Tryd.prog 7 #[.string s] w fun e w' => e = .returned (.bool (cleanB s)) ∧ Below w.heap.size w w' := by
  by_cases h : s.size ≤ 40
  · refine (Clean_short s w m hm h).mono ?_
    rintro e w' ⟨rfl, hb⟩
    exact ⟨by simp [cleanB, h], hb⟩
  · refine (Clean_long s w (by omega) hz).mono ?_
    rintro e w' ⟨rfl, rfl⟩
    exact ⟨by simp [cleanB, h], Below.refl _ _⟩

end Go.Proofs.YthklodlhbafehaaDoor
