/- Walks of the byte functions of Beside: the last slash of a slice of bytes, and the folder of a file. -/
import Derived.Test.YthklodlhbafehaaDoorFind
import Derived.Test.YthklodlhbafehaaDoorBuf
namespace Go.Proofs.YthklodlhbafehaaDoor
open Go.RowKit Go.Shelf

def lastS (l : List UInt8) : Int := Lib.lastIndexByte ⟨l.toArray⟩ 47
theorem lastS_spec (l : List UInt8) : lastS l = -1 ∨ ∃ i : Nat, i < l.length ∧ lastS l = i := by
  rcases Lib.lastIndexByte_spec ⟨l.toArray⟩ 47 with ⟨h, _⟩ | ⟨i, hi, h, _⟩
  · exact .inl h
  · exact .inr ⟨i, by simpa [ByteArray.size] using hi, h⟩

theorem ret_int {k : IntKind} {a b : Int} (h : a = b) : Ending.returned (.int k a) = .returned (.int k b) := by rw [h]

set_option maxHeartbeats 400000 in
theorem lastIndex_bytes (g cap : Nat) (l : List UInt8) (w : World) (hl : l.length ≤ 140737488355328) (hc : ∀ j (hj : j < l.length), w.cell? ⟨g, j, none⟩ = some (.int .u8 (l[j].toNat : Int))) :
    Calls Tryd.prog 41 #[.slice (some ⟨g, 0, none⟩) l.length cap, .int .u8 47] w fun e w' => e = .returned (.int .i64 (lastS l)) ∧ w' = w := by
  have HC := hid hc
  clear hc
  go_enter Tryd.func41, Tryd.ntmps41
  go_wp2
  go_loop [5] (fun vi => ∃ k : Nat, k ≤ l.length ∧ vi = .int .i64 ((k : Int) - 1) ∧ Hid (lastS l = Lib.lastIdx ⟨l.toArray⟩ 47 k)) (fun vi => ((intOf vi) + 1).toNat)
  case atStart => exact ⟨l.length, Nat.le_refl _, by go_num, rfl⟩
  case round =>
    obtain ⟨k, hk, rfl, hh⟩ := hrel
    by_cases k0 : k = 0
    · subst k0
      go_wp2
      go_ret
      exact ⟨by rw [hh.out]; rfl, rfl⟩
    · obtain ⟨q, rfl⟩ : ∃ q, k = q + 1 := ⟨k - 1, by omega⟩
      have hcq := HC.out q (by omega)
      have hb : Hid ((ByteArray.mk l.toArray).data[q]! = l[q]) := by show _ = _; simp [show q < l.length from by omega]
      generalize l[q] = b at hcq hb
      by_cases h47 : (b.toNat : Int) = 47
      · have ht : ((b.toNat : Int) == 47) = true := by simpa using h47
        have HF : Hid (lastS l = (q : Int)) := by show _ = _; rw [hh.out]; exact Lib.lastIdx_hit _ _ _ (by rw [hb.out]; exact h47)
        clear h47 hh hb
        go_wp2
        go_ret
        exact ⟨ret_int HF.out.symm, rfl⟩
      · have ht : ((b.toNat : Int) == 47) = false := by simpa using h47
        have HF : Hid (lastS l = Lib.lastIdx ⟨l.toArray⟩ 47 q) := by show _ = _; rw [hh.out]; exact Lib.lastIdx_miss _ _ _ (by rw [hb.out]; exact h47)
        clear h47 hh hb
        go_wp2
        go_round
        case rel => exact ⟨q, by omega, by go_num, HF.out⟩
        case measure => simp [intOf]

set_option maxHeartbeats 400000 in
/-- bytes.LastIndexByte, of bytes that a call owns. -/
theorem lastIndex_owned {base : Nat} {v : Value} (l : List UInt8) (w : World) (hl : l.length ≤ 140737488355328) (h : OwnsB 5 base w v l) :
    Calls Tryd.prog 31 #[v, .int .u8 47] w fun e w' => e = .returned (.int .i64 (lastS l)) ∧ w' = w := by
  have hin : Calls Tryd.prog 41 #[v, .int .u8 47] w fun e w' => e = .returned (.int .i64 (lastS l)) ∧ w' = w := by
    rcases id h with ⟨rfl, rfl⟩ | ⟨g, cap, cur, fz, rfl, _⟩
    · go_enter Tryd.func41, Tryd.ntmps41
      go_wp2
      go_loop [5] (fun vi => vi = .int .i64 (-1)) (fun _ => 0)
      case atStart => rfl
      case round =>
        subst hrel
        go_wp2
        go_ret
        exact ⟨rfl, rfl⟩
    · exact lastIndex_bytes g cap l w hl (fun j hj => h.cell j hj)
  obtain ⟨a, c, rfl, _⟩ := h.shape
  generalize lastS l = r at hin ⊢
  clear h hl
  go_enter Tryd.func31, Tryd.ntmps31
  go_wp2_with (go_at_call 41; refine hin.mono ?_; rintro e w' ⟨rfl, rfl⟩)
  go_ret
  exact ⟨rfl, rfl⟩

def folderL (l : List UInt8) : List UInt8 := if lastS l < 0 then [] else 47 :: l.take (lastS l).toNat

set_option maxHeartbeats 400000 in
theorem folder_any (s : ByteArray) (w : World) (hs : s.size + 1 ≤ 140737488355328) :
    Calls Tryd.prog 29 #[.string s] w fun e w' => ∃ v, e = .returned v ∧ OwnsB 5 w.heap.size w' v (folderL s.data.toList) ∧ Below w.heap.size w w' := by
  have hcall := Tryd.strings_LastIndexByte s 47 (by omega) w
  have he : Lib.lastIndexByte s 47 = lastS s.data.toList := by simp [lastS]
  rw [he] at hcall
  rcases lastS_spec s.data.toList with h | ⟨i, hi, h⟩
  · have HF : Hid (folderL s.data.toList = []) := by simp [Hid, folderL, h]
    rw [h] at hcall
    clear he h
    go_enter Tryd.func29, Tryd.ntmps29
    go_wp2_with (go_at_call 39; refine hcall.mono ?_; rintro e w' ⟨rfl, rfl⟩)
    go_ret
    exact ⟨_, rfl, by rw [HF.out]; exact OwnsB.nil _ _ _, Below.refl _ _⟩
  · have hi' : i < s.size := by simpa using hi
    have HF : Hid (folderL s.data.toList = 47 :: s.data.toList.take i) := by simp [Hid, folderL, h]
    rw [h] at hcall
    clear he h hi
    have hconv := fun S W => Lib.run_convert_string_bytes (P := Tryd.prog) W 9 52 5 S Tryd.underlying9 Tryd.underlying52 Tryd.underlying5
    go_enter Tryd.func29, Tryd.ntmps29
    go_wp2_with (go_at_call 39; refine hcall.mono ?_; rintro e w' ⟨rfl, rfl⟩)
    go_ret
    have hz : (({ data := #[47] } : ByteArray) ++ s.extract 0 i).size = 1 + min i s.size := by
      have h1 : ({ data := #[47] } : ByteArray).size = 1 := rfl
      rw [ByteArray.size_append, ByteArray.size_extract, h1, Nat.sub_zero]
    have ho := owns_of_string (e := 5) (base := w'.heap.size) (w := w') ({ data := #[47] } ++ s.extract 0 i) (Nat.le_refl _) (by unfold maxLen; omega)
    rw [hz] at ho
    refine ⟨_, rfl, ?_, below_bytesWorld _ _ _⟩
    rw [HF.out]
    have hd : (({ data := #[47] } : ByteArray) ++ s.extract 0 i).data.toList = 47 :: s.data.toList.take i := by
      rw [Go.Joins.data_append, Lib.extract_from_zero]; rfl
    rw [hd] at ho
    exact ho

end Go.Proofs.YthklodlhbafehaaDoor
