/- Plain facts of edits that are put in order one by one: what they come to is what the sorted ones come to. -/
import Derived.Test.YthklodlhbafehaaDoorTurnedFacts
namespace Go.Proofs.YthklodlhbafehaaDoor
open Go.RowKit

/-- Not behind: by file, from, to. -/
def leB (x y : Ed) : Bool := decide (x.file < y.file) || (x.file == y.file && (decide (x.lo < y.lo) || (x.lo == y.lo && decide (x.hi ≤ y.hi))))
theorem leB_iff (x y : Ed) : leB x y = true ↔ ¬ ltE y x := by
  unfold leB ltE
  simp only [Bool.or_eq_true, Bool.and_eq_true, decide_eq_true_eq, beq_iff_eq]
  omega

def insE (e : Ed) (s : List Ed) : List Ed := s.takeWhile (leB · e) ++ e :: s.dropWhile (leB · e)
def insAll (s : List Ed) (es : List Ed) : List Ed := es.foldl (fun s e => insE e s) s

theorem ins_perm (e : Ed) (s : List Ed) : (insE e s).Perm (e :: s) := by
  unfold insE
  refine List.perm_middle.trans ?_
  rw [List.takeWhile_append_dropWhile]
theorem insAll_perm : ∀ (es s : List Ed), (insAll s es).Perm (s ++ es)
  | [], s => by simp [insAll]
  | e :: r, s => by
    have h := insAll_perm r (insE e s)
    have h2 : (insAll s (e :: r)) = insAll (insE e s) r := rfl
    rw [h2]
    refine h.trans ?_
    have h3 : (insE e s ++ r).Perm (e :: s ++ r) := (ins_perm e s).append_right r
    refine h3.trans ?_
    rw [List.cons_append]
    exact List.perm_middle.symm

def inOrd (s : List Ed) : Prop := s.Pairwise (fun x y => ¬ ltE y x)
theorem ins_sorted (e : Ed) : ∀ (s : List Ed), inOrd s → inOrd (insE e s)
  | [], _ => by simp [insE, inOrd]
  | x :: r, h => by
    obtain ⟨h1, h2⟩ := List.pairwise_cons.1 h
    have ih := ins_sorted e r h2
    unfold insE
    rw [List.takeWhile_cons, List.dropWhile_cons]
    cases hx : leB x e with
    | true =>
      simp only [if_true, List.cons_append]
      refine List.pairwise_cons.2 ⟨fun y hy => ?_, ih⟩
      have hy' : y ∈ insE e r := hy
      rcases List.mem_cons.1 ((ins_perm e r).subset hy') with rfl | hy
      · exact (leB_iff _ _).1 hx
      · exact h1 y hy
    | false =>
      simp only [Bool.false_eq_true, if_false, List.nil_append]
      have hlt : ltE e x := by
        have : ¬ (¬ ltE e x) := fun h' => by rw [(leB_iff x e).2 h'] at hx; cases hx
        exact Classical.not_not.1 this
      refine List.pairwise_cons.2 ⟨fun y hy => ?_, h⟩
      rcases List.mem_cons.1 hy with rfl | hy
      · unfold ltE at hlt ⊢; omega
      · have := h1 y hy; unfold ltE at hlt this ⊢; omega
theorem insAll_sorted : ∀ (es s : List Ed), inOrd s → inOrd (insAll s es)
  | [], _, h => h
  | e :: r, s, h => insAll_sorted r (insE e s) (ins_sorted e s h)

/-- Edits, put in order one by one. -/
def sortI (es : List Ed) : List Ed := insAll [] es
theorem sortI_perm (es : List Ed) : (sortI es).Perm es := by have := insAll_perm es []; rwa [List.nil_append] at this
theorem sortI_sorted (es : List Ed) : inOrd (sortI es) := insAll_sorted es [] List.Pairwise.nil

def key (x : Ed) : Int × Int × Int := (x.file, x.lo, x.hi)
def keyLe (x y : Int × Int × Int) : Prop := ¬ (y.1 < x.1 ∨ (y.1 = x.1 ∧ (y.2.1 < x.2.1 ∨ (y.2.1 = x.2.1 ∧ y.2.2 < x.2.2))))
theorem keys_eq (l l' : List Ed) (hp : l.Perm l') (h : inOrd l) (h' : inOrd l') : l.map key = l'.map key := by
  refine (hp.map key).eq_of_pairwise (le := keyLe) (fun a b _ _ h1 h2 => ?_) ?_ ?_
  · obtain ⟨a1, a2, a3⟩ := a
    obtain ⟨b1, b2, b3⟩ := b
    unfold keyLe at h1 h2
    dsimp only at h1 h2
    have e1 : a1 = b1 := by omega
    have e2 : a2 = b2 := by omega
    have e3 : a3 = b3 := by omega
    rw [e1, e2, e3]
  · exact List.pairwise_map.2 (h.imp fun h => h)
  · exact List.pairwise_map.2 (h'.imp fun h => h)

def clashO (p : Option Ed) (x : Ed) : Bool := match p with | some q => clashB q x | none => false
theorem misfit_keys (fs : List Src) : ∀ (l l' : List Ed) (p p' : Option Ed), l.map key = l'.map key → p.map key = p'.map key → misfitFrom fs p l = misfitFrom fs p' l'
  | [], [], _, _, _, _ => rfl
  | [], _ :: _, _, _, h, _ => by cases h
  | _ :: _, [], _, _, h, _ => by cases h
  | x :: r, y :: s, p, p', h, hp => by
    rw [List.map_cons, List.map_cons] at h
    injection h with hk hr
    have ih := misfit_keys fs r s (some x) (some y) hr (by simp [hk])
    unfold key at hk
    injection hk with k1 k23
    injection k23 with k2 k3
    have hc : clashO p x = clashO p' y := by
      cases p with
      | none => cases p' with
        | none => rfl
        | some q' => cases hp
      | some q => cases p' with
        | none => cases hp
        | some q' =>
          simp only [Option.map_some, Option.some.injEq] at hp
          unfold key at hp
          injection hp with q1 q23
          injection q23 with q2 q3
          simp only [clashO, clashB, q1, q2, q3, k1, k2]
    have e : ∀ (q : Option Ed) (z : Ed) (t : List Ed), misfitFrom fs q (z :: t) = if z.file < 0 ∨ (fs.length : Int) ≤ z.file then 6
      else if z.lo < 0 ∨ z.hi < z.lo ∨ ((textOf fs z.file).size : Int) < z.hi then 3
      else if clashO q z = true then 8 else misfitFrom fs (some z) t := fun _ _ _ => rfl
    rw [e, e, ← ih, ← hc, ← k1, ← k2, ← k3]

/-- Put in order one by one, or sorted: what is wrong with them is the same; if nothing is, they are the same. -/
theorem sortI_misfit (fs : List Src) (es : List Ed) : misfitFrom fs none (sortI es) = misfitFrom fs none (sortE es) :=
  misfit_keys fs _ _ none none (keys_eq _ _ ((sortI_perm es).trans (sortE_perm es).symm) (sortI_sorted es) (sortE_sorted es)) rfl
theorem sortI_same (fs : List Src) (es : List Ed) (h : misfitFrom fs none (sortE es) = 0) : sortI es = sortE es := by
  have hs := sortE_sorted es
  have hk := keys_apart _ (fit_keys fs _ none h hs)
  have hpp : (sortE es).Perm (sortI es) := (sortE_perm es).trans (sortI_perm es).symm
  refine (hpp.eq_of_pairwise (le := fun x y => ¬ ltE y x) (fun a b ha hb h1 h2 => ?_) hs (sortI_sorted es)).symm
  rcases hk a ha b (hpp.symm.subset hb) with h | h | h
  · exact h
  · unfold keyLt at h; unfold ltE at h1 h2; omega
  · unfold keyLt at h; unfold ltE at h1 h2; omega

end Go.Proofs.YthklodlhbafehaaDoor
