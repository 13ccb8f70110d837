/- Contract of the specification's winner; it is the program's. -/
import Derived.Test.YtojbhbifbennfaaI
namespace Go.Proofs.Ytojbhbifbennfaa
open Go.RowKit Go.Shelf

def lvX (x : RqD) : Int := if onB x.k x.n = true then x.l else 99
theorem lvR_at {qs : List RqD} {p : Nat} {x : RqD} (h : qs[p]? = some x) : lvR qs (p : Int) = lvX x := by
  unfold lvR lvX
  rw [if_neg (by omega), show ((p : Int)).toNat = p by omega, h]
theorem lvR_none (qs : List RqD) : lvR qs (-1) = 99 := if_pos (by decide)
def isL (v : Int) (x : RqD) : Bool := decide (lvX x = v)
def le17 (x : RqD) : Bool := decide (lvX x ≤ 17)
def rwinI (qs : List RqD) (on : Int) : Int := if lvR qs on = 1 then on else if firstI (isL 1) qs 0 ≠ -1 then firstI (isL 1) qs 0 else if lvR qs on = 2 then on else if firstI (isL 2) qs 0 ≠ -1 then firstI (isL 2) qs 0 else if lvR qs on ≤ 17 then on else if firstI le17 qs 0 ≠ -1 then firstI le17 qs 0 else if lvR qs on = 18 then on else -1
theorem ask_is (v : Int) (hv : v < 99) (x : RqD) : askB v v x = isL v x := by
  unfold askB isL lvX
  by_cases h : onB x.k x.n = true
  · rw [if_pos h, h, Bool.true_and]
    by_cases e : x.l = v
    · rw [decide_eq_true (show v ≤ x.l by omega), decide_eq_true (show x.l ≤ v by omega), decide_eq_true e]; rfl
    · rw [decide_eq_false e]
      by_cases e2 : v ≤ x.l
      · rw [decide_eq_false (show ¬ x.l ≤ v by omega), Bool.and_false]
      · rw [decide_eq_false e2, Bool.false_and]
  · rw [if_neg h, show onB x.k x.n = false by simpa using h, Bool.false_and, decide_eq_false (by omega)]
theorem first_congr {p q : RqD → Bool} (qs : List RqD) (h : ∀ x ∈ qs, p x = q x) : ∀ i, firstI p qs i = firstI q qs i := by
  induction qs with
  | nil => intro i; rfl
  | cons x r ih =>
    intro i
    show (if p x = true then (i : Int) else firstI p r (i + 1)) = if q x = true then (i : Int) else firstI q r (i + 1)
    rw [h x List.mem_cons_self, ih (fun y hy => h y (List.mem_cons_of_mem _ hy))]
theorem first_none {p : RqD → Bool} {qs : List RqD} (h : firstI p qs 0 = -1) : ∀ x ∈ qs, p x = false := by
  have h1 := firstI_any p qs 0
  rw [h] at h1
  intro x hx
  have h2 : qs.any p = false := h1.symm.trans (by decide)
  rw [List.any_eq_false] at h2
  simpa using h2 x hx
theorem hit_is (qs : List RqD) (on v : Int) (hv : v < 99) (ho : on = -1 ∨ (0 ≤ on ∧ on < qs.length)) : hitB qs on v v = decide (lvR qs on = v) := by
  rcases ho with rfl | ⟨h1, h2⟩
  · rw [hit_none, lvR_none, decide_eq_false (by omega)]
  · obtain ⟨p, rfl⟩ : ∃ p : Nat, on = (p : Int) := ⟨on.toNat, by omega⟩
    obtain ⟨x, hx⟩ : ∃ x, qs[p]? = some x := ⟨_, List.getElem?_eq_getElem (by omega)⟩
    rw [hit_at v v hx, lvR_at hx, ask_is v hv]; rfl
theorem search_is (qs : List RqD) (on v : Int) (hv : v < 99) (ho : on = -1 ∨ (0 ≤ on ∧ on < qs.length)) : searchI qs on v v = if lvR qs on = v then on else firstI (isL v) qs 0 := by
  unfold searchI
  rw [hit_is qs on v hv ho, first_congr qs (fun x _ => ask_is v hv x)]
  by_cases h : lvR qs on = v
  · rw [if_pos (decide_eq_true h), if_pos h]
  · rw [if_neg (by rw [decide_eq_false h]; simp), if_neg h]
theorem rwin_is (qs : List RqD) (on : Int) (ho : on = -1 ∨ (0 ≤ on ∧ on < qs.length)) (hn : qs.any noB = false) : rwinI qs on = winI qs on := by
  have hlev : ∀ x ∈ qs, 1 ≤ x.l ∧ x.l ≤ 18 := fun x hx => by
    rw [List.any_eq_false] at hn
    have h := hn x hx
    unfold noB at h
    simp only [Bool.or_eq_true, decide_eq_true_eq] at h
    omega
  have honx : lvR qs on ≠ 99 → on ≠ -1 := fun h e => h (by rw [e]; exact lvR_none qs)
  unfold rwinI winI
  rw [search_is qs on 1 (by decide) ho, search_is qs on 2 (by decide) ho]
  by_cases a1 : lvR qs on = 1
  · rw [if_pos a1, if_pos a1, if_pos (honx (by omega))]
  rw [if_neg a1, if_neg a1]
  by_cases b1 : firstI (isL 1) qs 0 ≠ -1
  · rw [if_pos b1, if_pos b1]
  rw [if_neg b1, if_neg b1]
  by_cases a2 : lvR qs on = 2
  · rw [if_pos a2, if_pos a2, if_pos (honx (by omega))]
  rw [if_neg a2, if_neg a2]
  by_cases b2 : firstI (isL 2) qs 0 ≠ -1
  · rw [if_pos b2, if_pos b2]
  rw [if_neg b2, if_neg b2]
  have n1 := first_none (p := isL 1) (qs := qs) (by simpa using b1)
  have n2 := first_none (p := isL 2) (qs := qs) (by simpa using b2)
  have h3 : ∀ x ∈ qs, askB 3 17 x = le17 x := fun x hx => by
    have m1 := of_decide_eq_false (n1 x hx)
    have m2 := of_decide_eq_false (n2 x hx)
    have m3 := hlev x hx
    unfold askB le17
    unfold lvX at m1 m2 ⊢
    by_cases h : onB x.k x.n = true
    · rw [if_pos h] at m1 m2 ⊢
      rw [h, Bool.true_and, decide_eq_true (show 3 ≤ x.l by omega), Bool.true_and]
    · rw [if_neg h, show onB x.k x.n = false by simpa using h, Bool.false_and]; rfl
  have hs : searchI qs on 3 17 = if lvR qs on ≤ 17 then on else firstI le17 qs 0 := by
    unfold searchI
    rw [first_congr qs h3]
    rcases ho with rfl | ⟨h1, h2⟩
    · rw [hit_none, lvR_none, if_neg (by simp), if_neg (by omega)]
    · obtain ⟨p, rfl⟩ : ∃ p : Nat, on = (p : Int) := ⟨on.toNat, by omega⟩
      obtain ⟨x, hx⟩ : ∃ x, qs[p]? = some x := ⟨_, List.getElem?_eq_getElem (by omega)⟩
      rw [hit_at 3 17 hx, h3 x (List.mem_of_getElem? hx), lvR_at hx]
      unfold le17
      by_cases h : lvX x ≤ 17
      · rw [if_pos (decide_eq_true h), if_pos h]
      · rw [if_neg (by rw [decide_eq_false h]; simp), if_neg h]
  rw [hs]
  by_cases a3 : lvR qs on ≤ 17
  · rw [if_pos a3, if_pos a3, if_pos (honx (by omega))]
  rw [if_neg a3, if_neg a3]
  by_cases b3 : firstI le17 qs 0 ≠ -1
  · rw [if_pos b3, if_pos b3]
  rw [if_neg b3, if_neg b3]
  rcases ho with rfl | ⟨h1, h2⟩
  · rw [lvR_none, if_neg (by decide), if_neg (by unfold isAt; simp)]
  · obtain ⟨p, rfl⟩ : ∃ p : Nat, on = (p : Int) := ⟨on.toNat, by omega⟩
    obtain ⟨x, hx⟩ : ∃ x, qs[p]? = some x := ⟨_, List.getElem?_eq_getElem (by omega)⟩
    have m3 := hlev x (List.mem_of_getElem? hx)
    rw [isAt_at hx]
    rw [lvR_at hx] at a3 ⊢
    unfold lvX at a3 ⊢
    by_cases h : onB x.k x.n = true
    · rw [if_pos h] at a3 ⊢
      rw [if_pos (show x.l = 18 by omega), if_pos h]
    · rw [if_neg h, if_neg (by decide), if_neg h]
end Go.Proofs.Ytojbhbifbennfaa
