/- block.Eval at one and two analog numbers; plain facts of means, sums and differences. -/
import Derived.Test.YtaobbedajgkmiaaDoorFh
namespace Go.Proofs.YtaobbedajgkmiaaDoor
open Go.RowKit Go.Shelf

set_option linter.unusedVariables false
set_option linter.unusedSimpArgs false
theorem one_ok {A : Int} : ∀ v ∈ [((1 : Int), A)], PossP v.1 v.2 ∧ v.1 = 1 := by
  intro v hv
  obtain rfl : v = (1, A) := by simpa using hv
  exact ⟨.inl rfl, rfl⟩
theorem two_ok {A C : Int} : ∀ v ∈ [((1 : Int), A), (1, C)], PossP v.1 v.2 ∧ v.1 = 1 := by
  intro v hv
  simp only [List.mem_cons, List.not_mem_nil, or_false] at hv
  rcases hv with rfl | rfl <;> exact ⟨.inl rfl, rfl⟩
theorem cl_one {A : Int} (h1 : -1000000000000 ≤ A) (h2 : A ≤ 1000000000000) : clV [(1, A)] = [A] := by simp [clV, clampI_in A h1 h2]
theorem cl_two {A C : Int} (h1 : -1000000000000 ≤ A) (h2 : A ≤ 1000000000000) (h3 : -1000000000000 ≤ C) (h4 : C ≤ 1000000000000) : clV [(1, A), (1, C)] = [A, C] := by simp [clV, clampI_in A h1 h2, clampI_in C h3 h4]
/-- the mean of two numbers -/
def mean2 (A C : Int) : Int := quoI (A + C) 2
theorem mean_two' {A C : Int} (h1 : -1000000000000 ≤ A) (h2 : A ≤ 1000000000000) (h3 : -1000000000000 ≤ C) (h4 : C ≤ 1000000000000) : meanI [A, C] = mean2 A C := by
  show quoI (0 + clampI A + clampI C) ((2 : Nat) : Int) = quoI (A + C) 2
  rw [clampI_in A h1 h2, clampI_in C h3 h4, Int.zero_add]; rfl
theorem q2_form (p : Int) (h1 : -2000000000000 ≤ p) (h2 : p ≤ 2000000000000) : 2 * quoI p 2 = p ∨ (0 < p ∧ 2 * quoI p 2 = p + 1) ∨ (p < 0 ∧ 2 * quoI p 2 = p - 1) := by
  unfold quoI
  by_cases h0 : p = 0
  · rw [if_pos h0]; omega
  · rw [if_neg h0]
    have e2 : ((2 : Int)).natAbs = 2 := rfl
    rw [e2]
    unfold divU
    by_cases hn : p < 0
    · rw [if_pos (by simp [hn])]
      split
      · omega
      · split
        · omega
        · split <;> omega
    · rw [if_neg (by simp [hn])]
      split
      · omega
      · split
        · omega
        · split <;> omega
theorem mean_between {A C : Int} (h1 : -1000000000000 ≤ A) (h2 : A ≤ 1000000000000) (h3 : -1000000000000 ≤ C) (h4 : C ≤ 1000000000000) : min A C ≤ mean2 A C ∧ mean2 A C ≤ max A C := by
  have h := q2_form (A + C) (by omega) (by omega)
  unfold mean2
  omega
theorem mean_mono {A D C : Int} (h1 : -1000000000000 ≤ A) (h2 : D ≤ 1000000000000) (h3 : -1000000000000 ≤ C) (h4 : C ≤ 1000000000000) (h : A ≤ D) : mean2 A C ≤ mean2 D C := by
  have g := q2_form (A + C) (by omega) (by omega)
  have k := q2_form (D + C) (by omega) (by omega)
  unfold mean2
  omega
theorem mean_comm (A C : Int) : mean2 A C = mean2 C A := by unfold mean2; rw [Int.add_comm]
theorem add_mono {A D C : Int} (h : A ≤ D) : addI A C ≤ addI D C := by unfold addI clampI; omega
theorem add_comm2 (A C : Int) : addI A C = addI C A := by unfold addI; rw [Int.add_comm]
theorem sub_mono {A D C : Int} (h : A ≤ D) : subI A C ≤ subI D C := by unfold subI clampI; omega
theorem ev2_min (A C : Int) (h1 : -1000000000000 ≤ A) (h2 : A ≤ 1000000000000) (h3 : -1000000000000 ≤ C) (h4 : C ≤ 1000000000000) (q ic : Nat) (w : World) (hm : MaxAt w) (hv : RowAt w q [.int .i64 1, .int .i64 A, .int .i64 1, .int .i64 C]) :
    Calls Tryd.prog 23 #[.string ⟨#[109, 105, 110]⟩, .slice none 0 0, .slice (some ⟨q, 0, none⟩) 2 ic] w fun e w' => e = .returned (.tuple #[.agg #[.int .i64 1, .int .i64 (min A C)], .int .i64 0]) ∧ Below w.heap.size w w' := by
  have h := ev_min [(1, A), (1, C)] (by simp) (by simp) two_ok (by rw [cl_two h1 h2 h3 h4]; simp) none 0 (some ⟨q, 0, none⟩) ic w hm (nil_ins _) (row_ins1 hv rfl (by simp))
  rw [cl_two h1 h2 h3 h4] at h
  skip
  exact h
theorem ev2_max (A C : Int) (h1 : -1000000000000 ≤ A) (h2 : A ≤ 1000000000000) (h3 : -1000000000000 ≤ C) (h4 : C ≤ 1000000000000) (q ic : Nat) (w : World) (hm : MaxAt w) (hv : RowAt w q [.int .i64 1, .int .i64 A, .int .i64 1, .int .i64 C]) :
    Calls Tryd.prog 23 #[.string ⟨#[109, 97, 120]⟩, .slice none 0 0, .slice (some ⟨q, 0, none⟩) 2 ic] w fun e w' => e = .returned (.tuple #[.agg #[.int .i64 1, .int .i64 (max A C)], .int .i64 0]) ∧ Below w.heap.size w w' := by
  have h := ev_max [(1, A), (1, C)] (by simp) (by simp) two_ok (by rw [cl_two h1 h2 h3 h4]; simp) none 0 (some ⟨q, 0, none⟩) ic w hm (nil_ins _) (row_ins1 hv rfl (by simp))
  rw [cl_two h1 h2 h3 h4] at h
  skip
  exact h
theorem ev2_mean (A C : Int) (h1 : -1000000000000 ≤ A) (h2 : A ≤ 1000000000000) (h3 : -1000000000000 ≤ C) (h4 : C ≤ 1000000000000) (q ic : Nat) (w : World) (hm : MaxAt w) (hv : RowAt w q [.int .i64 1, .int .i64 A, .int .i64 1, .int .i64 C]) :
    Calls Tryd.prog 23 #[.string ⟨#[109, 101, 97, 110]⟩, .slice none 0 0, .slice (some ⟨q, 0, none⟩) 2 ic] w fun e w' => e = .returned (.tuple #[.agg #[.int .i64 1, .int .i64 (mean2 A C)], .int .i64 0]) ∧ Below w.heap.size w w' := by
  have h := ev_mean [(1, A), (1, C)] (by simp) (by simp) two_ok (by rw [cl_two h1 h2 h3 h4]; simp) none 0 (some ⟨q, 0, none⟩) ic w hm (nil_ins _) (row_ins1 hv rfl (by simp))
  rw [cl_two h1 h2 h3 h4] at h
  rw [mean_two' h1 h2 h3 h4] at h
  exact h
theorem ev2_add (A C : Int) (h1 : -1000000000000 ≤ A) (h2 : A ≤ 1000000000000) (h3 : -1000000000000 ≤ C) (h4 : C ≤ 1000000000000) (q ic : Nat) (w : World) (hm : MaxAt w) (hv : RowAt w q [.int .i64 1, .int .i64 A, .int .i64 1, .int .i64 C]) :
    Calls Tryd.prog 23 #[.string ⟨#[97, 100, 100]⟩, .slice none 0 0, .slice (some ⟨q, 0, none⟩) 2 ic] w fun e w' => e = .returned (.tuple #[.agg #[.int .i64 1, .int .i64 (addI A C)], .int .i64 0]) ∧ Below w.heap.size w w' := by
  have h := ev_add [(1, A), (1, C)] (by simp) (by simp) two_ok ⟨A, C, cl_two h1 h2 h3 h4⟩ none 0 (some ⟨q, 0, none⟩) ic w hm (nil_ins _) (row_ins1 hv rfl (by simp))
  rw [cl_two h1 h2 h3 h4] at h
  skip
  exact h
theorem ev2_sub (A C : Int) (h1 : -1000000000000 ≤ A) (h2 : A ≤ 1000000000000) (h3 : -1000000000000 ≤ C) (h4 : C ≤ 1000000000000) (q ic : Nat) (w : World) (hm : MaxAt w) (hv : RowAt w q [.int .i64 1, .int .i64 A, .int .i64 1, .int .i64 C]) :
    Calls Tryd.prog 23 #[.string ⟨#[115, 117, 98]⟩, .slice none 0 0, .slice (some ⟨q, 0, none⟩) 2 ic] w fun e w' => e = .returned (.tuple #[.agg #[.int .i64 1, .int .i64 (subI A C)], .int .i64 0]) ∧ Below w.heap.size w w' := by
  have h := ev_sub [(1, A), (1, C)] (by simp) (by simp) two_ok ⟨A, C, cl_two h1 h2 h3 h4⟩ none 0 (some ⟨q, 0, none⟩) ic w hm (nil_ins _) (row_ins1 hv rfl (by simp))
  rw [cl_two h1 h2 h3 h4] at h
  skip
  exact h
theorem ev2_mul (A C : Int) (h1 : -1000000000000 ≤ A) (h2 : A ≤ 1000000000000) (h3 : -1000000000000 ≤ C) (h4 : C ≤ 1000000000000) (q ic : Nat) (w : World) (hm : MaxAt w) (hv : RowAt w q [.int .i64 1, .int .i64 A, .int .i64 1, .int .i64 C]) :
    Calls Tryd.prog 23 #[.string ⟨#[109, 117, 108]⟩, .slice none 0 0, .slice (some ⟨q, 0, none⟩) 2 ic] w fun e w' => e = .returned (.tuple #[.agg #[.int .i64 1, .int .i64 (mulDivI A C 1000)], .int .i64 0]) ∧ Below w.heap.size w w' := by
  have h := ev_mul [(1, A), (1, C)] (by simp) (by simp) two_ok ⟨A, C, cl_two h1 h2 h3 h4⟩ none 0 (some ⟨q, 0, none⟩) ic w hm (nil_ins _) (row_ins1 hv rfl (by simp))
  rw [cl_two h1 h2 h3 h4] at h
  skip
  exact h
theorem ev1_neg (A : Int) (h1 : -1000000000000 ≤ A) (h2 : A ≤ 1000000000000) (q ic : Nat) (w : World) (hm : MaxAt w) (hv : InS w (some ⟨q, 0, none⟩) 1 2 [.int .i64 1, .int .i64 A]) :
    Calls Tryd.prog 23 #[.string ⟨#[110, 101, 103]⟩, .slice none 0 0, .slice (some ⟨q, 0, none⟩) 1 ic] w fun e w' => e = .returned (.tuple #[.agg #[.int .i64 1, .int .i64 (-A)], .int .i64 0]) ∧ Below w.heap.size w w' := by
  have h := ev_neg [(1, A)] (by simp) (by simp) one_ok ⟨A, cl_one h1 h2, h1, h2⟩ none 0 (some ⟨q, 0, none⟩) ic w hm (nil_ins _) hv
  rw [cl_one h1 h2] at h
  exact h
theorem ev1_abs (A : Int) (h1 : -1000000000000 ≤ A) (h2 : A ≤ 1000000000000) (q ic : Nat) (w : World) (hm : MaxAt w) (hv : InS w (some ⟨q, 0, none⟩) 1 2 [.int .i64 1, .int .i64 A]) :
    Calls Tryd.prog 23 #[.string ⟨#[97, 98, 115]⟩, .slice none 0 0, .slice (some ⟨q, 0, none⟩) 1 ic] w fun e w' => e = .returned (.tuple #[.agg #[.int .i64 1, .int .i64 (max A (-A))], .int .i64 0]) ∧ Below w.heap.size w w' := by
  have h := ev_abs [(1, A)] (by simp) (by simp) one_ok ⟨A, cl_one h1 h2, h1, h2⟩ none 0 (some ⟨q, 0, none⟩) ic w hm (nil_ins _) hv
  rw [cl_one h1 h2] at h
  exact h
theorem ev1_limit (A l h : Int) (h1 : -1000000000000 ≤ A) (h2 : A ≤ 1000000000000) (hl : -1000000000000 ≤ l) (hh : h ≤ 1000000000000) (hlh : l ≤ h) (p pc q ic : Nat) (w : World) (hm : MaxAt w) (hp : RowAt w p [.int .i64 l, .int .i64 h]) (hv : InS w (some ⟨q, 0, none⟩) 1 2 [.int .i64 1, .int .i64 A]) :
    Calls Tryd.prog 23 #[.string ⟨#[108, 105, 109, 105, 116]⟩, .slice (some ⟨p, 0, none⟩) 2 pc, .slice (some ⟨q, 0, none⟩) 1 ic] w fun e w' => e = .returned (.tuple #[.agg #[.int .i64 1, .int .i64 (min (max A l) h)], .int .i64 0]) ∧ Below w.heap.size w w' := by
  have k := ev_limit l h hl hh hlh [(1, A)] (by simp) (by simp) one_ok ⟨A, l, h, cl_one h1 h2, rfl⟩ (some ⟨p, 0, none⟩) pc (some ⟨q, 0, none⟩) ic w hm (row_ins1 hp rfl (by simp)) hv
  rw [cl_one h1 h2] at k
  exact k
theorem ev1_limit_inv (A l h : Int) (hbad : l < -1000000000000 ∨ 1000000000000 < h ∨ h < l) (p pc q ic : Nat) (w : World) (hm : MaxAt w) (hp : RowAt w p [.int .i64 l, .int .i64 h]) (hv : InS w (some ⟨q, 0, none⟩) 1 2 [.int .i64 1, .int .i64 A]) :
    Calls Tryd.prog 23 #[.string ⟨#[108, 105, 109, 105, 116]⟩, .slice (some ⟨p, 0, none⟩) 2 pc, .slice (some ⟨q, 0, none⟩) 1 ic] w fun e w' => e = .returned (.tuple #[.agg #[.int .i64 0, .int .i64 0], .int .i64 1]) ∧ Below w.heap.size w w' :=
  ev_limit_inv l h hbad [(1, A)] (some ⟨p, 0, none⟩) pc (some ⟨q, 0, none⟩) ic w hm (row_ins1 hp rfl (by simp)) hv
theorem ins_head {w : World} {q : Nat} {x y a c : Value} (h : RowAt w q [x, y, a, c]) : InS w (some ⟨q, 0, none⟩) 1 2 [x, y] := ⟨rfl, by decide, .inr ⟨q, 0, rfl, h.lt, fun j v hj => by
  rw [Nat.zero_add]
  have hj2 : j < 2 := (List.getElem?_eq_some_iff.1 hj).1
  exact h.c j v (by rw [← hj]; match j, hj2 with | 0, _ => rfl | 1, _ => rfl)⟩⟩
end Go.Proofs.YtaobbedajgkmiaaDoor
