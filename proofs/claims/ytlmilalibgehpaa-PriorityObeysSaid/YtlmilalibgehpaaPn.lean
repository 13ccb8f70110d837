/- Plain facts of the active level: what Under answers, in one statement. -/
import Derived.Test.YtlmilalibgehpaaKl
namespace Go.Proofs.Ytlmilalibgehpaa
open Go.RowKit

theorem undG_end (S : Nat → WrD) : undG S (16 - 16) 16 = 16 := rfl
theorem undG_is (S : Nat → WrD) : ∀ n lv, 16 - lv = n → lv ≤ 16 → lv ≤ undG S (16 - lv) lv ∧ undG S (16 - lv) lv ≤ 16 ∧ (∀ j, lv ≤ j → j < undG S (16 - lv) lv → (S j).k = 0) ∧ (undG S (16 - lv) lv < 16 → (S (undG S (16 - lv) lv)).k ≠ 0) := by
  intro n
  induction n with
  | zero =>
    intro lv h1 h2
    obtain rfl : lv = 16 := by omega
    rw [undG_end]
    exact ⟨Nat.le_refl _, Nat.le_refl _, fun j a b => by omega, fun h => by omega⟩
  | succ n ih =>
    intro lv h1 h2
    have hlt : lv < 16 := by omega
    by_cases hk : (S lv).k = 0
    · rw [undG_step hlt hk]
      obtain ⟨a, b, c, d⟩ := ih (lv + 1) (by omega) (by omega)
      exact ⟨by omega, b, fun j hj1 hj2 => by
        by_cases e : j = lv
        · rw [e]; exact hk
        · exact c j (by omega) hj2, d⟩
    · rw [undG_hit hlt hk]
      exact ⟨Nat.le_refl _, by omega, fun j a b => by omega, fun _ => hk⟩
theorem und_facts (S : Nat → WrD) (lv : Nat) (h : lv ≤ 16) (c m : Int) : ∃ g : Nat, lv ≤ g ∧ g ≤ 16 ∧ (∀ j, lv ≤ j → j < g → (S j).k = 0) ∧ ((g = 16 ∧ undV S lv c m = .tuple #[.int .i64 17, .agg #[.int .i64 c, .int .i64 m]]) ∨ (g < 16 ∧ (S g).k ≠ 0 ∧ undV S lv c m = .tuple #[.int .i64 ((g : Int) + 1), .agg #[.int .i64 (S g).k, .int .i64 (S g).n]])) := by
  obtain ⟨a, b, d, e⟩ := undG_is S (16 - lv) lv rfl h
  refine ⟨undG S (16 - lv) lv, a, b, d, ?_⟩
  unfold undV
  by_cases hg : undG S (16 - lv) lv = 16
  · exact .inl ⟨hg, if_pos hg⟩
  · exact .inr ⟨by omega, e (by omega), if_neg hg⟩
/-- the first index from lv on that is occupied is one -/
theorem und_one (S : Nat → WrD) (lv g : Nat) (h0 : lv ≤ g) (hg : g ≤ 16) (hz : ∀ j, lv ≤ j → j < g → (S j).k = 0) (hh : g < 16 → (S g).k ≠ 0) (c m : Int) : undV S lv c m = if g = 16 then .tuple #[.int .i64 17, .agg #[.int .i64 c, .int .i64 m]] else .tuple #[.int .i64 ((g : Int) + 1), .agg #[.int .i64 (S g).k, .int .i64 (S g).n]] := by
  obtain ⟨g', a, b, d, e⟩ := und_facts S lv (by omega) c m
  have hgg : g' = g := by
    rcases Nat.lt_trichotomy g' g with hlt | he | hgt
    · rcases e with ⟨e1, _⟩ | ⟨_, e2, _⟩
      · omega
      · exact absurd (hz g' a hlt) e2
    · exact he
    · exact absurd (d g h0 hgt) (hh (by omega))
  subst hgg
  rcases e with ⟨e1, e2⟩ | ⟨e1, _, e2⟩
  · rw [e2, if_pos e1]
  · rw [e2, if_neg (by omega)]
end Go.Proofs.Ytlmilalibgehpaa
