/- Plain facts of the law Obeys: the array after a Put, and what is active in it. -/
import Derived.Test.YtlmilalibgehpaaPn
import Derived.Test.YtlmilalibgehpaaQ
namespace Go.Proofs.Ytlmilalibgehpaa
open Go.RowKit

def valG (S : Nat → WrD) (g : Nat) (c m : Int) : Value := if g = 16 then .tuple #[.int .i64 17, .agg #[.int .i64 c, .int .i64 m]] else .tuple #[.int .i64 ((g : Int) + 1), .agg #[.int .i64 (S g).k, .int .i64 (S g).n]]
theorem und_first (S : Nat → WrD) (lv : Nat) (h : lv ≤ 16) : ∃ g : Nat, lv ≤ g ∧ g ≤ 16 ∧ (∀ j, lv ≤ j → j < g → (S j).k = 0) ∧ (g < 16 → (S g).k ≠ 0) ∧ ∀ c m, undV S lv c m = valG S g c m := by
  obtain ⟨a, b, d, e⟩ := undG_is S (16 - lv) lv rfl h
  exact ⟨_, a, b, d, e, fun c m => und_one S lv _ a b d e c m⟩
theorem valG_is (S : Nat → WrD) (g : Nat) (c m : Int) : ∃ y z : Int, valG S g c m = .tuple #[.int .i64 ((g : Int) + 1), .agg #[.int .i64 y, .int .i64 z]] := by
  unfold valG
  split
  · rename_i h; subst h; exact ⟨c, m, rfl⟩
  · exact ⟨_, _, rfl⟩
theorem valG_same {S T : Nat → WrD} {g : Nat} (h : g < 16 → T g = S g) (hg : g ≤ 16) (c m : Int) : valG T g c m = valG S g c m := by
  unfold valG
  split
  · rfl
  · rw [h (by omega)]
theorem set_at (S : Nat → WrD) (p : Nat) (x : WrD) : setS S p x p = x := if_pos rfl
theorem set_off {S : Nat → WrD} {p j : Nat} {x : WrD} (h : j ≠ p) : setS S p x j = S j := if_neg h
theorem obey_low {S : Nat → WrD} {p g : Nat} {x : WrD} (hp : p < 16) (hgp : g < p) (hz : ∀ j, 0 ≤ j → j < g → (S j).k = 0) (hh : g < 16 → (S g).k ≠ 0) (c m : Int) : undV (setS S p x) 0 c m = valG S g c m := by
  have h := und_one (setS S p x) 0 g (Nat.zero_le _) (by omega) (fun j a b => by rw [set_off (by omega)]; exact hz j a b) (fun a => by rw [set_off (by omega)]; exact hh a) c m
  exact h.trans (valG_same (fun _ => set_off (by omega)) (by omega) c m)
theorem obey_new {S : Nat → WrD} {p g : Nat} {x : WrD} (hp : p < 16) (hgp : p ≤ g) (hz : ∀ j, 0 ≤ j → j < g → (S j).k = 0) (hx : x.k ≠ 0) (c m : Int) : undV (setS S p x) 0 c m = .tuple #[.int .i64 ((p : Int) + 1), .agg #[.int .i64 x.k, .int .i64 x.n]] := by
  have h := und_one (setS S p x) 0 p (Nat.zero_le _) (by omega) (fun j a b => by rw [set_off (by omega)]; exact hz j a (by omega)) (fun _ => by rw [set_at]; exact hx) c m
  rw [h, if_neg (by omega), set_at]
theorem obey_high {S : Nat → WrD} {p g : Nat} {x : WrD} (hgp : p < g) (hg : g ≤ 16) (hz : ∀ j, 0 ≤ j → j < g → (S j).k = 0) (hh : g < 16 → (S g).k ≠ 0) (hx : x.k = 0) (c m : Int) : undV (setS S p x) 0 c m = valG S g c m := by
  have h := und_one (setS S p x) 0 g (Nat.zero_le _) hg (fun j a b => by
    by_cases e : j = p
    · subst e; rw [set_at]; exact hx
    · rw [set_off e]; exact hz j a b) (fun a => by rw [set_off (by omega)]; exact hh a) c m
  exact h.trans (valG_same (fun _ => set_off (by omega)) hg c m)
theorem obey_free {S : Nat → WrD} {p u : Nat} {x : WrD} (hu0 : p + 1 ≤ u) (hu : u ≤ 16) (hz : ∀ j, 0 ≤ j → j < p → (S j).k = 0) (hzu : ∀ j, p + 1 ≤ j → j < u → (S j).k = 0) (hh : u < 16 → (S u).k ≠ 0) (hx : x.k = 0) (c m : Int) : undV (setS S p x) 0 c m = valG S u c m := by
  have h := und_one (setS S p x) 0 u (Nat.zero_le _) hu (fun j a b => by
    by_cases e : j = p
    · subst e; rw [set_at]; exact hx
    · rw [set_off e]
      by_cases e2 : j < p
      · exact hz j a e2
      · exact hzu j (by omega) b) (fun a => by rw [set_off (by omega)]; exact hh a) c m
  exact h.trans (valG_same (fun _ => set_off (by omega)) hu c m)
theorem put_all (xs : List WrD) (l k n : Int) (h : putE (bestS xs) l k n = 0) : ∃ p : Nat, p < 16 ∧ l = (p : Int) + 1 ∧ putL (bestS xs) l k n = writesL (setS (bestS xs) p (putX (bestS xs) l k n)) ∧ bestS (putL (bestS xs) l k n) = setS (bestS xs) p (putX (bestS xs) l k n) := by
  have h1 : lvB l = true := by
    by_cases e : lvB l = false
    · unfold putE at h; rw [if_pos e] at h; cases h
    · simpa using e
  have h2 : valB k n = true := by
    by_cases e : valB k n = false
    · unfold putE at h; rw [if_neg (by rw [h1]; simp), if_pos e] at h; cases h
    · simpa using e
  have h3 : ¬ (bestS xs (l - 1).toNat).q = 1000000000 := fun e => by
    unfold putE at h; rw [if_neg (by rw [h1]; simp), if_neg (by rw [h2]; simp), if_pos e] at h; cases h
  have hl : 1 ≤ l ∧ l ≤ 16 := by unfold lvB at h1; simpa using h1
  have hs := best_seq xs (l - 1).toNat
  have e1 : putL (bestS xs) l k n = writesL (setS (bestS xs) (l - 1).toNat (putX (bestS xs) l k n)) := if_pos h
  have e2 := put_slots xs l k n (l - 1).toNat rfl h1 h2 (by omega)
  refine ⟨(l - 1).toNat, by omega, by omega, e1, ?_⟩
  rw [e1, ← e2, best_writes]
end Go.Proofs.Ytlmilalibgehpaa
