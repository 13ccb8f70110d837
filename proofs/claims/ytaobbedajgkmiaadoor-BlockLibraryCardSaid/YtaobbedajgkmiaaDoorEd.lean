/- Plain facts of the map of named numbers: what it holds, how many. -/
import Derived.Test.YtaobbedajgkmiaaDoorBh
namespace Go.Proofs.YtaobbedajgkmiaaDoor
open Go.RowKit Go.Shelf Go.Maps Go.WideMaps

set_option linter.unusedVariables false
set_option linter.unusedSimpArgs false
theorem keyB_inj {a b : ByteArray} (h : keyB a = keyB b) : a = b := by
  unfold keyB at h
  injection h with h
  exact bytes_inj.1 h
theorem keyB_lit (s : ByteArray) : WideAt.IsKeyLit (keyB s) := by
  unfold keyB
  first
    | trivial
    | exact rfl
    | simp [WideAt.IsKeyLit]
theorem mapD_tidy (qs : List PrmD) : ∀ k, k ≤ qs.length → Tidy (mapD qs k)
  | 0, _ => tidy_empty
  | k + 1, h => by
    obtain ⟨q, hq⟩ : ∃ q, qs[k]? = some q := ⟨_, List.getElem?_eq_getElem (by omega)⟩
    rw [mapD_succ hq]
    exact (mapD_tidy qs k (by omega)).put (keyB_lit _) _
theorem mapD_has (qs : List PrmD) (nm : ByteArray) : ∀ k, k ≤ qs.length → has (mapD qs k) (keyB nm) = (qs.take k).any (fun q => eqS q.nm nm)
  | 0, _ => rfl
  | k + 1, h => by
    obtain ⟨q, hq⟩ : ∃ q, qs[k]? = some q := ⟨_, List.getElem?_eq_getElem (by omega)⟩
    rw [mapD_succ hq, List.take_add_one, hq, Option.toList_some, List.any_append]
    by_cases e : q.nm = nm
    · rw [e, has_put_same (mapD_tidy qs k (by omega)).isMap (keyB_lit _)]
      simp [eqS, e]
    · rw [has_put_other (fun h => e (keyB_inj h).symm), mapD_has qs nm k (by omega)]
      simp [eqS, e]
/-- all names differ -/
def apartB : List PrmD → Bool
  | [] => true
  | q :: qs => !(qs.any fun p => eqS p.nm q.nm) && apartB qs
theorem apartB_snoc : ∀ (xs : List PrmD) (q : PrmD), apartB (xs ++ [q]) = (apartB xs && !(xs.any fun p => eqS p.nm q.nm))
  | [], q => by simp [apartB]
  | x :: xs, q => by
    have hc : eqS q.nm x.nm = eqS x.nm q.nm := by unfold eqS; exact decide_eq_decide.2 eq_comm
    show (!((xs ++ [q]).any fun p => eqS p.nm x.nm) && apartB (xs ++ [q])) = _
    rw [apartB_snoc xs q, List.any_append]
    show _ = ((!(xs.any fun p => eqS p.nm x.nm) && apartB xs) && !(eqS x.nm q.nm || xs.any fun p => eqS p.nm q.nm))
    simp only [List.any_cons, List.any_nil, Bool.or_false, hc]
    cases (xs.any fun p => eqS p.nm x.nm) <;> cases apartB xs <;> cases eqS x.nm q.nm <;> cases (xs.any fun p => eqS p.nm q.nm) <;> rfl
theorem mapD_size (qs : List PrmD) : ∀ k, k ≤ qs.length → size (mapD qs k) ≤ k ∧ (size (mapD qs k) = k ↔ apartB (qs.take k) = true)
  | 0, _ => ⟨Nat.le_refl _, ⟨fun _ => rfl, fun _ => rfl⟩⟩
  | k + 1, h => by
    obtain ⟨q, hq⟩ : ∃ q, qs[k]? = some q := ⟨_, List.getElem?_eq_getElem (by omega)⟩
    obtain ⟨ih1, ih2⟩ := mapD_size qs k (by omega)
    rw [mapD_succ hq, List.take_add_one, hq, Option.toList_some, apartB_snoc, size_put (mapD_tidy qs k (by omega)), mapD_has qs q.nm k (by omega)]
    cases he : ((qs.take k).any fun p => eqS p.nm q.nm) with
    | true => simp; omega
    | false => simp; exact ⟨ih1, ih2⟩
theorem mapD_at (qs : List PrmD) (nm : ByteArray) (z : DataW Unit) : ∀ k, k ≤ qs.length → apartB (qs.take k) = true → ∀ q ∈ qs.take k, q.nm = nm → (mapD qs k).atKey (keyB nm) z = .lit (.int .i64 q.v)
  | 0, _, _, q, hq, _ => by simp at hq
  | k + 1, h, hap, q, hq, hn => by
    obtain ⟨p, hp⟩ : ∃ q, qs[k]? = some q := ⟨_, List.getElem?_eq_getElem (by omega)⟩
    rw [List.take_add_one, hp, Option.toList_some] at hap hq
    rw [apartB_snoc, Bool.and_eq_true] at hap
    rw [mapD_succ hp]
    rcases List.mem_append.1 hq with hm | hm
    · have hne : ¬ p.nm = nm := fun e => by
        have h2 : ((qs.take k).any fun x => eqS x.nm p.nm) = true := List.any_eq_true.2 ⟨q, hm, decide_eq_true (by rw [hn, e])⟩
        rw [h2] at hap
        exact absurd hap.2 (by decide)
      rw [atKey_put_other (fun h => hne (keyB_inj h).symm)]
      exact mapD_at qs nm z k (by omega) hap.1 q hm hn
    · obtain rfl : q = p := by simpa using hm
      rw [← hn]
      exact atKey_put_same (mapD_tidy qs k (by omega)).isMap (keyB_lit _) _ _
theorem prm_dup (qs : List PrmD) : Maps.size (mapD qs qs.length) = qs.length ↔ apartB qs = true := by
  have h := (mapD_size qs qs.length (Nat.le_refl _)).2
  rwa [List.take_length] at h
theorem numB_given (qs : List PrmD) (h : apartB qs = true) (x : BndD) (q : PrmD) (hq : q ∈ qs) (hn : q.nm = x.nm) : numB (mapD qs qs.length) x = q.v := by
  have h1 := mapD_has qs x.nm qs.length (Nat.le_refl _)
  have h2 := mapD_at qs x.nm (.lit (.int .i64 0)) qs.length (Nat.le_refl _) (by rw [List.take_length]; exact h) q (by rw [List.take_length]; exact hq) hn
  rw [List.take_length] at h1
  unfold numB
  rw [if_pos (by rw [h1]; exact List.any_eq_true.2 ⟨q, hq, decide_eq_true hn⟩), h2]
theorem numB_default (qs : List PrmD) (x : BndD) (hn : ∀ q ∈ qs, ¬ q.nm = x.nm) : numB (mapD qs qs.length) x = x.df := by
  have h1 := mapD_has qs x.nm qs.length (Nat.le_refl _)
  rw [List.take_length] at h1
  unfold numB
  rw [if_neg]
  rw [h1]
  intro h
  obtain ⟨q, hq, he⟩ := List.any_eq_true.1 h
  exact hn q hq (of_decide_eq_true he)
theorem inB_map (f : BndD → Int) : ∀ pl : List BndD, inB pl (pl.map f) = pl.all (fun x => decide (x.lo ≤ f x ∧ f x ≤ x.hi))
  | [] => rfl
  | x :: pl => by
    rw [List.map_cons, List.all_cons, ← inB_map f pl]
    simp [inB]
/-- every given number lies in its range -/
def rangeB (pl : List BndD) (qs : List PrmD) : Bool := qs.all fun q => pl.all fun x => !(eqS x.nm q.nm) || decide (x.lo ≤ q.v ∧ q.v ≤ x.hi)
theorem prm_range (pl : List BndD) (qs : List PrmD) (h : apartB qs = true) (hd : ∀ x ∈ pl, x.lo ≤ x.df ∧ x.df ≤ x.hi) : inB pl (numsB pl (mapD qs qs.length)) = rangeB pl qs := by
  classical
  unfold numsB rangeB
  rw [inB_map, Bool.eq_iff_iff, List.all_eq_true, List.all_eq_true]
  constructor
  · intro hx q hq
    rw [List.all_eq_true]
    intro x hxp
    by_cases e : x.nm = q.nm
    · have h1 := of_decide_eq_true (hx x hxp)
      rw [numB_given qs h x q hq e.symm] at h1
      rw [decide_eq_true h1, Bool.or_true]
    · rw [show eqS x.nm q.nm = false from decide_eq_false e]; rfl
  · intro hq x hxp
    apply decide_eq_true
    by_cases e : ∃ q ∈ qs, q.nm = x.nm
    · obtain ⟨q, hqm, hqn⟩ := e
      rw [numB_given qs h x q hqm hqn]
      have h1 := List.all_eq_true.1 (hq q hqm) x hxp
      rw [show eqS x.nm q.nm = true from decide_eq_true hqn.symm] at h1
      exact of_decide_eq_true (by simpa using h1)
    · rw [numB_default qs x (fun q hqm hqn => e ⟨q, hqm, hqn⟩)]
      exact hd x hxp
/-- the error of Params, told by the given numbers alone -/
theorem prm_told (pl : List BndD) (qs : List PrmD) (ag : List Int → Bool) (hd : ∀ x ∈ pl, x.lo ≤ x.df ∧ x.df ≤ x.hi) : prmE pl qs ag = if knownB pl qs = false then 3 else if apartB qs = false then 5 else if rangeB pl qs = false then 6 else if ag (numsB pl (mapD qs qs.length)) = false then 10 else 0 := by
  unfold prmE
  by_cases h1 : knownB pl qs = false
  · rw [if_pos h1, if_pos h1]
  · rw [if_neg h1, if_neg h1]
    cases h2 : apartB qs with
    | false => rw [if_pos (fun h => by rw [(prm_dup qs).1 h] at h2; cases h2), if_pos rfl]
    | true => rw [if_neg (fun h => h ((prm_dup qs).2 h2)), prm_range pl qs h2 hd, if_neg (show ¬ (true = false) by decide)]
end Go.Proofs.YtaobbedajgkmiaaDoor
