/- Plain facts of the laws Waits, Breaks, Runs and Urgent. -/
import Derived.Test.YtojbhbifbennfaaO
namespace Go.Proofs.Ytojbhbifbennfaa
open Go.RowKit Go.Shelf

theorem first_at {p : RqD → Bool} : ∀ (qs : List RqD) (i : Nat), firstI p qs i = -1 ∨ ∃ (k : Nat) (x : RqD), firstI p qs i = ((i + k : Nat) : Int) ∧ qs[k]? = some x ∧ p x = true
  | [], _ => .inl rfl
  | x :: r, i => by
    by_cases h : p x = true
    · exact .inr ⟨0, x, by show (if p x = true then _ else _) = _; rw [if_pos h]; rfl, rfl, h⟩
    · rcases first_at r (i + 1) with h1 | ⟨k, y, h1, h2, h3⟩
      · exact .inl (by show (if p x = true then _ else _) = _; rw [if_neg h]; exact h1)
      · exact .inr ⟨k + 1, y, by show (if p x = true then _ else _) = _; rw [if_neg h, h1]; congr 1; omega, h2, h3⟩
/-- the point that a search names, if it is not the one that is on -/
theorem search_other {qs : List RqD} {on lo hi W : Int} (h : searchI qs on lo hi = W) (h1 : W ≠ on) : firstI (askB lo hi) qs 0 = W := by
  unfold searchI at h
  split at h
  · exact absurd h.symm h1
  · exact h
theorem search_free (qs : List RqD) (lo hi : Int) : searchI qs (-1) lo hi = firstI (askB lo hi) qs 0 := by
  unfold searchI; rw [hit_none]; rfl
theorem search_itself {qs : List RqD} {lo hi W : Int} (h : firstI (askB lo hi) qs 0 = W) : searchI qs W lo hi = W := by
  unfold searchI
  split
  · rfl
  · exact h
theorem search_no {qs : List RqD} {on lo hi : Int} (h : searchI qs on lo hi = -1) (hon : -1 ≤ on) : firstI (askB lo hi) qs 0 = -1 := by
  unfold searchI at h
  split at h
  · rename_i h1; subst h; rw [hit_none] at h1; cases h1
  · exact h
theorem search_stays_no {qs : List RqD} {lo hi : Int} (h : firstI (askB lo hi) qs 0 = -1) (on : Int) (hon : -1 ≤ on) : searchI qs on lo hi = -1 := by
  unfold searchI
  rw [if_neg, h]
  intro h1
  by_cases h2 : on = -1
  · subst h2; rw [hit_none] at h1; cases h1
  · obtain ⟨p, rfl⟩ : ∃ p : Nat, on = (p : Int) := ⟨on.toNat, by omega⟩
    cases hx : qs[p]? with
    | none => unfold hitB at h1; rw [if_neg h2, show ((p : Int)).toNat = p by omega, hx] at h1; cases h1
    | some x =>
      rw [hit_at lo hi hx] at h1
      have := first_none h x (List.mem_of_getElem? hx)
      rw [this] at h1; cases h1
/-- the winner that is not on wins, too, if nothing is on, and if it is on itself -/
theorem win_stays {qs : List RqD} {on W : Int} (h : winI qs on = W) (hW : W ≠ -1) (h1 : W ≠ on) (hon : -1 ≤ on) : winI qs (-1) = W ∧ winI qs W = W := by
  have hW0 : ∀ lo hi, firstI (askB lo hi) qs 0 = W → -1 ≤ W := fun lo hi h2 => by
    rcases first_at (p := askB lo hi) qs 0 with h3 | ⟨k, x, h3, _⟩ <;> omega
  unfold winI at h ⊢
  by_cases a1 : searchI qs on 1 1 ≠ -1
  · rw [if_pos a1] at h
    have f := search_other h h1
    exact ⟨by rw [search_free, f, if_pos hW], by rw [search_itself f, if_pos hW]⟩
  rw [if_neg a1] at h
  have n1 := search_no (Decidable.not_not.1 a1) hon
  by_cases a2 : searchI qs on 2 2 ≠ -1
  · rw [if_pos a2] at h
    have f := search_other h h1
    exact ⟨by rw [search_stays_no n1 (-1) (by omega), search_free qs 2 2, f, if_neg (by simp), if_pos hW], by rw [search_stays_no n1 W (hW0 _ _ f), search_itself f, if_neg (by simp), if_pos hW]⟩
  rw [if_neg a2] at h
  have n2 := search_no (Decidable.not_not.1 a2) hon
  by_cases a3 : searchI qs on 3 17 ≠ -1
  · rw [if_pos a3] at h
    have f := search_other h h1
    exact ⟨by rw [search_stays_no n1 (-1) (by omega), search_stays_no n2 (-1) (by omega), search_free qs 3 17, f, if_neg (by simp), if_neg (by simp), if_pos hW], by rw [search_stays_no n1 W (hW0 _ _ f), search_stays_no n2 W (hW0 _ _ f), search_itself f, if_neg (by simp), if_neg (by simp), if_pos hW]⟩
  rw [if_neg a3] at h
  split at h
  · exact absurd h.symm h1
  · exact absurd h.symm hW
/-- a list of levels rs what is asked -/
theorem asks_ok {ls : List Int} (h : ∀ l ∈ ls, 0 ≤ l ∧ l ≤ 18) : (ls.map askR).any noB = false := by
  rw [List.any_eq_false]
  intro x hx
  obtain ⟨l, hl, rfl⟩ := List.mem_map.1 hx
  have := h l hl
  unfold noB askR
  split
  · decide
  · simp only [Bool.or_eq_true, decide_eq_true_eq]; omega
/-- whatever wins asks -/
theorem win_asks {qs : List RqD} {on : Int} (hon : -1 ≤ on) (h : winI qs on ≠ -1) : ∃ (p : Nat) (x : RqD), winI qs on = (p : Int) ∧ qs[p]? = some x ∧ onB x.k x.n = true := by
  have key : ∀ lo hi, searchI qs on lo hi ≠ -1 → ∃ (p : Nat) (x : RqD), searchI qs on lo hi = (p : Int) ∧ qs[p]? = some x ∧ onB x.k x.n = true := fun lo hi h1 => by
    unfold searchI at h1 ⊢
    by_cases h2 : hitB qs on lo hi = true
    · rw [if_pos h2] at h1 ⊢
      obtain ⟨p, rfl⟩ : ∃ p : Nat, on = (p : Int) := ⟨on.toNat, by omega⟩
      cases hx : qs[p]? with
      | none => unfold hitB at h2; rw [if_neg h1, show ((p : Int)).toNat = p by omega, hx] at h2; cases h2
      | some x =>
        rw [hit_at lo hi hx] at h2
        refine ⟨p, x, rfl, hx, ?_⟩
        unfold askB at h2; simp only [Bool.and_eq_true] at h2; exact h2.1
    · rw [if_neg h2] at h1 ⊢
      rcases first_at (p := askB lo hi) qs 0 with h3 | ⟨k, x, h3, h4, h5⟩
      · exact absurd h3 h1
      · refine ⟨k, x, by rw [h3]; omega, h4, ?_⟩
        unfold askB at h5; simp only [Bool.and_eq_true] at h5; exact h5.1
  unfold winI at h ⊢
  split
  · rename_i a; exact key _ _ a
  rename_i a1; rw [if_neg a1] at h
  split
  · rename_i a; exact key _ _ a
  rename_i a2; rw [if_neg a2] at h
  split
  · rename_i a; exact key _ _ a
  rename_i a3; rw [if_neg a3] at h
  split
  · rename_i a4
    rw [if_pos a4] at h
    obtain ⟨p, rfl⟩ : ∃ p : Nat, on = (p : Int) := ⟨on.toNat, by omega⟩
    cases hx : qs[p]? with
    | none => unfold isAt at a4; rw [if_neg h, show ((p : Int)).toNat = p by omega, hx] at a4; cases a4
    | some x =>
      unfold isAt at a4; rw [if_neg h, show ((p : Int)).toNat = p by omega, hx] at a4
      exact ⟨p, x, rfl, hx, a4⟩
  · rename_i a4; rw [if_neg a4] at h; exact absurd rfl h
theorem check_mk {P : Nat} {dd on left : Int} {qs : List RqD} (h1 : qs.length = P) (h2 : qs.any noB = false) (h3 : on = -1 ∨ (0 ≤ on ∧ on < P)) (h4 : 0 ≤ left) (h5 : 0 ≤ dd) (h6 : dd ≤ 3600) : checkE P dd on left qs = 0 := by
  unfold checkE
  rw [if_neg (by omega), if_neg (by rw [h2]; simp), if_neg]
  unfold stateB mB dB
  have : (decide (on = -1) || (decide (0 ≤ on) && decide (on < P))) = true := by
    rcases h3 with h | ⟨h, h'⟩
    · simp [h]
    · simp [h, h']
  rw [this]; simp [h4, h5, h6]
theorem checkAt_mk {P : Nat} {dd on left now : Int} {qs : List RqD} (h : checkE P dd on left qs = 0) (h1 : 0 ≤ now) (h2 : now ≤ 6311433599) (h3 : left ≤ now) : checkAtE P dd on left qs now = 0 := by
  unfold checkAtE
  have g1 := h1; have g2 := h2; have g3 := h3
  rw [if_neg (fun e => e h), if_neg (by omega)]
theorem checkAt_two {P : Nat} {dd on left now : Int} {qs : List RqD} (h : checkE P dd on left qs = 0) (h1 : 0 ≤ now) (h2 : now ≤ 6311433599) : checkAtE P dd on left qs now = if now < left then 6 else 0 := by
  unfold checkAtE
  rw [if_neg (fun e => e h)]
  by_cases h3 : now < left
  · rw [if_pos (by omega), if_pos h3]
  · rw [if_neg (by omega), if_neg h3]
def waitT (on left dd now : Int) : Int := if on ≠ -1 then now + max dd 1 else max now (left + dd)
theorem waitT_ge {on left dd now : Int} (h : 0 ≤ dd) : now ≤ waitT on left dd now := by have := h; unfold waitT; split <;> omega
theorem waitT_le {on left dd now : Int} (h : 0 ≤ dd) (h1 : left ≤ now) : waitT on left dd now ≤ now + dd + 1 := by have := h1; unfold waitT; split <;> omega
/-- the state at an instant, if the same is asked on and on -/
structure WInv (P : Nat) (on left dd now W t o l : Int) : Prop where
  lo : now ≤ t
  hi : t ≤ waitT on left dd now + 1
  l0 : 0 ≤ l
  lt : l ≤ t
  mem : o = -1 ∨ (0 ≤ o ∧ o < P)
  st : (t = now ∧ o = on ∧ l = left) ∨ (now < t ∧ t ≤ waitT on left dd now ∧ o = -1 ∧ l = (if on = -1 then left else now)) ∨ (t = waitT on left dd now + 1 ∧ o = W)
theorem winv_start {P : Nat} {on left dd now W : Int} {qs : List RqD} (hE : checkE P dd on left qs = 0) (h1 : left ≤ now) : WInv P on left dd now W now on left := by
  obtain ⟨e1, e2, e3, e4, e5, e6⟩ := check_ok hE
  exact ⟨by omega, by have := waitT_ge (on := on) (left := left) (now := now) e5; omega, e4, h1, e3, .inl ⟨rfl, rfl, rfl⟩⟩
theorem winv_step {P : Nat} {on left dd now W t o l : Int} {qs : List RqD} (hE : checkE P dd on left qs = 0) (hn : 0 ≤ now) (hw : winI qs on = W) (hW : W ≠ -1) (hWo : W ≠ on) (h : WInv P on left dd now W t o l) (ht : t ≤ waitT on left dd now) :
    winI qs o = W ∧ checkE P dd o l qs = 0 ∧ WInv P on left dd now W (t + 1) (stepS o l dd t W).1 (stepS o l dd t W).2 ∧ winI qs (stepS o l dd t W).1 = W ∧ checkE P dd (stepS o l dd t W).1 (stepS o l dd t W).2 qs = 0 ∧ decide ((stepS o l dd t W).1 = W) = decide (t = waitT on left dd now) := by
  have hn0 := hn
  obtain ⟨e1, e2, e3, e4, e5, e6⟩ := check_ok hE
  have hon : -1 ≤ on := by omega
  obtain ⟨s1, s2⟩ := win_stays hw hW hWo hon
  obtain ⟨p, x, hp, hx, _⟩ := win_asks hon (by rw [hw]; exact hW)
  have hpl : p < qs.length := (List.getElem?_eq_some_iff.1 hx).1
  have hWp : W = (p : Int) := by rw [← hw]; exact hp
  have hwt : waitT on left dd now = if on ≠ -1 then now + max dd 1 else max now (left + dd) := rfl
  have hlo := h.lo
  have hl0 := h.l0
  have hlt := h.lt
  have hm := h.mem
  have w1 : winI qs o = W := by
    rcases h.st with ⟨_, rfl, _⟩ | ⟨_, _, rfl, _⟩ | ⟨h3, _⟩
    · exact hw
    · exact s1
    · omega
  have key : (stepS o l dd t W = (-1, l) ∧ o = -1 ∧ t < waitT on left dd now ∧ l = (if on = -1 then left else now)) ∨ (stepS o l dd t W = (-1, t) ∧ on ≠ -1 ∧ t = now) ∨ (stepS o l dd t W = (W, l) ∧ t = waitT on left dd now) := by
    unfold stepS
    rcases h.st with ⟨h2, h3, h4⟩ | ⟨h2, h5, h3, h4⟩ | ⟨h3, _⟩
    · rw [if_neg (by omega)]
      by_cases h6 : on = -1
      · rw [if_neg (by omega)]
        rw [if_neg (by omega)] at hwt
        by_cases h7 : dd ≤ t - l
        · rw [if_pos h7]; exact .inr (.inr ⟨rfl, by omega⟩)
        · rw [if_neg h7, if_pos h6]; exact .inl ⟨by rw [h3, h6], by omega, by omega, by omega⟩
      · rw [if_pos (by omega)]; exact .inr (.inl ⟨rfl, h6, h2⟩)
    · rw [if_neg (by omega), if_neg (by omega)]
      by_cases h7 : dd ≤ t - l
      · rw [if_pos h7]
        refine .inr (.inr ⟨rfl, ?_⟩)
        by_cases h6 : on = -1
        · rw [if_pos h6] at h4; rw [if_neg (by omega)] at hwt; omega
        · rw [if_neg h6] at h4; rw [if_pos h6] at hwt; omega
      · rw [if_neg h7]
        refine .inl ⟨by rw [h3], h3, ?_, h4⟩
        by_cases h6 : on = -1
        · rw [if_pos h6] at h4; rw [if_neg (by omega)] at hwt; omega
        · rw [if_neg h6] at h4; rw [if_pos h6] at hwt; omega
    · omega
  refine ⟨w1, check_mk e1 e2 hm hl0 e5 e6, ?_⟩
  rcases key with ⟨k1, k2, k3, k4⟩ | ⟨k1, k2, k3⟩ | ⟨k1, k2⟩
  · rw [k1]
    refine ⟨⟨by omega, by omega, by omega, by show l ≤ t + 1; omega, .inl rfl, .inr (.inl ⟨by omega, by omega, rfl, k4⟩)⟩, s1, check_mk e1 e2 (.inl rfl) hl0 e5 e6, ?_⟩
    rw [decide_eq_false (show ¬ (-1 : Int) = W by omega), decide_eq_false (by omega)]
  · rw [k1]
    rw [if_pos k2] at hwt
    refine ⟨⟨by omega, by omega, by show 0 ≤ t; omega, by show t ≤ t + 1; omega, .inl rfl, .inr (.inl ⟨by omega, by omega, rfl, by rw [if_neg k2]; omega⟩)⟩, s1, check_mk e1 e2 (.inl rfl) (by omega) e5 e6, ?_⟩
    rw [decide_eq_false (show ¬ (-1 : Int) = W by omega), decide_eq_false (by omega)]
  · rw [k1]
    refine ⟨⟨by omega, by omega, by show 0 ≤ l; omega, by show l ≤ t + 1; omega, .inr ⟨by show 0 ≤ W; omega, by show W < P; omega⟩, .inr (.inr ⟨by omega, rfl⟩)⟩, s2, check_mk e1 e2 (.inr ⟨by omega, by omega⟩) hl0 e5 e6, ?_⟩
    rw [decide_eq_true rfl, decide_eq_true k2]
def normO (P : Nat) (o : Int) : Int := if mB o P = true then o else -1
def breaksI (P : Nat) (dd : Int) : List Int → Nat → Int → Int → Int
  | [], _, _, _ => -1
  | o :: r, i, be, le =>
    let on := normO P o
    if i = 0 ∨ on = be then breaksI P dd r (i + 1) on le
    else if on = -1 then breaksI P dd r (i + 1) on i
    else if be ≠ -1 ∨ (le ≠ -1 ∧ (i : Int) - le < dd) then i
    else breaksI P dd r (i + 1) on le
def rbreaksI (P : Nat) (dd : Int) : List Int → Nat → Int → Int → Int
  | [], _, _, _ => -1
  | o :: r, i, la, si =>
    let on := normO P o
    if (on ≠ -1 ∧ la ≠ -1 ∧ on ≠ la ∧ (si + 1 < 2 ∨ si < dd)) ∨ (on ≠ -1 ∧ on = la ∧ 2 ≤ si + 1 ∧ si < dd) then i
    else if on ≠ -1 then rbreaksI P dd r (i + 1) on 0
    else rbreaksI P dd r (i + 1) la (si + 1)
theorem breaks_same (P : Nat) (dd : Int) : ∀ (os : List Int) (i : Nat) (be le la si : Int), (la = -1 → be = -1 ∧ le = -1) → (la ≠ -1 → 0 < i ∧ 0 ≤ si ∧ (si = 0 → be = la) ∧ (si ≠ 0 → be = -1 ∧ le = i - si ∧ le ≠ -1)) → breaksI P dd os i be le = rbreaksI P dd os i la si
  | [], _, _, _, _, _, _, _ => rfl
  | o :: r, i, be, le, la, si, h1, h2 => by
    unfold breaksI rbreaksI
    have hn : normO P o = -1 ∨ 0 ≤ normO P o := by
      unfold normO mB; split
      · rename_i h; simp only [Bool.and_eq_true, decide_eq_true_eq] at h; omega
      · exact .inl rfl
    generalize normO P o = on at hn
    show (if i = 0 ∨ on = be then breaksI P dd r (i + 1) on le else if on = -1 then breaksI P dd r (i + 1) on i else if be ≠ -1 ∨ (le ≠ -1 ∧ (i : Int) - le < dd) then (i : Int) else breaksI P dd r (i + 1) on le) = if (on ≠ -1 ∧ la ≠ -1 ∧ on ≠ la ∧ (si + 1 < 2 ∨ si < dd)) ∨ (on ≠ -1 ∧ on = la ∧ 2 ≤ si + 1 ∧ si < dd) then (i : Int) else if on ≠ -1 then rbreaksI P dd r (i + 1) on 0 else rbreaksI P dd r (i + 1) la (si + 1)
    by_cases hl : la = -1
    · obtain ⟨rfl, rfl⟩ := h1 hl
      subst hl
      rw [if_neg (show ¬ ((on ≠ -1 ∧ (-1 : Int) ≠ -1 ∧ on ≠ -1 ∧ (si + 1 < 2 ∨ si < dd)) ∨ (on ≠ -1 ∧ on = -1 ∧ 2 ≤ si + 1 ∧ si < dd)) by omega)]
      by_cases ho : on = -1
      · subst ho
        rw [if_pos (.inr rfl), if_neg (by omega)]
        exact breaks_same P dd r (i + 1) _ _ _ _ (fun _ => ⟨rfl, rfl⟩) (fun h => absurd rfl h)
      · rw [if_pos ho]
        by_cases h0 : i = 0
        · rw [if_pos (.inl h0)]
          exact breaks_same P dd r (i + 1) _ _ _ _ (fun h => absurd h ho) (fun _ => ⟨by omega, by omega, fun _ => rfl, fun h => absurd rfl h⟩)
        · rw [if_neg (by omega), if_neg ho, if_neg (by omega)]
          exact breaks_same P dd r (i + 1) _ _ _ _ (fun h => absurd h ho) (fun _ => ⟨by omega, by omega, fun _ => rfl, fun h => absurd rfl h⟩)
    · obtain ⟨g1, g2, g3, g4⟩ := h2 hl
      by_cases hs : si = 0
      · have := g3 hs
        subst this
        subst hs
        by_cases ho : on = be
        · subst ho
          rw [if_pos (.inr rfl), if_neg (by omega), if_pos hl]
          exact breaks_same P dd r (i + 1) _ _ _ _ (fun h => absurd h hl) (fun _ => ⟨by omega, by omega, fun _ => rfl, fun h => absurd rfl h⟩)
        · rw [if_neg (by omega)]
          by_cases hm : on = -1
          · rw [if_pos hm, if_neg (by omega), if_neg (by omega)]
            exact breaks_same P dd r (i + 1) _ _ _ _ (fun h => absurd h hl) (fun _ => ⟨by omega, by omega, fun h => by omega, fun _ => ⟨hm, by omega, by omega⟩⟩)
          · rw [if_neg hm, if_pos (.inl hl), if_pos (.inl ⟨hm, hl, ho, .inl (by omega)⟩)]
      · obtain ⟨g5, g6, g7⟩ := g4 hs
        subst g5
        by_cases ho : on = -1
        · subst ho
          rw [if_pos (.inr rfl), if_neg (by omega), if_neg (by omega)]
          exact breaks_same P dd r (i + 1) _ _ _ _ (fun h => absurd h hl) (fun _ => ⟨by omega, by omega, fun h => by omega, fun _ => ⟨rfl, by omega, g7⟩⟩)
        · rw [if_neg (by omega), if_neg ho]
          by_cases hd : si < dd
          · rw [if_pos (.inr ⟨g7, by omega⟩), if_pos]
            by_cases he : on = la
            · exact .inr ⟨ho, he, by omega, hd⟩
            · exact .inl ⟨ho, hl, he, .inr hd⟩
          · rw [if_neg (by omega), if_neg (by omega), if_pos ho]
            exact breaks_same P dd r (i + 1) _ _ _ _ (fun h => absurd h ho) (fun _ => ⟨by omega, by omega, fun _ => rfl, fun h => absurd rfl h⟩)
def rowA (rs : List (List Int)) (k : Nat) : List Int := (rs[k]?).getD []
/-- the state behind so many steps of a run from a restart -/
def stN (dd now : Int) (rs : List (List Int)) : Nat → Int × Int
  | 0 => (-1, now)
  | k + 1 => stepS (stN dd now rs k).1 (stN dd now rs k).2 dd (now + k) (winI ((rowA rs k).map askR) (stN dd now rs k).1)
structure FitsA (P : Nat) (dd now : Int) (rs : List (List Int)) : Prop where
  d0 : 0 ≤ dd
  d1 : dd ≤ 3600
  n0 : 0 ≤ now
  n1 : now ≤ 1000000
  len : rs.length ≤ 40
  row : ∀ a ∈ rs, a.length = P ∧ ∀ l ∈ a, 0 ≤ l ∧ l ≤ 18
theorem row_mem {rs : List (List Int)} {k : Nat} (h : k < rs.length) : rowA rs k ∈ rs := by
  unfold rowA; rw [List.getElem?_eq_getElem h]; exact List.getElem_mem h
structure StepF (P : Nat) (dd now : Int) (a : List Int) (k : Nat) (o l o' l' : Int) : Prop where
  mem : o' = -1 ∨ (0 ≤ o' ∧ o' < P)
  l0 : 0 ≤ l'
  l1 : l' ≤ now + k
  off : o ≠ -1 → o' ≠ o → o' = -1 ∧ l' = now + k
  same : (o = -1 ∨ o' = o) → l' = l
  dead : o = -1 → o' ≠ -1 → dd ≤ now + k - l
  asks : ∀ p : Nat, o' = p → ∃ x, a[p]? = some x ∧ x ≠ 0
theorem step_facts {P : Nat} {dd now : Int} {a : List Int} {k : Nat} {o l : Int} (hn : 0 ≤ now) (hr : a.length = P) (ho : o = -1 ∨ (0 ≤ o ∧ o < P)) (hl0 : 0 ≤ l) (hl : l ≤ now + k) :
    StepF P dd now a k o l (stepS o l dd (now + k) (winI (a.map askR) o)).1 (stepS o l dd (now + k) (winI (a.map askR) o)).2 := by
  obtain ⟨W, hW⟩ : ∃ W, winI (a.map askR) o = W := ⟨_, rfl⟩
  have hask : ∀ p : Nat, W = p → ∃ x, a[p]? = some x ∧ x ≠ 0 := fun p hp => by
    obtain ⟨q, x, h1, h2, h3⟩ := win_asks (qs := a.map askR) (on := o) (by omega) (by rw [hW]; omega)
    rw [hW] at h1
    obtain rfl : q = p := by omega
    rw [List.getElem?_map] at h2
    cases hx : a[q]? with
    | none => rw [hx] at h2; cases h2
    | some y =>
      rw [hx] at h2
      refine ⟨y, rfl, fun h0 => ?_⟩
      have h4 : askR y = x := by simpa using h2
      subst h0
      rw [← h4] at h3
      exact absurd h3 (by decide)
  have hWm : W = -1 ∨ (0 ≤ W ∧ W < P) := by
    by_cases h0 : W = -1
    · exact .inl h0
    · obtain ⟨q, x, h1, h2, _⟩ := win_asks (qs := a.map askR) (on := o) (by omega) (by rw [hW]; exact h0)
      have h5 := (List.getElem?_eq_some_iff.1 h2).1
      rw [List.length_map] at h5
      rw [hW] at h1
      exact .inr ⟨by omega, by omega⟩
  rw [hW]
  unfold stepS
  by_cases h1 : W = o
  · rw [if_pos h1]
    exact ⟨ho, hl0, hl, fun _ h => absurd rfl h, fun _ => rfl, fun h h' => absurd h h', fun p hp => hask p (by rw [h1]; exact hp)⟩
  · rw [if_neg h1]
    by_cases h2 : o ≠ -1
    · rw [if_pos h2]
      exact ⟨.inl rfl, by show 0 ≤ now + (k : Int); have := hn; omega, by show now + (k : Int) ≤ _; omega, fun _ _ => ⟨rfl, rfl⟩, fun h => by rcases h with h | h; exact absurd h h2; exact absurd h.symm h2, fun h _ => absurd h h2, fun p hp => by have : (-1 : Int) = p := hp; omega⟩
    · rw [if_neg h2]
      by_cases h3 : dd ≤ now + k - l
      · rw [if_pos h3]
        exact ⟨hWm, hl0, hl, fun h => absurd h h2, fun _ => rfl, fun _ _ => h3, hask⟩
      · rw [if_neg h3]
        exact ⟨ho, hl0, hl, fun h => absurd h h2, fun _ => rfl, fun h h' => absurd h h', fun p hp => by have : o = p := hp; omega⟩
theorem stN_in {P : Nat} {dd now : Int} {rs : List (List Int)} (h : FitsA P dd now rs) : ∀ k, k ≤ rs.length → ((stN dd now rs k).1 = -1 ∨ (0 ≤ (stN dd now rs k).1 ∧ (stN dd now rs k).1 < P)) ∧ 0 ≤ (stN dd now rs k).2 ∧ (stN dd now rs k).2 ≤ now + k
  | 0, _ => ⟨.inl rfl, h.n0, by show now ≤ now + ((0 : Nat) : Int); omega⟩
  | k + 1, hk => by
    obtain ⟨h1, h2, h3⟩ := stN_in h k (by omega)
    have f := step_facts (dd := dd) h.n0 (h.row _ (row_mem (k := k) (by omega))).1 h1 h2 h3
    exact ⟨f.mem, f.l0, by have := f.l1; show (stepS _ _ _ _ _).2 ≤ now + ((k + 1 : Nat) : Int); omega⟩
theorem stN_step {P : Nat} {dd now : Int} {rs : List (List Int)} (h : FitsA P dd now rs) {k : Nat} (hk : k < rs.length) : StepF P dd now (rowA rs k) k (stN dd now rs k).1 (stN dd now rs k).2 (stN dd now rs (k + 1)).1 (stN dd now rs (k + 1)).2 := by
  obtain ⟨h1, h2, h3⟩ := stN_in h k (by omega)
  exact step_facts h.n0 (h.row _ (row_mem hk)).1 h1 h2 h3
theorem stN_ok {P : Nat} {dd now : Int} {rs : List (List Int)} (h : FitsA P dd now rs) {k : Nat} (hk : k < rs.length) : checkAtE P dd (stN dd now rs k).1 (stN dd now rs k).2 ((rowA rs k).map askR) (now + k) = 0 := by
  obtain ⟨h1, h2, h3⟩ := stN_in h k (by omega)
  have hr := h.row _ (row_mem hk)
  have := h.n0; have := h.n1; have := h.len
  exact checkAt_mk (check_mk (by rw [List.length_map]; exact hr.1) (asks_ok hr.2) h1 h2 h.d0 h.d1) (by omega) (by omega) h3
/-- the states of a run, from the first step on -/
def runL (dd now : Int) (rs : List (List Int)) (n : Nat) : List (Int × Int) := (List.range n).map (fun k => stN dd now rs (k + 1))
theorem runL_succ (dd now : Int) (rs : List (List Int)) (n : Nat) : runL dd now rs (n + 1) = runL dd now rs n ++ [stN dd now rs (n + 1)] := by
  unfold runL; rw [List.range_succ, List.map_append]; rfl
theorem runL_len (dd now : Int) (rs : List (List Int)) (n : Nat) : (runL dd now rs n).length = n := by unfold runL; rw [List.length_map, List.length_range]
theorem runL_at (dd now : Int) (rs : List (List Int)) {n k : Nat} (h : k < n) : (runL dd now rs n)[k]? = some (stN dd now rs (k + 1)) := by
  unfold runL; rw [List.getElem?_map, List.getElem?_range h]; rfl
theorem normO_in {P : Nat} {o : Int} (h : o = -1 ∨ (0 ≤ o ∧ o < P)) : normO P o = o := by
  unfold normO mB
  rcases h with rfl | ⟨h1, h2⟩
  · rfl
  · rw [decide_eq_true h1, decide_eq_true h2]; rfl
theorem run_breaks {P : Nat} {dd now : Int} {rs : List (List Int)} (h : FitsA P dd now rs) : ∀ (m k : Nat) (le : Int), k + m = rs.length → (le = -1 ∨ le = (stN dd now rs k).2 - now) → breaksI P dd (((runL dd now rs rs.length).map Prod.fst).drop k) k (stN dd now rs k).1 le = -1
  | 0, k, le, hk, _ => by
    rw [List.drop_eq_nil_of_le (by rw [List.length_map, runL_len]; omega)]; rfl
  | m + 1, k, le, hk, hle => by
    have hkl : k < rs.length := by omega
    have hat : ((runL dd now rs rs.length).map Prod.fst)[k]? = some (stN dd now rs (k + 1)).1 := by
      rw [List.getElem?_map, runL_at dd now rs hkl]; rfl
    have hd : ((runL dd now rs rs.length).map Prod.fst).drop k = (stN dd now rs (k + 1)).1 :: ((runL dd now rs rs.length).map Prod.fst).drop (k + 1) := by
      obtain ⟨hk', he⟩ := List.getElem?_eq_some_iff.1 hat
      rw [← he]; exact List.drop_eq_getElem_cons hk'
    rw [hd]
    have f := stN_step h hkl
    have ih := fun le' hle' => run_breaks h m (k + 1) le' (by omega) hle'
    unfold breaksI
    show (if k = 0 ∨ normO P (stN dd now rs (k + 1)).1 = (stN dd now rs k).1 then breaksI P dd _ (k + 1) (normO P (stN dd now rs (k + 1)).1) le else if normO P (stN dd now rs (k + 1)).1 = -1 then breaksI P dd _ (k + 1) (normO P (stN dd now rs (k + 1)).1) k else if (stN dd now rs k).1 ≠ -1 ∨ (le ≠ -1 ∧ (k : Int) - le < dd) then (k : Int) else breaksI P dd _ (k + 1) (normO P (stN dd now rs (k + 1)).1) le) = -1
    rw [normO_in f.mem]
    by_cases c1 : k = 0 ∨ (stN dd now rs (k + 1)).1 = (stN dd now rs k).1
    · rw [if_pos c1]
      refine ih le ?_
      have : (stN dd now rs (k + 1)).2 = (stN dd now rs k).2 := f.same (by
        rcases c1 with rfl | c1
        · exact .inl rfl
        · exact .inr c1)
      rw [this]; exact hle
    · rw [if_neg c1]
      by_cases c2 : (stN dd now rs (k + 1)).1 = -1
      · rw [if_pos c2]
        refine ih k (.inr ?_)
        have := (f.off (by omega) (by omega)).2
        omega
      · rw [if_neg c2]
        have c3 : (stN dd now rs k).1 = -1 := by
          by_cases c4 : (stN dd now rs k).1 = -1
          · exact c4
          · exact absurd (f.off c4 (by omega)).1 c2
        have hdd := f.dead c3 c2
        rw [if_neg (by omega)]
        refine ih le ?_
        rw [f.same (.inl c3)]; exact hle
/-- the one that asks with the level 1 alone wins -/
theorem win_urgent {a : List Int} {who : Nat} {on : Int} (hw : a[who]? = some 1) (h1 : ∀ j : Nat, j ≠ who → a[j]? ≠ some 1) (ho : -1 ≤ on) : winI (a.map askR) on = who := by
  have hb : ∀ x : Int, askB 1 1 (askR x) = true → x = 1 := fun x h => by
    unfold askR at h
    split at h
    · exact absurd h (by decide)
    · unfold askB at h
      simp only [Bool.and_eq_true, decide_eq_true_eq] at h
      omega
  have hk : ∀ (k : Nat) (x : RqD), (a.map askR)[k]? = some x → askB 1 1 x = true → k = who := fun k x h h2 => by
    rw [List.getElem?_map] at h
    cases hx : a[k]? with
    | none => rw [hx] at h; cases h
    | some y =>
      rw [hx] at h
      have h3 : askR y = x := by simpa using h
      rw [← h3] at h2
      have := hb y h2
      subst this
      by_cases h4 : k = who
      · exact h4
      · exact absurd hx (h1 k h4)
  have hf : firstI (askB 1 1) (a.map askR) 0 = who := by
    rcases first_at (p := askB 1 1) (a.map askR) 0 with h | ⟨k, x, h, h2, h3⟩
    · have := first_none h (askR 1) (List.mem_of_getElem? (by rw [List.getElem?_map, hw]; rfl))
      exact absurd this (by decide)
    · rw [h, hk k x h2 h3]; omega
  have hs : searchI (a.map askR) on 1 1 = who := by
    unfold searchI
    split
    · rename_i h
      unfold hitB at h
      split at h
      · cases h
      · split at h
        · rename_i x hx
          have := hk _ x hx h
          omega
        · cases h
    · exact hf
  unfold winI
  rw [hs, if_pos (by omega)]
/-- a row, and the same one in which from a scan on one alone asks with the level 1 -/
def turnX (who : Nat) (k : Nat) (l : Int) : Int := if k = who then 1 else if l = 1 then 3 else l
def turnR (who : Nat) (a : List Int) : List Int := (List.range a.length).map (fun k => turnX who k ((a[k]?).getD 0))
def turnA (frm who : Nat) (rs : List (List Int)) : List (List Int) := (List.range rs.length).map (fun i => if frm ≤ i then turnR who (rowA rs i) else rowA rs i)
theorem turnR_len (who : Nat) (a : List Int) : (turnR who a).length = a.length := by unfold turnR; rw [List.length_map, List.length_range]
theorem turnR_at (who : Nat) (a : List Int) {k : Nat} {l : Int} (h : a[k]? = some l) : (turnR who a)[k]? = some (turnX who k l) := by
  unfold turnR
  rw [List.getElem?_map, List.getElem?_range (List.getElem?_eq_some_iff.1 h).1]
  show some (turnX who k ((a[k]?).getD 0)) = _
  rw [h]; rfl
theorem turnA_len (frm who : Nat) (rs : List (List Int)) : (turnA frm who rs).length = rs.length := by unfold turnA; rw [List.length_map, List.length_range]
theorem turnA_row (frm who : Nat) (rs : List (List Int)) {i : Nat} (h : i < rs.length) : rowA (turnA frm who rs) i = if frm ≤ i then turnR who (rowA rs i) else rowA rs i := by
  have : (turnA frm who rs)[i]? = some (if frm ≤ i then turnR who (rowA rs i) else rowA rs i) := by
    unfold turnA; rw [List.getElem?_map, List.getElem?_range h]; rfl
  show ((turnA frm who rs)[i]?).getD [] = _
  rw [this]; rfl
theorem turnR_ok {who : Nat} {a : List Int} (h : ∀ l ∈ a, 0 ≤ l ∧ l ≤ 18) : ∀ l ∈ turnR who a, 0 ≤ l ∧ l ≤ 18 := by
  intro l hl
  unfold turnR at hl
  obtain ⟨k, hk, rfl⟩ := List.mem_map.1 hl
  rw [List.mem_range] at hk
  have := h _ (List.getElem_mem hk)
  rw [List.getElem?_eq_getElem hk]
  show 0 ≤ turnX who k a[k] ∧ turnX who k a[k] ≤ 18
  unfold turnX
  split
  · omega
  · split <;> omega
theorem turnA_fits {P : Nat} {dd now : Int} {frm who : Nat} {rs : List (List Int)} (h : FitsA P dd now rs) : FitsA P dd now (turnA frm who rs) := by
  refine ⟨h.d0, h.d1, h.n0, h.n1, by rw [turnA_len]; exact h.len, fun a ha => ?_⟩
  unfold turnA at ha
  obtain ⟨i, hi, rfl⟩ := List.mem_map.1 ha
  rw [List.mem_range] at hi
  have hr := h.row _ (row_mem hi)
  split
  · exact ⟨by rw [turnR_len]; exact hr.1, turnR_ok hr.2⟩
  · exact hr
theorem urgent_win {P : Nat} {dd now : Int} {frm who : Nat} {rs : List (List Int)} (h : FitsA P dd now rs) (hw : who < P) {i : Nat} (hi : i < rs.length) (hf : frm ≤ i) (on : Int) (ho : -1 ≤ on) : winI ((rowA (turnA frm who rs) i).map askR) on = who := by
  rw [turnA_row frm who rs hi, if_pos hf]
  have hr := (h.row _ (row_mem hi)).1
  obtain ⟨l, hl⟩ : ∃ l, (rowA rs i)[who]? = some l := ⟨_, List.getElem?_eq_getElem (by omega)⟩
  refine win_urgent ((turnR_at who _ hl).trans ?_) (fun j hj hc => ?_) ho
  · unfold turnX; rw [if_pos rfl]
  · cases hx : (rowA rs i)[j]? with
    | none =>
      have := (List.getElem?_eq_some_iff.1 hc).1
      rw [turnR_len] at this
      rw [List.getElem?_eq_none_iff] at hx
      omega
    | some y =>
      rw [turnR_at who _ hx] at hc
      have : turnX who j y = 1 := by simpa using hc
      unfold turnX at this
      rw [if_neg hj] at this
      split at this <;> omega
/-- from the scan on: no other one is on; and it is on, or it waits -/
theorem urgent_inv {P : Nat} {dd now : Int} {frm who : Nat} {rs : List (List Int)} (h : FitsA P dd now rs) (hw : who < P) : ∀ m : Nat, frm + m < rs.length →
    (stN dd now (turnA frm who rs) (frm + m + 1)).1 = who ∨ ((stN dd now (turnA frm who rs) (frm + m + 1)).1 = -1 ∧ (((stN dd now (turnA frm who rs) (frm + m + 1)).2 = now + frm ∧ ((m : Int) < dd ∨ m = 0)) ∨ (((stN dd now (turnA frm who rs) (frm + m + 1)).2 = now ∨ (stN dd now (turnA frm who rs) (frm + m + 1)).2 < now + frm) ∧ now + frm + m - (stN dd now (turnA frm who rs) (frm + m + 1)).2 < dd)))
  | 0, hm => by
    have hF := turnA_fits (frm := frm) (who := who) h
    have hl : frm < (turnA frm who rs).length := by rw [turnA_len]; omega
    obtain ⟨h1, h2, h3⟩ := stN_in hF frm (by omega)
    have hwin := urgent_win (frm := frm) h hw (i := frm) (by omega) (Nat.le_refl _) (stN dd now (turnA frm who rs) frm).1 (by omega)
    have hs : stN dd now (turnA frm who rs) (frm + 1) = stepS (stN dd now (turnA frm who rs) frm).1 (stN dd now (turnA frm who rs) frm).2 dd (now + frm) who := by
      rw [← hwin]; rfl
    have hlt : (stN dd now (turnA frm who rs) frm).2 = now ∨ (stN dd now (turnA frm who rs) frm).2 < now + frm := by
      cases frm with
      | zero => exact .inl rfl
      | succ f =>
        have := (stN_step hF (k := f) (by omega)).l1
        exact .inr (by omega)
    show (stN dd now (turnA frm who rs) (frm + 1)).1 = who ∨ ((stN dd now (turnA frm who rs) (frm + 1)).1 = -1 ∧ (((stN dd now (turnA frm who rs) (frm + 1)).2 = now + frm ∧ (((0 : Nat) : Int) < dd ∨ 0 = 0)) ∨ (((stN dd now (turnA frm who rs) (frm + 1)).2 = now ∨ (stN dd now (turnA frm who rs) (frm + 1)).2 < now + frm) ∧ now + frm + ((0 : Nat) : Int) - (stN dd now (turnA frm who rs) (frm + 1)).2 < dd)))
    rw [hs]
    generalize stN dd now (turnA frm who rs) frm = s at *
    obtain ⟨o, l⟩ := s
    simp only at *
    unfold stepS
    by_cases c1 : (who : Int) = o
    · rw [if_pos c1]; exact .inl c1.symm
    · rw [if_neg c1]
      by_cases c2 : o ≠ -1
      · rw [if_pos c2]; exact .inr ⟨rfl, .inl ⟨rfl, by simp⟩⟩
      · rw [if_neg c2]
        by_cases c3 : dd ≤ now + frm - l
        · rw [if_pos c3]; exact .inl rfl
        · rw [if_neg c3]; exact .inr ⟨by omega, .inr ⟨hlt, by show now + (frm : Int) + ((0 : Nat) : Int) - l < dd; omega⟩⟩
  | m + 1, hm => by
    have ih := urgent_inv (frm := frm) h hw m (by omega)
    have hwin := urgent_win (frm := frm) (rs := rs) h hw (i := frm + m + 1) (by omega) (by omega) (stN dd now (turnA frm who rs) (frm + m + 1)).1 (by omega)
    have hs : stN dd now (turnA frm who rs) (frm + (m + 1) + 1) = stepS (stN dd now (turnA frm who rs) (frm + m + 1)).1 (stN dd now (turnA frm who rs) (frm + m + 1)).2 dd (now + ((frm + m + 1 : Nat) : Int)) who := by
      rw [← hwin]; rfl
    rw [hs]
    generalize stN dd now (turnA frm who rs) (frm + m + 1) = s at *
    obtain ⟨o, l⟩ := s
    simp only at *
    unfold stepS
    by_cases c1 : (who : Int) = o
    · rw [if_pos c1]; exact .inl c1.symm
    · rw [if_neg c1]
      have c2 : o = -1 := by omega
      rw [if_neg (by omega)]
      by_cases c3 : dd ≤ now + ((frm + m + 1 : Nat) : Int) - l
      · rw [if_pos c3]; exact .inl rfl
      · rw [if_neg c3]
        refine .inr ⟨c2, ?_⟩
        rcases ih with ih | ⟨_, ⟨h5, h6⟩ | ⟨h5, h6⟩⟩
        · omega
        · exact .inl ⟨h5, .inl (by omega)⟩
        · exact .inr ⟨h5, by show now + (frm : Int) + ((m + 1 : Nat) : Int) - l < dd; omega⟩
theorem urgent_end {P : Nat} {dd now : Int} {frm who : Nat} {rs : List (List Int)} (h : FitsA P dd now rs) (hw : who < P) {i : Nat} (hi : i < rs.length) (hf : frm ≤ i) :
    ((stN dd now (turnA frm who rs) (i + 1)).1 = -1 ∨ (stN dd now (turnA frm who rs) (i + 1)).1 = who) ∧ ((stN dd now (turnA frm who rs) (i + 1)).1 ≠ who → max 1 dd ≤ (i : Int) - frm → ¬ dd ≤ now + i - now) := by
  obtain ⟨m, rfl⟩ : ∃ m, i = frm + m := ⟨i - frm, by omega⟩
  have := urgent_inv (frm := frm) h hw m hi
  generalize stN dd now (turnA frm who rs) (frm + m + 1) = s at *
  obtain ⟨o, l⟩ := s
  simp only at *
  rcases this with h1 | ⟨h1, h2⟩
  · exact ⟨.inr h1, fun h => absurd h1 h⟩
  · refine ⟨.inl h1, fun _ h3 h4 => ?_⟩
    rcases h2 with ⟨h5, h6⟩ | ⟨h5, h6⟩ <;> omega
end Go.Proofs.Ytojbhbifbennfaa
