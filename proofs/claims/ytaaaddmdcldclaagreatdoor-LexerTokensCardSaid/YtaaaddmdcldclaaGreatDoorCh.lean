/- Plain facts: a text cut at a sign into parts of digits, against the form of a text. No Go. -/
import Derived.Test.YtaaaddmdcldclaaGreatDoorCg
namespace Go.Proofs.YtaaaddmdcldclaaGreatDoor.Cv
open Go.RowKit

/-- a list cut at a byte -/
def cutL (c : UInt8) : List UInt8 → List (List UInt8)
  | [] => [[]]
  | b :: l => if b = c then [] :: cutL c l else match cutL c l with
    | [] => [[b]]
    | p :: ps => (b :: p) :: ps
theorem cutL_ne (c : UInt8) : ∀ l, cutL c l ≠ []
  | [] => by simp [cutL]
  | b :: l => by
    unfold cutL
    split
    · simp
    · split <;> simp
theorem cutL_none (c : UInt8) : ∀ l : List UInt8, (∀ b ∈ l, b ≠ c) → cutL c l = [l]
  | [], _ => rfl
  | b :: l, h => by
    have h1 := cutL_none c l (fun x hx => h x (List.mem_cons_of_mem _ hx))
    unfold cutL
    rw [if_neg (h b List.mem_cons_self), h1]
theorem cutL_hit (c : UInt8) (r : List UInt8) : ∀ a : List UInt8, (∀ b ∈ a, b ≠ c) → cutL c (a ++ c :: r) = a :: cutL c r
  | [], _ => by
    show cutL c (c :: r) = _
    rw [cutL, if_pos rfl]
  | b :: a, h => by
    have h1 := cutL_hit c r a (fun x hx => h x (List.mem_cons_of_mem _ hx))
    show cutL c (b :: (a ++ c :: r)) = _
    rw [cutL, if_neg (h b List.mem_cons_self), h1]
/-- the parts put together again -/
def joinL (c : UInt8) : List (List UInt8) → List UInt8
  | [] => []
  | [p] => p
  | p :: q :: ps => p ++ c :: joinL c (q :: ps)
theorem joinL_cut (c : UInt8) : ∀ l, joinL c (cutL c l) = l
  | [] => rfl
  | b :: l => by
    have ih := joinL_cut c l
    have hne := cutL_ne c l
    unfold cutL
    by_cases hb : b = c
    · rw [if_pos hb]
      cases hc : cutL c l with
      | nil => exact absurd hc hne
      | cons p ps => rw [hc] at ih; show [] ++ c :: joinL c (p :: ps) = _; rw [ih, hb]; rfl
    · rw [if_neg hb]
      cases hc : cutL c l with
      | nil => exact absurd hc hne
      | cons p ps =>
        rw [hc] at ih
        show joinL c ((b :: p) :: ps) = _
        cases ps with
        | nil => show b :: p = _; rw [← ih]; rfl
        | cons q qs => show b :: p ++ c :: joinL c (q :: qs) = _; rw [← ih]; rfl

theorem splitK_cut (c : UInt8) : ∀ (n : Nat) (l : List UInt8), l.length ≤ n → Lib.splitK [c] 0 (Lib.count l [c]) l = cutL c l := by
  intro n
  induction n with
  | zero =>
    intro l h
    have e : l = [] := List.eq_nil_of_length_eq_zero (by omega)
    subst e
    rw [Lib.count_miss (by simp [Lib.index])]; rfl
  | succ n ih =>
    intro l h
    by_cases hm : Lib.index l [c] = -1
    · rw [Lib.count_miss hm]
      rw [Lib.index_one] at hm
      have h2 := Lib.indexByte_none hm
      rw [cutL_none c l (fun b hb e => by
        obtain ⟨k, hk⟩ := List.getElem?_of_mem hb
        exact h2 k (by rw [hk, e]))]
      rfl
    · have hge := Lib.index_ge l [c]
      obtain ⟨i, hi⟩ : ∃ i : Nat, Lib.index l [c] = i := ⟨(Lib.index l [c]).toNat, by omega⟩
      have hi2 := hi
      rw [Lib.index_one] at hi2
      obtain ⟨h1, h2⟩ := Lib.indexByte_some hi2
      have hlt : i < l.length := by
        rcases Nat.lt_or_ge i l.length with h | h
        · exact h
        · rw [List.getElem?_eq_none h] at h1; cases h1
      have hl : l = l.take i ++ c :: l.drop (i + 1) := by
        have e := List.take_append_drop i l
        rw [List.drop_eq_getElem_cons hlt] at e
        rw [List.getElem?_eq_getElem hlt] at h1
        rw [Option.some.inj h1] at e
        exact e.symm
      rw [Lib.count_hit (by simp) hi, Nat.add_comm 1]
      unfold Lib.splitK
      rw [hi, if_neg (by simp)]
      show l.take ((i : Int).toNat + 0) :: Lib.splitK [c] 0 (Lib.count (l.drop (i + 1)) [c]) (l.drop ((i : Int).toNat + 1)) = _
      rw [Int.toNat_natCast, Nat.add_zero, ih (l.drop (i + 1)) (by rw [List.length_drop]; omega)]
      conv => rhs; rw [hl]
      rw [cutL_hit c _ _ (fun b hb e => by
        obtain ⟨k, hk⟩ := List.getElem?_of_mem hb
        rw [List.getElem?_take] at hk
        split at hk
        · rename_i hki
          exact h2 k hki (by rw [hk, e])
        · cases hk)]
theorem parts_cut (s : ByteArray) (c : UInt8) : (partsB s c).map (·.data.toList) = cutL c s.data.toList := by
  unfold partsB
  rw [Lib.splitB_data]
  exact splitK_cut c _ _ (Nat.le_refl _)

theorem parts_at (s : ByteArray) (c : UInt8) (i : Nat) : ((partsB s c).getD i ⟨#[]⟩).data.toList = (cutL c s.data.toList).getD i [] := by
  rw [← parts_cut]
  simp only [List.getD, List.getElem?_map]
  cases (partsB s c)[i]? <;> rfl
theorem parts_len (s : ByteArray) (c : UInt8) : (partsB s c).length = (cutL c s.data.toList).length := by rw [← parts_cut, List.length_map]

/-- a byte against a byte of a form -/
def fitB (b f : UInt8) : Bool := if f = 48 then decide (48 ≤ b.toNat) && decide (b.toNat ≤ 57) else b == f
/-- what has a form -/
def formL (l f : List UInt8) : Bool := decide (l.length = f.length) && (List.range f.length).all fun i => fitB (l.getD i 0) (f.getD i 0)

theorem okP_cut (s : ByteArray) (c : UInt8) (ws : List Nat) : okP (partsB s c) ws = (decide ((cutL c s.data.toList).length = ws.length) && (List.range ws.length).all fun i => ((cutL c s.data.toList).getD i []).length == ws.getD i 0 && digs ((cutL c s.data.toList).getD i [])) := by
  unfold okP okK
  rw [parts_len]
  congr 2
  funext i
  rw [← parts_at, ← Lib.size_eq]

theorem digs_ne {l : List UInt8} (h : digs l = true) {c : UInt8} (hc : c.toNat < 48 ∨ 57 < c.toNat) : ∀ b ∈ l, b ≠ c := by
  intro b hb e
  subst e
  unfold digs at h
  rw [List.all_eq_true] at h
  have := h b hb
  rw [Bool.and_eq_true, decide_eq_true_eq, decide_eq_true_eq] at this
  omega

theorem list4 {l : List UInt8} (h : l.length = 4) : ∃ a b c d, l = [a, b, c, d] := by
  match l, h with
  | [a, b, c, d], _ => exact ⟨a, b, c, d, rfl⟩
theorem list2 {l : List UInt8} (h : l.length = 2) : ∃ a b, l = [a, b] := by
  match l, h with
  | [a, b], _ => exact ⟨a, b, rfl⟩
theorem list3s {l : List (List UInt8)} (h : l.length = 3) : ∃ a b c, l = [a, b, c] := by
  match l, h with
  | [a, b, c], _ => exact ⟨a, b, c, rfl⟩
theorem list2s {l : List (List UInt8)} (h : l.length = 2) : ∃ a b, l = [a, b] := by
  match l, h with
  | [a, b], _ => exact ⟨a, b, rfl⟩
theorem list10 {l : List UInt8} (h : l.length = 10) : ∃ a b c d e f g h i j, l = [a, b, c, d, e, f, g, h, i, j] := by
  match l, h with
  | [a, b, c, d, e, f, g, h, i, j], _ => exact ⟨a, b, c, d, e, f, g, h, i, j, rfl⟩
theorem list5 {l : List UInt8} (h : l.length = 5) : ∃ a b c d e, l = [a, b, c, d, e] := by
  match l, h with
  | [a, b, c, d, e], _ => exact ⟨a, b, c, d, e, rfl⟩

def dateF : List UInt8 := [48, 48, 48, 48, 45, 48, 48, 45, 48, 48]
def clockF : List UInt8 := [48, 48, 58, 48, 48]

theorem date_form (a b c d e f g h i j : UInt8) : formL [a, b, c, d, e, f, g, h, i, j] dateF = true ↔ digs [a, b, c, d] = true ∧ e = 45 ∧ digs [f, g] = true ∧ h = 45 ∧ digs [i, j] = true := by
  simp [formL, dateF, fitB, digs, List.range, List.range.loop]
  constructor
  · intro hh; obtain ⟨h1, h2, h3, h4, h5, h6, h7, h8, h9, h10⟩ := hh; simp_all
  · intro hh; obtain ⟨⟨h1, h2, h3, h4⟩, h5, ⟨h6, h7⟩, h8, h9, h10⟩ := hh; simp_all
theorem clock_form (a b c d e : UInt8) : formL [a, b, c, d, e] clockF = true ↔ digs [a, b] = true ∧ c = 58 ∧ digs [d, e] = true := by
  simp [formL, clockF, fitB, digs, List.range, List.range.loop]
  constructor
  · intro hh; obtain ⟨h1, h2, h3, h4, h5⟩ := hh; simp_all
  · intro hh; obtain ⟨⟨h1, h2⟩, h5, h6, h7⟩ := hh; simp_all

theorem date_ok (s : ByteArray) : okP (partsB s 45) [4, 2, 2] = formL s.data.toList dateF := by
  rw [okP_cut, Bool.eq_iff_iff]
  constructor
  · intro h
    rw [Bool.and_eq_true, decide_eq_true_eq] at h
    obtain ⟨p, q, r, hp⟩ := list3s h.1
    have hj := joinL_cut 45 s.data.toList
    rw [hp] at hj h
    have h2 := h.2
    simp [List.range, List.range.loop] at h2
    obtain ⟨⟨l1, d1⟩, ⟨l2, d2⟩, l3, d3⟩ := h2
    obtain ⟨a, b, c, d, rfl⟩ := list4 l1
    obtain ⟨e, f, rfl⟩ := list2 l2
    obtain ⟨g, i, rfl⟩ := list2 l3
    rw [← hj]
    exact (date_form a b c d 45 e f 45 g i).2 ⟨d1, rfl, d2, rfl, d3⟩
  · intro h
    have hl : s.data.toList.length = 10 := by unfold formL at h; rw [Bool.and_eq_true, decide_eq_true_eq] at h; exact h.1
    obtain ⟨a, b, c, d, e, f, g, k, i, j, hs⟩ := list10 hl
    rw [hs] at h ⊢
    obtain ⟨d1, rfl, d2, rfl, d3⟩ := (date_form a b c d e f g k i j).1 h
    have e1 : cutL 45 ([a, b, c, d] ++ 45 :: ([f, g] ++ 45 :: [i, j])) = [[a, b, c, d], [f, g], [i, j]] := by
      rw [cutL_hit 45 _ _ (digs_ne d1 (.inl (by decide))), cutL_hit 45 _ _ (digs_ne d2 (.inl (by decide))), cutL_none 45 _ (digs_ne d3 (.inl (by decide)))]
    have e2 : cutL 45 [a, b, c, d, 45, f, g, 45, i, j] = [[a, b, c, d], [f, g], [i, j]] := e1
    rw [e2]
    simp [List.range, List.range.loop, d1, d2, d3]
theorem date_vals (s : ByteArray) (h : formL s.data.toList dateF = true) : valP (partsB s 45) 0 = (numL (s.data.toList.take 4) : Nat) ∧ valP (partsB s 45) 1 = (numL ((s.data.toList.take 7).drop 5) : Nat) ∧ valP (partsB s 45) 2 = (numL (s.data.toList.drop 8) : Nat) ∧
    digs (s.data.toList.take 4) = true ∧ digs ((s.data.toList.take 7).drop 5) = true ∧ digs (s.data.toList.drop 8) = true ∧ s.data.toList.length = 10 := by
  have hl : s.data.toList.length = 10 := by unfold formL at h; rw [Bool.and_eq_true, decide_eq_true_eq] at h; exact h.1
  obtain ⟨a, b, c, d, e, f, g, k, i, j, hs⟩ := list10 hl
  unfold valP
  rw [parts_at, parts_at, parts_at]
  rw [hs] at h ⊢
  obtain ⟨d1, rfl, d2, rfl, d3⟩ := (date_form a b c d e f g k i j).1 h
  have e1 : cutL 45 ([a, b, c, d] ++ 45 :: ([f, g] ++ 45 :: [i, j])) = [[a, b, c, d], [f, g], [i, j]] := by
    rw [cutL_hit 45 _ _ (digs_ne d1 (.inl (by decide))), cutL_hit 45 _ _ (digs_ne d2 (.inl (by decide))), cutL_none 45 _ (digs_ne d3 (.inl (by decide)))]
  have e2 : cutL 45 [a, b, c, d, 45, f, g, 45, i, j] = [[a, b, c, d], [f, g], [i, j]] := e1
  rw [e2]
  exact ⟨rfl, rfl, rfl, d1, d2, d3, rfl⟩
theorem clock_ok (s : ByteArray) : okP (partsB s 58) [2, 2] = formL s.data.toList clockF := by
  rw [okP_cut, Bool.eq_iff_iff]
  constructor
  · intro h
    rw [Bool.and_eq_true, decide_eq_true_eq] at h
    obtain ⟨p, q, hp⟩ := list2s h.1
    have hj := joinL_cut 58 s.data.toList
    rw [hp] at hj h
    have h2 := h.2
    simp [List.range, List.range.loop] at h2
    obtain ⟨⟨l1, d1⟩, l2, d2⟩ := h2
    obtain ⟨a, b, rfl⟩ := list2 l1
    obtain ⟨e, f, rfl⟩ := list2 l2
    rw [← hj]
    exact (clock_form a b 58 e f).2 ⟨d1, rfl, d2⟩
  · intro h
    have hl : s.data.toList.length = 5 := by unfold formL at h; rw [Bool.and_eq_true, decide_eq_true_eq] at h; exact h.1
    obtain ⟨a, b, c, d, e, hs⟩ := list5 hl
    rw [hs] at h ⊢
    obtain ⟨d1, rfl, d2⟩ := (clock_form a b c d e).1 h
    have e1 : cutL 58 ([a, b] ++ 58 :: [d, e]) = [[a, b], [d, e]] := by
      rw [cutL_hit 58 _ _ (digs_ne d1 (.inr (by decide))), cutL_none 58 _ (digs_ne d2 (.inr (by decide)))]
    have e2 : cutL 58 [a, b, 58, d, e] = [[a, b], [d, e]] := e1
    rw [e2]
    simp [List.range, List.range.loop, d1, d2]
theorem clock_vals (s : ByteArray) (h : formL s.data.toList clockF = true) : valP (partsB s 58) 0 = (numL (s.data.toList.take 2) : Nat) ∧ valP (partsB s 58) 1 = (numL (s.data.toList.drop 3) : Nat) ∧
    digs (s.data.toList.take 2) = true ∧ digs (s.data.toList.drop 3) = true ∧ s.data.toList.length = 5 := by
  have hl : s.data.toList.length = 5 := by unfold formL at h; rw [Bool.and_eq_true, decide_eq_true_eq] at h; exact h.1
  obtain ⟨a, b, c, d, e, hs⟩ := list5 hl
  unfold valP
  rw [parts_at, parts_at]
  rw [hs] at h ⊢
  obtain ⟨d1, rfl, d2⟩ := (clock_form a b c d e).1 h
  have e1 : cutL 58 ([a, b] ++ 58 :: [d, e]) = [[a, b], [d, e]] := by
    rw [cutL_hit 58 _ _ (digs_ne d1 (.inr (by decide))), cutL_none 58 _ (digs_ne d2 (.inr (by decide)))]
  have e2 : cutL 58 [a, b, 58, d, e] = [[a, b], [d, e]] := e1
  rw [e2]
  exact ⟨rfl, rfl, d1, d2, rfl⟩
end Go.Proofs.YtaaaddmdcldclaaGreatDoor.Cv
