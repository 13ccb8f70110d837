/- Plain: a line that goes on with blanks or a comment is scanned alike. -/
import Derived.Test.YtaaaddmdcldclaaGreatDoorPc
import Derived.Test.YtaaaddmdcldclaaGreatDoorNu
namespace Go.Proofs.YtaaaddmdcldclaaGreatDoor
open Go.RowKit Go.Shelf
set_option linter.unusedVariables false

theorem app_ext (a x : ByteArray) {m : Nat} (h : m ≤ a.size) : (a ++ x).extract 0 m = a.extract 0 m := by
  refine Fx.bytes_ext ?_
  rw [Lib.extract_from_zero, Lib.extract_from_zero, app_data, List.take_append_of_le_length (by rw [← size_list]; exact h)]
theorem app_from (s x : ByteArray) {p : Nat} (h : p ≤ s.size) : (s ++ x).extract p (s ++ x).size = s.extract p s.size ++ x := by
  refine Fx.bytes_ext ?_
  rw [Lib.extract_to_end, app_data, app_data, Lib.extract_to_end, List.drop_append_of_le_length (by rw [← size_list]; exact h)]
theorem app_first (a x : ByteArray) (h : x.size ≠ 0) : byteI (a ++ x) a.size = byteI x 0 := by
  have := app_right a x (k := 0) (by omega)
  rwa [Nat.add_zero] at this
/-- what ends a token: nothing, a blank, or the sign of a comment -/
def EndB (x : ByteArray) : Prop := x.size = 0 ∨ byteI x 0 = 32 ∨ byteI x 0 = 35
theorem endB_not {x : ByteArray} (h : EndB x) (h0 : x.size ≠ 0) : wordB (byteI x 0) = false ∧ plainRunB (byteI x 0) = false ∧ byteI x 0 ≠ 58 ∧ digB (byteI x 0) = false := by
  rcases h with h | h | h
  · exact absurd h h0
  · rw [h]; exact ⟨by decide, by decide, by decide, by decide⟩
  · rw [h]; exact ⟨by decide, by decide, by decide, by decide⟩
theorem word_ext {a x : ByteArray} (h0 : 0 < a.size) (hx : EndB x) : wordN (a ++ x) = wordN a := by
  have hb := runF_le (fun k => wordB (byteI a k)) (a.size - 1) 1
  have hs := runF_spec (fun k => wordB (byteI a k)) (a.size - 1) 1
  replace hb : wordN a ≤ 1 + (a.size - 1) ∧ 1 ≤ wordN a := hb
  replace hs : (∀ j, 1 ≤ j → j < wordN a → wordB (byteI a j) = true) ∧ (wordN a = 1 + (a.size - 1) ∨ wordB (byteI a (wordN a)) = false) := hs
  generalize wordN a = m at *
  have hz : (a ++ x).size = a.size + x.size := ByteArray.size_append
  unfold wordN
  refine runF_eq (by omega) (by omega) (fun j h1 h2 => by rw [app_left a x (by omega)]; exact hs.1 j h1 h2) ?_
  by_cases hm : m < a.size
  · right
    rw [app_left a x hm]
    rcases hs.2 with h | h
    · omega
    · exact h
  · by_cases hx0 : x.size = 0
    · left; omega
    · right
      rw [show m = a.size by omega, app_first a x hx0]
      exact (endB_not hx hx0).1
theorem run_ext {a x : ByteArray} (h0 : 0 < a.size) (hx : EndB x) : runN (a ++ x) = runN a := by
  have hb := runF_le (fun k => runB a k) (a.size - 1) 1
  have hs := runF_spec (fun k => runB a k) (a.size - 1) 1
  replace hb : runN a ≤ 1 + (a.size - 1) ∧ 1 ≤ runN a := hb
  replace hs : (∀ j, 1 ≤ j → j < runN a → runB a j = true) ∧ (runN a = 1 + (a.size - 1) ∨ runB a (runN a) = false) := hs
  generalize runN a = m at *
  have hz : (a ++ x).size = a.size + x.size := ByteArray.size_append
  have hyes : ∀ j, 1 ≤ j → j < a.size → runB a j = true → runB (a ++ x) j = true := fun j h1 h2 h => by
    unfold runB at h ⊢
    rw [app_left a x h2]
    by_cases h58 : byteI a j = 58
    · rw [if_pos h58] at h ⊢
      unfold colonB at h ⊢
      simp only [Bool.and_eq_true, decide_eq_true_eq] at h
      rw [app_left a x (by omega), app_left a x h.1.2, h.1.1, h.2, decide_eq_true (by omega)]
      rfl
    · rw [if_neg h58] at h ⊢
      exact h
  have hno : ∀ j, 1 ≤ j → j < a.size → runB a j = false → runB (a ++ x) j = false := fun j h1 h2 h => by
    unfold runB at h ⊢
    rw [app_left a x h2]
    by_cases h58 : byteI a j = 58
    · rw [if_pos h58] at h ⊢
      unfold colonB at h ⊢
      rw [app_left a x (show j - 1 < a.size by omega)]
      by_cases hlt : j + 1 < a.size
      · rw [decide_eq_true hlt] at h
        rw [app_left a x hlt, decide_eq_true (by omega)]
        exact h
      · by_cases hx0 : x.size = 0
        · rw [decide_eq_false (by omega)]; simp
        · rw [show j + 1 = a.size by omega, app_first a x hx0, (endB_not hx hx0).2.2.2]; simp
    · rw [if_neg h58] at h ⊢
      exact h
  unfold runN
  refine runF_eq (by omega) (by omega) (fun j h1 h2 => hyes j h1 (by omega) (hs.1 j h1 h2)) ?_
  by_cases hm : m < a.size
  · right
    rcases hs.2 with h | h
    · omega
    · exact hno m (by omega) hm h
  · by_cases hx0 : x.size = 0
    · left; omega
    · right
      rw [show m = a.size by omega]
      unfold runB
      rw [app_first a x hx0, if_neg (endB_not hx hx0).2.2.1]
      exact (endB_not hx hx0).2.1
theorem read_ext {a x : ByteArray} (h0 : 0 < a.size) (h34 : byteI a 0 ≠ 34) (hx : EndB x) : readR (a ++ x) = readR a := by
  have hb := runF_le (fun k => wordB (byteI a k)) (a.size - 1) 1
  replace hb : wordN a ≤ 1 + (a.size - 1) ∧ 1 ≤ wordN a := hb
  have hr := runF_le (fun k => runB a k) (a.size - 1) 1
  replace hr : runN a ≤ 1 + (a.size - 1) ∧ 1 ≤ runN a := hr
  have hrs : runS (a ++ x) = runS a := by unfold runS; rw [run_ext h0 hx, app_ext a x (by omega)]
  unfold readR
  rw [app_left a x h0, if_neg (c := byteI a 0 = 34) h34, if_neg (c := byteI a 0 = 34) h34]
  unfold wordR runR signR
  rw [word_ext h0 hx, run_ext h0 hx, hrs, app_left a x h0, app_ext a x (show wordN a ≤ a.size by omega), app_ext a x (show 1 ≤ a.size by omega)]
theorem blank_spec (s : ByteArray) (p : Nat) : (∀ j, p ≤ j → j < blankN s p → byteI s j = 32) ∧ (blankN s p = p + (s.size - p) ∨ byteI s (blankN s p) ≠ 32) := by
  have hs := runF_spec (fun k => blankB (byteI s k)) (s.size - p) p
  replace hs : (∀ j, p ≤ j → j < blankN s p → blankB (byteI s j) = true) ∧ (blankN s p = p + (s.size - p) ∨ blankB (byteI s (blankN s p)) = false) := hs
  unfold blankB at hs
  simpa using hs
theorem blank_eq {s : ByteArray} {p m : Nat} (h1 : p ≤ m) (h2 : m ≤ s.size) (h3 : ∀ j, p ≤ j → j < m → byteI s j = 32) (h4 : m = s.size ∨ byteI s m ≠ 32) : blankN s p = m := by
  unfold blankN
  refine runF_eq h1 (by omega) (fun j a b => by unfold blankB; exact decide_eq_true (h3 j a b)) ?_
  rcases h4 with h4 | h4
  · exact .inl (by omega)
  · exact .inr (by unfold blankB; exact decide_eq_false h4)
/-- one scan like another, with this comment -/
structure Like (V V' : ScV) (cmt : ByteArray) : Prop where
  ind : V'.ind = V.ind
  L : V'.L = V.L
  hd : V'.hd = V.hd
  code : V'.code = V.code
  col : V'.col = V.col
  cm : V.code = 0 → V'.cm = cmt
theorem like_colon (i : Nat) (L : List TkF) (cmt : ByteArray) : Like (colonS i L ⟨#[]⟩) (colonS i L cmt) cmt := by
  unfold colonS
  split
  · exact ⟨rfl, rfl, rfl, rfl, rfl, fun _ => rfl⟩
  · split
    · split
      · exact ⟨rfl, rfl, rfl, rfl, rfl, fun h => absurd (show (2 : Int) = 0 from h) (by decide)⟩
      · exact ⟨rfl, rfl, rfl, rfl, rfl, fun _ => rfl⟩
    · exact ⟨rfl, rfl, rfl, rfl, rfl, fun _ => rfl⟩
theorem like_bad (p : Nat) (e : Int) (he : e ≠ 0) (cmt : ByteArray) : Like (badS p e) (badS p e) cmt := ⟨rfl, rfl, rfl, rfl, rfl, fun h => absurd h he⟩
theorem scan_like {s x : ByteArray} {E : Nat} {cmt : ByteArray} (hno : ∀ k, k < s.size → byteI s k ≠ 35 ∧ byteI s k ≠ 34) (hx : EndB x) (hE1 : s.size ≤ E) (hE2 : E ≤ (s ++ x).size) (hE3 : ∀ j, s.size ≤ j → j < E → byteI (s ++ x) j = 32) (hE4 : (E = (s ++ x).size ∧ cmt = ⟨#[]⟩) ∨ (E < (s ++ x).size ∧ byteI (s ++ x) E = 35 ∧ cmt = (s ++ x).extract (E + 1) (s ++ x).size)) :
    ∀ (f f' p0 : Nat) (L : List TkF) (i : Nat), p0 ≤ s.size → s.size + 1 ≤ p0 + f → (s ++ x).size + 1 ≤ p0 + f' → Like (scanF f s (blankN s p0) L i) (scanF f' (s ++ x) (blankN (s ++ x) p0) L i) cmt := by
  intro f
  induction f with
  | zero => intro f' p0 L i h1 h2 _; omega
  | succ f ih =>
    intro f' p0 L i h1 h2 h3
    have hz : (s ++ x).size = s.size + x.size := ByteArray.size_append
    obtain ⟨f', rfl⟩ : ∃ g, f' = g + 1 := ⟨f' - 1, by omega⟩
    have hbs := blank_spec s p0
    have hbl := blank_le s p0 h1
    by_cases hp : blankN s p0 < s.size
    · have hne : byteI s (blankN s p0) ≠ 32 := by
        rcases hbs.2 with h | h
        · omega
        · exact h
      have hb' : blankN (s ++ x) p0 = blankN s p0 := blank_eq hbl.1 (by omega) (fun j a b => by rw [app_left s x (by omega)]; exact hbs.1 j a b) (.inr (by rw [app_left s x hp]; exact hne))
      rw [hb']
      generalize blankN s p0 = p at *
      have ha : (s.extract p s.size).size = s.size - p := by rw [ByteArray.size_extract]; omega
      have hb0 : byteI (s.extract p s.size) 0 = byteI s p := by
        rw [byteI_at (by omega), byteI_at hp, ByteArray.getElem_extract]
        simp
      have hrd : readR ((s ++ x).extract p (s ++ x).size) = readR (s.extract p s.size) := by
        rw [app_from s x (by omega)]
        exact read_ext (by omega) (by rw [hb0]; exact (hno p hp).2) hx
      unfold scanF
      rw [if_pos hp, if_pos (show p < (s ++ x).size by omega), app_left s x hp, if_neg (hno p hp).1, if_neg (hno p hp).1, hrd]
      have hlen := fun h => readR_len (s := s.extract p s.size) (by omega) h
      by_cases c1 : L.length = 0 ∧ indE p ≠ 0
      · rw [if_pos c1, if_pos c1]; exact like_bad _ _ c1.2 _
      rw [if_neg c1, if_neg c1]
      by_cases c2 : L.length = 64
      · rw [if_pos c2, if_pos c2]; exact like_bad _ _ (by decide) _
      rw [if_neg c2, if_neg c2]
      by_cases c3 : (readR (s.extract p s.size)).c ≠ 0
      · rw [if_pos c3, if_pos c3]; exact like_bad _ _ c3 _
      rw [if_neg c3, if_neg c3]
      have hl := hlen (by simpa using c3)
      exact ih f' _ _ _ (by omega) (by omega) (by omega)
    · have hpe : blankN s p0 = s.size := by omega
      have hb' : blankN (s ++ x) p0 = E := blank_eq (by omega) hE2 (fun j a b => by
        by_cases hj : j < s.size
        · rw [app_left s x hj]; exact hbs.1 j a (by omega)
        · exact hE3 j (by omega) b) (by
        rcases hE4 with h | h
        · exact .inl h.1
        · exact .inr (by rw [h.2.1]; decide))
      rw [hb', scan_stop hp]
      rcases hE4 with ⟨h4, h5⟩ | ⟨h4, h5, h6⟩
      · rw [scan_stop (by omega), h5]
        exact like_colon i L _
      · unfold scanF
        rw [if_pos h4, if_pos h5, ← h6]
        exact like_colon i L _
theorem scanS_like {s x : ByteArray} {E : Nat} {cmt : ByteArray} (hz : (s ++ x).size ≤ 1000) (hno : ∀ k, k < s.size → byteI s k ≠ 35 ∧ byteI s k ≠ 34) (hx : EndB x) (hE1 : s.size ≤ E) (hE2 : E ≤ (s ++ x).size) (hE3 : ∀ j, s.size ≤ j → j < E → byteI (s ++ x) j = 32) (hE4 : (E = (s ++ x).size ∧ cmt = ⟨#[]⟩) ∨ (E < (s ++ x).size ∧ byteI (s ++ x) E = 35 ∧ cmt = (s ++ x).extract (E + 1) (s ++ x).size)) : Like (scanS s) (scanS (s ++ x)) cmt := by
  have hs : (s ++ x).size = s.size + x.size := ByteArray.size_append
  unfold scanS
  rw [if_neg (by omega), if_neg (by omega)]
  exact scan_like hno hx hE1 hE2 hE3 hE4 _ _ 0 [] 0 (Nat.zero_le _) (by omega) (by omega)
/-- tokens that can stand in a line, in increasing columns from a first one on -/
def GoodL : Int → List TkF → Prop
  | _, [] => True
  | c, t :: L => tokOk t.k t.t t.n ∧ c < t.a ∧ t.t.size ≤ 900 ∧ GoodL t.a L
theorem good_snoc : ∀ (L : List TkF) (c d : Int) (t : TkF), GoodL c L → (∀ y ∈ L, y.a < t.a) → c < t.a → tokOk t.k t.t t.n → t.t.size ≤ 900 → GoodL c (L ++ [t])
  | [], c, d, t, _, _, h3, h4, h5 => ⟨h4, h3, h5, trivial⟩
  | y :: L, c, d, t, h1, h2, h3, h4, h5 => ⟨h1.1, h1.2.1, h1.2.2.1, good_snoc L y.a d t h1.2.2.2 (fun z hz => h2 z (List.mem_cons_of_mem _ hz)) (h2 y (by simp)) h4 h5⟩
theorem good_take : ∀ (L : List TkF) (c : Int) (n : Nat), GoodL c L → GoodL c (L.take n)
  | [], c, n, _ => by simp [GoodL]
  | y :: L, c, 0, _ => trivial
  | y :: L, c, n + 1, h => ⟨h.1, h.2.1, h.2.2.1, good_take L y.a n h.2.2.2⟩
theorem good_colon (i : Nat) (L : List TkF) (cm : ByteArray) (h : GoodL 0 L) : GoodL 0 (colonS i L cm).L := by
  rw [colon_take]
  exact good_take L 0 _ h
theorem read_size {s : ByteArray} (hs : s.size ≤ 900) : (readR s).t.size ≤ 900 := by
  have h0 : (⟨#[]⟩ : ByteArray).size = 0 := rfl
  unfold readR wordR runR textR signR
  split
  · split
    · show (⟨#[]⟩ : ByteArray).size ≤ 900; omega
    · show (s.extract 0 _).size ≤ 900; rw [ByteArray.size_extract]; omega
  · split
    · show (runT (runS s)).2.1.size ≤ 900
      have hr : (runS s).size ≤ 900 := by unfold runS; rw [ByteArray.size_extract]; omega
      unfold runT timeT numberT dateT
      have hd : ∀ a b c, (dateT3 (runS s) a b c).2.1.size ≤ 900 := fun a b c => by
        unfold dateT3
        split
        · split
          · exact hr
          · show (⟨#[]⟩ : ByteArray).size ≤ 900; omega
        · show (⟨#[]⟩ : ByteArray).size ≤ 900; omega
      (repeat' split) <;> first | exact hd _ _ _ | (show (⟨#[]⟩ : ByteArray).size ≤ 900; omega)
    · split
      · split
        · split
          · show (textS s).size ≤ 900
            have h1 := bef_size (tailS s) 34
            have h2 : (tailS s).size ≤ s.size := by unfold tailS; rw [ByteArray.size_extract]; omega
            unfold textS
            omega
          · show (⟨#[]⟩ : ByteArray).size ≤ 900; omega
        · show (⟨#[]⟩ : ByteArray).size ≤ 900; omega
      · split
        · show (s.extract 0 1).size ≤ 900; rw [ByteArray.size_extract]; omega
        · show (⟨#[]⟩ : ByteArray).size ≤ 900; omega
theorem scan_good {s : ByteArray} (hs : s.size ≤ 900) : ∀ (f p : Nat) (L : List TkF) (i : Nat), p ≤ s.size → GoodL 0 L → (∀ y ∈ L, y.a ≤ p) → GoodL 0 (scanF f s (blankN s p) L i).L := by
  intro f
  induction f with
  | zero => intro p L i _ h _; exact good_colon i L _ h
  | succ f ih =>
    intro p0 L i h0 h hy
    have hbl := blank_le s p0 h0
    generalize blankN s p0 = p at *
    unfold scanF
    by_cases hp : p < s.size
    · rw [if_pos hp]
      have hz : (s.extract p s.size).size = s.size - p := by rw [ByteArray.size_extract]; omega
      split
      · exact good_colon i L _ h
      · split
        · trivial
        · split
          · trivial
          · split
            · trivial
            · rename_i c3
              have c3' : (readR (s.extract p s.size)).c = 0 := by simpa using c3
              have hl := readR_len (s := s.extract p s.size) (by omega) c3'
              have hok := read_ok (s := s.extract p s.size) (by omega) c3'
              have hsz := read_size (s := s.extract p s.size) (by omega)
              refine ih _ _ _ (by omega) (good_snoc L 0 0 _ h (fun y hy2 => ?_) ?_ hok hsz) (fun y hy2 => ?_)
              · have := hy y hy2; show y.a < (p : Int) + 1; omega
              · show (0 : Int) < (p : Int) + 1; omega
              · rcases List.mem_append.1 hy2 with h2 | h2
                · have := hy y h2; omega
                · simp at h2; subst h2; show (p : Int) + 1 ≤ _; omega
    · rw [if_neg hp]; exact good_colon i L _ h
theorem scanS_good (s : ByteArray) (hs : s.size ≤ 900) : GoodL 0 (scanS s).L := by
  unfold scanS
  split
  · trivial
  · exact scan_good hs _ 0 [] 0 (Nat.zero_le _) trivial (fun y h => by simp at h)
theorem colon_len (i : Nat) (L : List TkF) (cm : ByteArray) : (colonS i L cm).L.length ≤ L.length := by
  have h := congrArg List.length (colon_take i L cm)
  rw [List.length_take] at h
  omega
theorem scan_len (s : ByteArray) : ∀ (f p : Nat) (L : List TkF) (i : Nat), L.length ≤ 64 → (scanF f s p L i).L.length ≤ 64 := by
  intro f
  induction f with
  | zero => intro p L i h; have := colon_len i L ⟨#[]⟩; show (colonS i L ⟨#[]⟩).L.length ≤ 64; omega
  | succ f ih =>
    intro p L i h
    have hc := fun cm => colon_len i L cm
    unfold scanF
    split
    · split
      · have := hc (s.extract (p + 1) s.size); omega
      · split
        · show (0 : Nat) ≤ 64; omega
        · split
          · show (0 : Nat) ≤ 64; omega
          · split
            · show (0 : Nat) ≤ 64; omega
            · exact ih _ _ _ (by simp; omega)
    · have := hc ⟨#[]⟩; omega
theorem scanS_len (s : ByteArray) : (scanS s).L.length ≤ 64 := by
  unfold scanS
  split
  · show (0 : Nat) ≤ 64; omega
  · exact scan_len s _ _ [] 0 (by simp)
/-- a text with so many blanks behind it -/
def padS (s : ByteArray) : Nat → ByteArray
  | 0 => s
  | k + 1 => padS s k ++ ⟨#[32]⟩
theorem pad_app (s : ByteArray) : ∀ k, padS s k = s ++ padS ⟨#[]⟩ k
  | 0 => by show s = s ++ ⟨#[]⟩; exact Fx.bytes_ext (by rw [app_data]; simp)
  | k + 1 => by
    show padS s k ++ ⟨#[32]⟩ = s ++ (padS ⟨#[]⟩ k ++ ⟨#[32]⟩)
    rw [pad_app s k, ByteArray.append_assoc]
theorem pad_size (s : ByteArray) : ∀ k, (padS s k).size = s.size + k
  | 0 => rfl
  | k + 1 => by
    have h : (⟨#[32]⟩ : ByteArray).size = 1 := rfl
    show (padS s k ++ ⟨#[32]⟩).size = _
    rw [ByteArray.size_append, pad_size s k, h]; omega
theorem pad_byte (s : ByteArray) : ∀ k j, s.size ≤ j → j < s.size + k → byteI (padS s k) j = 32
  | 0, j, h1, h2 => by omega
  | k + 1, j, h1, h2 => by
    have q0 : byteI ⟨#[32]⟩ 0 = 32 := by decide
    by_cases hj : j < s.size + k
    · have h3 : byteI (padS s k ++ ⟨#[32]⟩) j = byteI (padS s k) j := app_left _ _ (by rw [pad_size]; exact hj)
      exact h3.trans (pad_byte s k j h1 hj)
    · have h3 := app_right (padS s k) ⟨#[32]⟩ (k := 0) (by decide)
      rw [Nat.add_zero, pad_size, q0] at h3
      obtain rfl : j = s.size + k := by omega
      exact h3
theorem pad_end (b : Nat) : EndB (padS ⟨#[]⟩ b) := by
  by_cases h : b = 0
  · subst h; exact .inl rfl
  · exact .inr (.inl (pad_byte ⟨#[]⟩ b 0 (by decide) (by show 0 < 0 + b; omega)))
theorem pad_like {s : ByteArray} (b : Nat) (hz : s.size + b ≤ 1000) (hno : ∀ k, k < s.size → byteI s k ≠ 35 ∧ byteI s k ≠ 34) : Like (scanS s) (scanS (padS s b)) ⟨#[]⟩ := by
  have hs := pad_size s b
  have hb := pad_byte s b
  rw [pad_app s b] at hs hb ⊢
  exact scanS_like (E := s.size + b) (by omega) hno (pad_end b) (by omega) (by omega) (fun j h1 h2 => hb j h1 h2) (.inl ⟨hs.symm, rfl⟩)
theorem comment_like {s cm : ByteArray} (b : Nat) (hz : s.size + b + 1 + cm.size ≤ 1000) (hno : ∀ k, k < s.size → byteI s k ≠ 35 ∧ byteI s k ≠ 34) : Like (scanS s) (scanS (padS s b ++ ⟨#[35]⟩ ++ cm)) cm := by
  have q0 : byteI ⟨#[35]⟩ 0 = 35 := by decide
  have q1 : (⟨#[35]⟩ : ByteArray).size = 1 := rfl
  have hs := pad_size s b
  have hb := pad_byte s b
  have he := pad_end b
  have hz0 : (padS ⟨#[]⟩ b).size = b := by rw [pad_size]; exact Nat.zero_add _
  have e1 : padS s b ++ ⟨#[35]⟩ ++ cm = s ++ (padS ⟨#[]⟩ b ++ (⟨#[35]⟩ ++ cm)) := by rw [pad_app s b, ByteArray.append_assoc, ByteArray.append_assoc]
  have e2 : padS s b ++ ⟨#[35]⟩ ++ cm = padS s b ++ (⟨#[35]⟩ ++ cm) := ByteArray.append_assoc
  have hx : EndB (padS ⟨#[]⟩ b ++ (⟨#[35]⟩ ++ cm)) := by
    by_cases h : b = 0
    · refine .inr (.inr ?_)
      have h1 := app_first (padS ⟨#[]⟩ b) (⟨#[35]⟩ ++ cm) (by rw [ByteArray.size_append, q1]; omega)
      rw [hz0, h] at h1
      rw [h, h1, app_left ⟨#[35]⟩ cm (by decide)]
      exact q0
    · refine .inr (.inl ?_)
      rw [app_left _ _ (by omega)]
      exact pad_byte ⟨#[]⟩ b 0 (by decide) (by show 0 < 0 + b; omega)
  have hsz : (s ++ (padS ⟨#[]⟩ b ++ (⟨#[35]⟩ ++ cm))).size = s.size + b + 1 + cm.size := by
    rw [ByteArray.size_append, ByteArray.size_append, ByteArray.size_append, hz0, q1]; omega
  rw [e1]
  refine scanS_like (E := s.size + b) (by omega) hno hx (by omega) (by omega) (fun j h1 h2 => ?_) (.inr ⟨by omega, ?_, ?_⟩)
  · rw [← e1, e2, app_left _ _ (by omega)]; exact hb j h1 h2
  · rw [← e1, e2, ← hs, app_first _ _ (by rw [ByteArray.size_append, q1]; omega), app_left ⟨#[35]⟩ cm (by decide)]
    exact q0
  · rw [← e1]
    have h3 := app_post (padS s b ++ ⟨#[35]⟩) cm
    have h4 : (padS s b ++ ⟨#[35]⟩).size = s.size + b + 1 := by rw [ByteArray.size_append, hs, q1]
    rw [h4] at h3
    exact h3.symm
end Go.Proofs.YtaaaddmdcldclaaGreatDoor
