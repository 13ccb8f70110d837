/- Plain: a token can stand in a line just when the specification calls it valid. -/
import Derived.Test.YtaaaddmdcldclaaGreatDoorPf
namespace Go.Proofs.YtaaaddmdcldclaaGreatDoor
open Go.RowKit Go.Shelf
set_option linter.unusedVariables false

theorem let_word {c : Int} (h : letB c = true) : wordB c = true := by unfold wordB; rw [h]; rfl
theorem wordOk_iff {t : ByteArray} (h0 : 0 < t.size) (hl : letB (byteI t 0) = true) : wordOkB t = true ↔ wordN t = t.size ∧ t.size ≤ 49 := by
  rw [← word_run h0]
  unfold wordOkB
  rw [decide_eq_true h0, hl]
  simp only [Bool.true_and, Bool.and_true, Bool.and_eq_true, decide_eq_true_eq]
  constructor
  · intro h
    exact ⟨fun j _ hj => wordsB_all h.2 j hj, h.1⟩
  · intro h
    refine ⟨h.2, words_yes (fun j hj => ?_)⟩
    by_cases hj0 : j = 0
    · subst hj0; exact let_word hl
    · exact h.1 j (by omega) hj
theorem valid_of_ok {k n : Int} {t : ByteArray} (h : tokOk k t n) : validB k t n = true := by
  obtain ⟨h0, hr⟩ := h
  generalize spellB k t n = S at *
  have hc : (readR S).c = 0 := by rw [hr]
  rcases read_kind h0 hc with ⟨a1, a2, a3⟩ | ⟨b1, b2, b3⟩ | ⟨c1, c2, c3⟩ | ⟨d1, d2, d3, d4, d5⟩
  · rw [a3] at hr
    injection hr with e1 e2 e3 e4
    rw [e4, ext_all] at e2
    subst e1 e2 e3
    have hw := (wordOk_iff h0 a1).2 ⟨e4, by omega⟩
    unfold validB
    rw [if_pos rfl, hw]; rfl
  · rw [b3] at hr
    unfold runR at hr
    injection hr with e1 e2 e3 e4 e5
    have hS : runS S = S := by unfold runS; rw [e4]; exact ext_all S
    rw [hS] at e1 e2 e3 e5
    rcases runT_cases e5 with ⟨e, hk⟩ | e | ⟨e, hf, hb⟩
    · rw [e] at e1 e2 e3
      dsimp only at e1 e2 e3
      subst e1 e2 e3
      obtain ⟨x, y⟩ := clk_range hk
      unfold validB
      rw [if_neg (by decide), if_neg (by decide), if_neg (by decide), if_pos rfl, decide_eq_true x, decide_eq_true y]; rfl
    · have hd := (date_eq S).1 (runT_date e)
      rw [e] at e1 e2 e3
      dsimp only at e1 e2 e3
      subst e1 e2 e3
      unfold validB
      rw [if_neg (by decide), if_neg (by decide), if_neg (by decide), if_neg (by decide), if_pos rfl, hd]; rfl
    · rw [e] at e1 e2 e3
      dsimp only at e1 e2 e3
      subst e1 e2 e3
      obtain ⟨x, y⟩ := parse_range S.data.toList hf
      replace x : -1000000000000 ≤ fixN S := x
      replace y : fixN S ≤ 1000000000000 := y
      unfold validB
      rw [if_neg (by decide), if_pos rfl, decide_eq_true x, decide_eq_true y]; rfl
  · rw [c3] at hr
    injection hr with e1 e2 e3 e4
    subst e1 e2 e3
    unfold validB
    rw [if_neg (by decide), if_neg (by decide), if_pos rfl, c1]; rfl
  · rw [d5] at hr
    injection hr with e1 e2 e3 e4
    have hz : S.size = 1 := e4.symm
    have hx : S.extract 0 1 = S := by have := ext_all S; rwa [hz] at this
    rw [hx] at e2
    subst e1 e2 e3
    have hs : sigB S = true := by rw [sig_byte hz]; exact decide_eq_true d4
    unfold validB
    rw [if_neg (by decide), if_neg (by decide), if_neg (by decide), if_neg (by decide), if_neg (by decide), if_pos rfl, hs]; rfl
theorem parts_mem (d : UInt8) : ∀ (k : Nat) (s : ByteArray), ∀ c ∈ s.data.toList, c = d ∨ ∃ p ∈ Lib.splitB ⟨#[d]⟩ 0 k s, c ∈ p.data.toList := by
  intro k
  induction k with
  | zero => intro s c hc; exact .inr ⟨s, by simp [Lib.splitB], hc⟩
  | succ k ih =>
    intro s c hc
    rcases ix_cases s d with h | ⟨i, h, hi⟩
    · exact .inr ⟨s, by rw [Lib.splitB_miss _ _ _ _ ((ix_is s d).trans h)]; simp, hc⟩
    · have e1 : (⟨#[d]⟩ : ByteArray).size = 1 := rfl
      have hsp := Lib.splitB_hit ⟨#[d]⟩ 0 k s i ((ix_is s d).trans h)
      rw [e1, Nat.add_zero] at hsp
      rw [hsp]
      have hil : i < s.data.toList.length := by rw [← size_list]; exact hi
      rw [← List.take_append_drop i s.data.toList, List.mem_append] at hc
      rcases hc with hc | hc
      · exact .inr ⟨s.extract 0 i, by simp, by rw [Lib.extract_from_zero]; exact hc⟩
      · rw [List.drop_eq_getElem_cons hil] at hc
        rcases List.mem_cons.1 hc with hc | hc
        · left
          have hb := (ix_some h hi).1
          have h2 := (at_get hi d).2 hb
          rw [List.getElem?_eq_getElem hil] at h2
          rw [hc]; exact Option.some.inj h2
        · rcases ih (s.extract (i + 1) s.size) c (by rw [Lib.extract_to_end]; exact hc) with h3 | ⟨p, hp, hcp⟩
          · exact .inl h3
          · exact .inr ⟨p, List.mem_cons_of_mem _ hp, hcp⟩
theorem field_bytes {p : ByteArray} {n : Nat} (hn : 0 < n) (h : fieldB p n = true) : ∀ c ∈ p.data.toList, c = 42 ∨ Fx.dgt c = true := by
  intro c hc
  unfold fieldB at h
  cases hst : starB p
  · rw [hst] at h
    simp only [Bool.false_or, Bool.and_eq_true, decide_eq_true_eq] at h
    have hd : digsB p = true := by rw [← number_sign (by omega)]; exact decide_eq_true h.2
    obtain ⟨k, hk, hkc⟩ := List.mem_iff_getElem.1 hc
    have hks : k < p.size := by rw [size_list]; exact hk
    have hb : byteI p k = (c.toNat : Int) := (at_get hks c).1 (by rw [List.getElem?_eq_getElem hk, hkc])
    have hdg : digB (byteI p k) = true := by
      cases hb2 : digB (byteI p k)
      · rw [digs_no hks hb2] at hd; cases hd
      · rfl
    rw [hb] at hdg
    right
    unfold digB at hdg
    simp only [Bool.and_eq_true, decide_eq_true_eq] at hdg
    unfold Fx.dgt
    rw [decide_eq_true (show 48 ≤ c.toNat by omega), decide_eq_true (show c.toNat ≤ 57 by omega)]
    rfl
  · left
    unfold starB at hst
    rw [Lib.toList_data] at hst
    have h2 : p.data.toList = [42] := by simpa using hst
    rw [h2] at hc
    simpa using hc
theorem date_bytes {t : ByteArray} (h : ((dateR t).1 && (dateR t).2) = true) : 0 < t.size ∧ ∀ c ∈ t.data.toList, c = 45 ∨ c = 42 ∨ Fx.dgt c = true := by
  have hparts : ∃ a b c, Cv.partsB t 45 = [a, b, c] ∧ (fieldB a 4 && fieldB b 2 && fieldB c 2) = true := by
    unfold dateR at h
    generalize hps : Cv.partsB t 45 = ps at *
    rcases ps with _ | ⟨a, _ | ⟨b, _ | ⟨c, _ | ⟨d, r⟩⟩⟩⟩
    · simp at h
    · simp at h
    · simp at h
    · refine ⟨a, b, c, rfl, ?_⟩
      by_cases hf : (fieldB a 4 && fieldB b 2 && fieldB c 2) = true
      · exact hf
      · simp [hf] at h
    · simp at h
  obtain ⟨a, b, c, hp, hf⟩ := hparts
  simp only [Bool.and_eq_true] at hf
  refine ⟨?_, fun x hx => ?_⟩
  · by_cases h0 : t.size = 0
    · have h1 := parts_none (s := t) (c := 45) (fun k hk => by omega)
      rw [hp] at h1
      simp at h1
    · omega
  · rcases parts_mem 45 (Lib.countB t ⟨#[45]⟩) t x hx with h1 | ⟨p, hpm, hxp⟩
    · exact .inl h1
    · have hpm2 : p ∈ Cv.partsB t 45 := hpm
      rw [hp] at hpm2
      simp only [List.mem_cons, List.not_mem_nil, or_false] at hpm2
      right
      rcases hpm2 with rfl | rfl | rfl
      · exact field_bytes (by decide) hf.1.1 x hxp
      · exact field_bytes (by decide) hf.1.2 x hxp
      · exact field_bytes (by decide) hf.2 x hxp
theorem date_tok {t : ByteArray} (h : ((dateR t).1 && (dateR t).2) = true) : tokOk 5 t 0 := by
  obtain ⟨h0, hb⟩ := date_bytes h
  have hbyte : ∀ k, k < t.size → byteI t k ≠ 58 ∧ plainRunB (byteI t k) = true := fun k hk => by
    obtain ⟨c, h1, h2⟩ := byteI_list hk
    have hm := hb c (List.mem_of_getElem? h1)
    rw [h2]
    unfold plainRunB digB
    rcases hm with rfl | rfl | hm
    · exact ⟨by decide, by decide⟩
    · exact ⟨by decide, by decide⟩
    · obtain ⟨a, b⟩ := dgt_nat hm
      rw [decide_eq_true a, decide_eq_true b]
      exact ⟨by omega, rfl⟩
  have hrun : runN t = t.size := by
    unfold runN
    refine runF_eq (by omega) (by omega) (fun j a b => ?_) (.inl (by omega))
    unfold runB
    rw [if_neg (hbyte j b).1]
    exact (hbyte j b).2
  have hrs : runS t = t := by unfold runS; rw [hrun]; exact ext_all t
  have hfirst : letB (byteI t 0) = false ∧ (digB (byteI t 0) || decide (byteI t 0 = 45) || decide (byteI t 0 = 42)) = true := by
    obtain ⟨c, h1, h2⟩ := byteI_list h0
    have hm := hb c (List.mem_of_getElem? h1)
    rw [h2]
    rcases hm with rfl | rfl | hm
    · exact ⟨by decide, by decide⟩
    · exact ⟨by decide, by decide⟩
    · obtain ⟨a, b⟩ := dgt_nat hm
      unfold letB lowB uppB digB
      rw [decide_eq_true a, decide_eq_true b, decide_eq_false (show ¬ (97 : Int) ≤ (c.toNat : Int) by omega), decide_eq_false (show ¬ (65 : Int) ≤ (c.toNat : Int) by omega)]
      exact ⟨rfl, rfl⟩
  have htime : (timeT t).2.2.2 = 2 := by
    have hf : Cv.formL t.data.toList Cv.clockF = false := by
      cases hh : Cv.formL t.data.toList Cv.clockF
      · rfl
      · unfold Cv.formL at hh
        simp only [Bool.and_eq_true, decide_eq_true_eq, List.all_eq_true] at hh
        have hlen : t.data.toList.length = 5 := hh.1
        have h3 : (t.data.toList.getD 2 0 == (58 : UInt8)) = true := hh.2 2 (List.mem_range.2 (by decide))
        have h4 : t.data.toList.getD 2 0 = 58 := by simpa using h3
        have hm : (58 : UInt8) ∈ t.data.toList := by
          rw [← h4, List.getD_eq_getElem?_getD, List.getElem?_eq_getElem (by omega)]
          exact List.getElem_mem _
        rcases hb 58 hm with h5 | h5 | h5
        · exact absurd h5 (by decide)
        · exact absurd h5 (by decide)
        · exact absurd h5 (by decide)
    have he : clkE t = 2 := by unfold clkE Cv.clockR; rw [hf]; rfl
    unfold timeT
    rw [he]; rfl
  have hdate := (date_eq t).2 h
  have hT : runT t = (5, t, 0, 0) := by
    unfold runT
    rw [if_pos htime, hdate, if_neg (by show ¬ (0 : Int) = 2; decide)]
  unfold tokOk
  rw [spell_self _ _ (.inr (.inl rfl))]
  refine ⟨h0, ?_⟩
  unfold readR
  rw [if_neg (by rw [hfirst.1]; simp), if_pos hfirst.2]
  unfold runR
  rw [hrs, hT, hrun]
theorem ok_of_valid {k n : Int} {t : ByteArray} (h : validB k t n = true) : tokOk k t n := by
  unfold validB at h
  split at h
  · rename_i hk
    subst hk
    simp only [Bool.and_eq_true, decide_eq_true_eq] at h
    obtain ⟨hw, rfl⟩ := h
    have hw2 := hw
    unfold wordOkB at hw2
    simp only [Bool.and_eq_true, decide_eq_true_eq] at hw2
    obtain ⟨⟨⟨h0, h49⟩, hl⟩, _⟩ := hw2
    obtain ⟨e, _⟩ := (wordOk_iff h0 hl).1 hw
    have := word_ok h0 hl (by omega)
    rwa [e, ext_all] at this
  · split at h
    · rename_i hk
      subst hk
      simp only [Bool.and_eq_true, decide_eq_true_eq] at h
      obtain rfl := empty_of h.1.1
      exact number_ok h.1.2 h.2
    · split at h
      · rename_i hk
        subst hk
        simp only [Bool.and_eq_true, decide_eq_true_eq] at h
        obtain ⟨hl, rfl⟩ := h
        exact text_ok hl
      · split at h
        · rename_i hk
          subst hk
          simp only [Bool.and_eq_true, decide_eq_true_eq] at h
          obtain rfl := empty_of h.1.1
          exact time_ok h.1.2 h.2
        · split at h
          · rename_i hk
            subst hk
            rw [Bool.and_eq_true, decide_eq_true_eq] at h
            obtain ⟨hd, rfl⟩ := h
            exact date_tok hd
          · split at h
            · rename_i hk
              subst hk
              simp only [Bool.and_eq_true, decide_eq_true_eq] at h
              obtain ⟨hs, rfl⟩ := h
              have hz := sig_size hs
              have hx : t.extract 0 1 = t := by have := ext_all t; rwa [hz] at this
              have h4 : 0 ≤ signI (byteI t 0) := by rw [sig_byte hz] at hs; simpa using hs
              obtain ⟨c, c1, c2⟩ := byteI_list (s := t) (k := 0) (by omega)
              have hcs := (sign_cases ⟨c.toNat, c.toNat_lt⟩).1 (by rw [← c2]; exact h4)
              have hb : letB (byteI t 0) = false ∧ (digB (byteI t 0) || decide (byteI t 0 = 45) || decide (byteI t 0 = 42)) = false ∧ byteI t 0 ≠ 34 := by
                rw [c2]
                rcases hcs with h5 | h5 | h5 | h5 | h5 | h5 | h5 <;> (replace h5 : c.toNat = _ := h5; rw [h5]; decide)
              have := sign_ok (s := t) (by omega) hb.1 hb.2.1 hb.2.2 h4
              rwa [hx] at this
            · cases h
theorem ok_iff (k : Int) (t : ByteArray) (n : Int) : tokOk k t n ↔ validB k t n = true := ⟨valid_of_ok, ok_of_valid⟩
end Go.Proofs.YtaaaddmdcldclaaGreatDoor
