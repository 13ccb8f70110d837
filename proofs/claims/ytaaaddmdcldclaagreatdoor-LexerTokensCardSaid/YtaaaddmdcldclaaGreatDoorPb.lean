/- Plain: every token that is read can stand in a line. -/
import Derived.Test.YtaaaddmdcldclaaGreatDoorFu
namespace Go.Proofs.YtaaaddmdcldclaaGreatDoor
open Go.RowKit Go.Shelf
set_option linter.unusedVariables false

theorem app_left (a b : ByteArray) {k : Nat} (h : k < a.size) : byteI (a ++ b) k = byteI a k := by
  have h2 : k < (a ++ b).size := by rw [ByteArray.size_append]; omega
  rw [byteI_at h2, byteI_at h, ByteArray.getElem_append_left h]
theorem app_right (a b : ByteArray) {k : Nat} (h : k < b.size) : byteI (a ++ b) (a.size + k) = byteI b k := by
  have h2 : a.size + k < (a ++ b).size := by rw [ByteArray.size_append]; omega
  rw [byteI_at h2, byteI_at h, ByteArray.getElem_append_right (by omega)]
  simp
theorem app_data (a b : ByteArray) : (a ++ b).data.toList = a.data.toList ++ b.data.toList := by rw [ByteArray.data_append, Array.toList_append]
theorem app_pre (a b : ByteArray) : (a ++ b).extract 0 a.size = a := by
  refine Fx.bytes_ext ?_
  rw [Lib.extract_from_zero, app_data, Lib.size_eq a, List.take_left']
  rfl
theorem app_post (a b : ByteArray) : (a ++ b).extract a.size (a ++ b).size = b := by
  refine Fx.bytes_ext ?_
  rw [Lib.extract_to_end, app_data, Lib.size_eq a, List.drop_left']
  rfl
set_option maxHeartbeats 1000000 in
theorem text_ok {t : ByteArray} (h : labelB t = true) : tokOk 3 t 0 := by
  have hl := h
  unfold labelB at hl
  simp only [Bool.and_eq_true, Bool.not_eq_true', decide_eq_true_eq, decide_eq_false_iff_not] at hl
  obtain ⟨⟨⟨⟨⟨h1, h2⟩, h3⟩, h4⟩, h5⟩, h6⟩ := hl
  have hn : ixB t 34 = -1 := by
    rcases ix_cases t 34 with h7 | ⟨i, h7, _⟩
    · exact h7
    · omega
  have hq : (⟨#[34]⟩ : ByteArray).size = 1 := rfl
  have q0 : byteI ⟨#[34]⟩ 0 = 34 := by decide
  have hs : spellB 3 t 0 = ⟨#[34]⟩ ++ (t ++ ⟨#[34]⟩) := by
    rw [← ByteArray.append_assoc]
    exact (if_neg (by decide)).trans (if_pos rfl)
  have hz : (⟨#[34]⟩ ++ (t ++ ⟨#[34]⟩) : ByteArray).size = t.size + 2 := by simp only [ByteArray.size_append, hq]; omega
  have h0 : byteI (⟨#[34]⟩ ++ (t ++ ⟨#[34]⟩)) 0 = 34 := (app_left ⟨#[34]⟩ (t ++ ⟨#[34]⟩) (by decide)).trans q0
  have ht : tailS (⟨#[34]⟩ ++ (t ++ ⟨#[34]⟩)) = t ++ ⟨#[34]⟩ := by
    unfold tailS
    have h := app_post ⟨#[34]⟩ (t ++ ⟨#[34]⟩)
    rw [hq] at h
    exact h
  have hi : ixB (t ++ ⟨#[34]⟩) 34 = (t.size : Nat) := by
    refine ix_hit (by simp only [ByteArray.size_append, hq]; omega) ?_ (fun k hk => ?_)
    · have := app_right t ⟨#[34]⟩ (k := 0) (by rw [hq]; omega)
      rw [Nat.add_zero] at this
      rw [this]; exact q0
    · rw [app_left t _ hk]; exact ix_none hn k hk
  obtain ⟨c1, c2, c3⟩ := cut_hit hi
  rw [app_pre] at c1
  unfold tokOk
  rw [hs, hz]
  refine ⟨by omega, ?_⟩
  unfold readR
  rw [h0, if_neg (by decide), if_neg (by decide), if_pos rfl]
  unfold textR
  have e1 : textS (⟨#[34]⟩ ++ (t ++ ⟨#[34]⟩)) = t := by unfold textS; rw [ht]; exact c1
  rw [ht, e1, c3, h5, if_pos (by rfl), if_pos h]
/-- what stands in the text of a number: perhaps a sign, digits, perhaps a point and digits -/
theorem text_parts (n : Int) (hn : -1000000000000 ≤ n) (hn2 : n ≤ 1000000000000) : ∃ A B : List UInt8, (Fx.textB n).data.toList = (if n < 0 then [45] else []) ++ A ++ B ∧ A ≠ [] ∧ A.all Fx.dgt = true ∧ (1 < A.length → ∃ c l, A = c :: l ∧ c ≠ 48) ∧ (B = [] ∨ ∃ b, B = 46 :: b ∧ b.all Fx.dgt = true) := by
  have hc := Fx.clampI_in n hn hn2
  refine ⟨Lib.decDigits ((Fx.clampI n).natAbs / 1000), if (Fx.clampI n).natAbs % 1000 = 0 then [] else 46 :: Lib.trimRightB ((Lib.decDigits (1000 + (Fx.clampI n).natAbs % 1000)).drop 1) 48, ?_, Fx.dec_ne _, (Fx.dec_facts _ (by rw [hc]; omega)).1, fun hl => ?_, ?_⟩
  · rw [Fx.text_list, hc]
  · refine dec_lead _ ?_
    by_cases h : (Fx.clampI n).natAbs / 1000 < 10
    · rw [Lib.decDigits, dif_pos h] at hl
      simp at hl
    · omega
  · split
    · exact .inl rfl
    · refine .inr ⟨_, rfl, ?_⟩
      have h1 := (Fx.dec_facts (1000 + (Fx.clampI n).natAbs % 1000) (by omega)).1
      rw [List.all_eq_true] at h1 ⊢
      intro c hc
      refine h1 c ?_
      have h2 : c ∈ (Lib.decDigits (1000 + (Fx.clampI n).natAbs % 1000)).drop 1 := by
        unfold Lib.trimRightB at hc
        rw [List.mem_reverse] at hc
        have h3 := (List.dropWhile_sublist (l := ((Lib.decDigits (1000 + (Fx.clampI n).natAbs % 1000)).drop 1).reverse) _).subset hc
        rwa [List.mem_reverse] at h3
      exact List.mem_of_mem_drop h2
end Go.Proofs.YtaaaddmdcldclaaGreatDoor
