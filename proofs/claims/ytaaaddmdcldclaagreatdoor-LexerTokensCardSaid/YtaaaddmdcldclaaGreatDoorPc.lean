/- Plain: the text of a number is read as this number; every token that is read can stand in a line. -/
import Derived.Test.YtaaaddmdcldclaaGreatDoorPb
namespace Go.Proofs.YtaaaddmdcldclaaGreatDoor
open Go.RowKit Go.Shelf
set_option linter.unusedVariables false

theorem dgt_nat {c : UInt8} (h : Fx.dgt c = true) : 48 ≤ (c.toNat : Int) ∧ (c.toNat : Int) ≤ 57 := by
  unfold Fx.dgt at h
  simp only [Bool.and_eq_true, decide_eq_true_eq] at h
  omega
theorem dgt_ne {c d : UInt8} (h : Fx.dgt c = true) (hd : Fx.dgt d = false) : c ≠ d := fun e => by rw [e, hd] at h; cases h
theorem num_bytes {n : Int} (hn : -1000000000000 ≤ n) (hn2 : n ≤ 1000000000000) : ∀ c ∈ (Fx.textB n).data.toList, c = 45 ∨ Fx.dgt c = true ∨ c = 46 := by
  obtain ⟨A, B, hl, _, hA, _, hB⟩ := text_parts n hn hn2
  intro c hc
  rw [hl] at hc
  rw [List.all_eq_true] at hA
  rcases List.mem_append.1 hc with hc | hc
  · rcases List.mem_append.1 hc with hc | hc
    · split at hc
      · simp at hc; exact .inl hc
      · simp at hc
    · exact .inr (.inl (hA c hc))
  · rcases hB with rfl | ⟨b, rfl, hb⟩
    · simp at hc
    · rw [List.all_eq_true] at hb
      rcases List.mem_cons.1 hc with rfl | hc
      · exact .inr (.inr rfl)
      · exact .inr (.inl (hb c hc))
theorem num_byte {n : Int} (hn : -1000000000000 ≤ n) (hn2 : n ≤ 1000000000000) {k : Nat} (hk : k < (Fx.textB n).size) : byteI (Fx.textB n) k ≠ 58 ∧ plainRunB (byteI (Fx.textB n) k) = true := by
  obtain ⟨c, h1, h2⟩ := byteI_list hk
  have hm := num_bytes hn hn2 c (List.mem_of_getElem? h1)
  rw [h2]
  unfold plainRunB digB
  rcases hm with rfl | hm | rfl
  · exact ⟨by decide, by decide⟩
  · obtain ⟨a, b⟩ := dgt_nat hm
    rw [decide_eq_true a, decide_eq_true b]
    exact ⟨by omega, rfl⟩
  · exact ⟨by decide, by decide⟩
theorem num_size {n : Int} (hn : -1000000000000 ≤ n) (hn2 : n ≤ 1000000000000) : 0 < (Fx.textB n).size := by
  obtain ⟨A, B, hl, hA, _⟩ := text_parts n hn hn2
  have := List.length_pos_iff.2 hA
  rw [size_list, hl]
  simp only [List.length_append]
  omega
theorem num_run {n : Int} (hn : -1000000000000 ≤ n) (hn2 : n ≤ 1000000000000) : runN (Fx.textB n) = (Fx.textB n).size := by
  have h0 := num_size hn hn2
  unfold runN
  refine runF_eq (by omega) (by omega) (fun j a b => ?_) (.inl (by omega))
  obtain ⟨h1, h2⟩ := num_byte hn hn2 b
  unfold runB
  rw [if_neg h1]
  exact h2
theorem num_first {n : Int} (hn : -1000000000000 ≤ n) (hn2 : n ≤ 1000000000000) : letB (byteI (Fx.textB n) 0) = false ∧ (digB (byteI (Fx.textB n) 0) || decide (byteI (Fx.textB n) 0 = 45) || decide (byteI (Fx.textB n) 0 = 42)) = true := by
  obtain ⟨A, B, hl, hA, hA2, _⟩ := text_parts n hn hn2
  obtain ⟨c, h1, h2⟩ := byteI_list (num_size hn hn2)
  have hc : c = 45 ∨ Fx.dgt c = true := by
    rw [hl] at h1
    by_cases h : n < 0
    · rw [if_pos h] at h1
      left
      simpa using h1.symm
    · rw [if_neg h] at h1
      cases A with
      | nil => exact absurd rfl hA
      | cons a A =>
        rw [List.all_cons, Bool.and_eq_true] at hA2
        right
        have e : a = c := by simpa using h1
        rw [← e]; exact hA2.1
  rw [h2]
  rcases hc with rfl | hc
  · exact ⟨by decide, by decide⟩
  · obtain ⟨a, b⟩ := dgt_nat hc
    unfold letB lowB uppB digB
    rw [decide_eq_true a, decide_eq_true b, decide_eq_false (show ¬ (97 : Int) ≤ (c.toNat : Int) by omega), decide_eq_false (show ¬ (65 : Int) ≤ (c.toNat : Int) by omega)]
    exact ⟨rfl, rfl⟩
theorem num_time {n : Int} (hn : -1000000000000 ≤ n) (hn2 : n ≤ 1000000000000) : (timeT (Fx.textB n)).2.2.2 = 2 := by
  have hf : Cv.formL (Fx.textB n).data.toList Cv.clockF = false := by
    cases h : Cv.formL (Fx.textB n).data.toList Cv.clockF
    · rfl
    · unfold Cv.formL at h
      simp only [Bool.and_eq_true, decide_eq_true_eq, List.all_eq_true] at h
      have hlen : (Fx.textB n).data.toList.length = 5 := h.1
      have h2 := h.2 2 (List.mem_range.2 (by decide))
      have h3 : ((Fx.textB n).data.toList.getD 2 0 == (58 : UInt8)) = true := h2
      have h4 : (Fx.textB n).data.toList.getD 2 0 = 58 := by simpa using h3
      have hm : (58 : UInt8) ∈ (Fx.textB n).data.toList := by
        rw [← h4, List.getD_eq_getElem?_getD, List.getElem?_eq_getElem (by omega)]
        exact List.getElem_mem _
      rcases num_bytes hn hn2 58 hm with h5 | h5 | h5
      · exact absurd h5 (by decide)
      · exact absurd h5 (by decide)
      · exact absurd h5 (by decide)
  have he : clkE (Fx.textB n) = 2 := by unfold clkE Cv.clockR; rw [hf]; rfl
  unfold timeT
  rw [he]; rfl
theorem count_dgt {l : List UInt8} {d : UInt8} (h : l.all Fx.dgt = true) (hd : Fx.dgt d = false) : l.count d = 0 := by
  rw [List.count_eq_zero]
  rw [List.all_eq_true] at h
  exact fun hm => dgt_ne (h d hm) hd rfl
theorem num_date {n : Int} (hn : -1000000000000 ≤ n) (hn2 : n ≤ 1000000000000) : (dateT (Fx.textB n)).2.2.2 = 2 := by
  obtain ⟨A, B, hl, _, hA, _, hB⟩ := text_parts n hn hn2
  have hc : (Fx.textB n).data.toList.count 45 ≤ 1 := by
    rw [hl, List.count_append, List.count_append, count_dgt hA (by decide)]
    have h1 : (if n < 0 then [45] else [] : List UInt8).count 45 ≤ 1 := by split <;> decide
    have h2 : B.count 45 = 0 := by
      rcases hB with rfl | ⟨b, rfl, hb⟩
      · rfl
      · rw [List.count_cons, count_dgt hb (by decide)]; rfl
    omega
  have hlen : (Cv.partsB (Fx.textB n) 45).length ≤ 2 := by
    unfold Cv.partsB
    rw [Lib.splitB_all ⟨#[45]⟩ (Nat.le_refl 1) 0 _ _ rfl]
    have h1 : Lib.countB (Fx.textB n) ⟨#[45]⟩ = (Fx.textB n).data.toList.count 45 := Lib.count_one 45 _
    omega
  unfold dateT
  generalize Cv.partsB (Fx.textB n) 45 = ps at *
  rcases ps with _ | ⟨a, _ | ⟨b, _ | ⟨c, r⟩⟩⟩
  · rfl
  · rfl
  · rfl
  · simp only [List.length_cons] at hlen; omega
theorem num_fix {n : Int} (hn : -1000000000000 ≤ n) (hn2 : n ≤ 1000000000000) : fixN (Fx.textB n) = n ∧ fixE (Fx.textB n) = 0 := by
  unfold fixN fixE
  rw [Fx.parse_text, Fx.clampI_in n hn hn2]
  exact ⟨rfl, rfl⟩
theorem num_bad {n : Int} (hn : -1000000000000 ≤ n) (hn2 : n ≤ 1000000000000) : badNumB (Fx.textB n) = false := by
  obtain ⟨A, B, hl, hA, hA2, hA3, hB⟩ := text_parts n hn hn2
  have hpre := Fx.prefix_not A B hA2 hA
  have hpn : ¬ n < 0 → minusB (Fx.textB n) = false := fun h => by
    unfold minusB
    rw [hl, if_neg h]
    simpa using hpre
  have htr : Lib.trimPrefix (Fx.textB n).data.toList [45] = A ++ B := by
    rw [hl]
    by_cases h : n < 0
    · rw [if_pos h]; rfl
    · rw [if_neg h]
      unfold Lib.trimPrefix
      rw [show ([] ++ A ++ B : List UInt8) = A ++ B from rfl, hpre]; rfl
  have hcut : (Lib.cut (A ++ B) [46]).1 = A := by
    rcases hB with rfl | ⟨b, rfl, hb⟩
    · rw [List.append_nil, Fx.cut_not A hA2]
    · rw [Fx.cut_here A b hA2]
  have hbef : befS (bareS (Fx.textB n)) 46 = ⟨A.toArray⟩ := by
    unfold befS bareS
    rw [htr]
    show (⟨(Lib.cut (A ++ B) [46]).1.toArray⟩ : ByteArray) = _
    rw [hcut]
  have hpad : paddedB (bareS (Fx.textB n)) = false := by
    unfold paddedB
    rw [hbef]
    have hz : (⟨A.toArray⟩ : ByteArray).size = A.length := by rw [size_list]
    by_cases h1 : 1 < A.length
    · obtain ⟨c, l, rfl, hc⟩ := hA3 h1
      obtain ⟨c', e1, e2⟩ := byteI_list (s := ⟨(c :: l).toArray⟩) (k := 0) (by rw [hz]; omega)
      have ec : c = c' := by simpa using e1
      rw [e2, ← ec]
      have : ¬ ((c.toNat : Int) = 48) := fun h => by
        have h5 : c.toNat = 48 := by omega
        exact hc (UInt8.toNat_inj.1 (h5.trans rfl))
      rw [decide_eq_false this, Bool.and_false]
    · rw [hz, decide_eq_false h1]; rfl
  unfold badNumB
  rw [hpad, (num_fix hn hn2).1]
  by_cases h : n < 0
  · rw [decide_eq_false (show ¬ n = 0 by omega)]; simp
  · rw [hpn h]; rfl
theorem num_read {n : Int} (hn : -1000000000000 ≤ n) (hn2 : n ≤ 1000000000000) : readR (Fx.textB n) = ⟨2, ⟨#[]⟩, n, (Fx.textB n).size, 0⟩ := by
  obtain ⟨h1, h2⟩ := num_first hn hn2
  have hr : runS (Fx.textB n) = Fx.textB n := by
    unfold runS
    rw [num_run hn hn2]
    exact ext_all _
  have ht : runT (Fx.textB n) = (2, ⟨#[]⟩, n, 0) := by
    unfold runT numberT
    rw [if_pos (num_time hn hn2), if_pos (num_date hn hn2), num_bad hn hn2, (num_fix hn hn2).1, (num_fix hn hn2).2]
    rfl
  unfold readR
  rw [if_neg (by rw [h1]; simp), if_pos h2]
  unfold runR
  rw [hr, ht, num_run hn hn2]
theorem number_ok {n : Int} (hn : -1000000000000 ≤ n) (hn2 : n ≤ 1000000000000) : tokOk 2 ⟨#[]⟩ n := by
  have hs : spellB 2 ⟨#[]⟩ n = Fx.textB n := (if_neg (by decide)).trans ((if_neg (by decide)).trans (if_pos rfl))
  unfold tokOk
  rw [hs]
  exact ⟨num_size hn hn2, num_read hn hn2⟩
theorem parse_range (l : List UInt8) (h : (Fx.parseL l).2 = 0) : -1000000000000 ≤ (Fx.parseL l).1 ∧ (Fx.parseL l).1 ≤ 1000000000000 := by
  have key : ∀ (neg ptd da db long : Bool) (N : Int), 0 ≤ N → (Fx.parseOf neg ptd da db long N).2 = 0 → -1000000000000 ≤ (Fx.parseOf neg ptd da db long N).1 ∧ (Fx.parseOf neg ptd da db long N).1 ≤ 1000000000000 := by
    intro neg ptd da db long N hN h
    unfold Fx.parseOf at h ⊢
    split at h
    · exact absurd h (by decide)
    · split at h
      · exact absurd h (by decide)
      · rename_i h1 h2
        rw [if_neg h1, if_neg h2]
        dsimp only
        split <;> omega
  have hrd : ∀ (l m : List UInt8), 0 ≤ Fx.rd (Fx.rd 0 l) m := fun l m => (Fx.rd_range m _ (Fx.rd_range l 0 (by omega) (by omega)).1 (Fx.rd_range l 0 (by omega) (by omega)).2).1
  unfold Fx.parseL at h ⊢
  exact key _ _ _ _ _ _ (hrd _ _) h
/-- what is read without an error can stand in a line -/
theorem read_ok {s : ByteArray} (h0 : 0 < s.size) (h : (readR s).c = 0) : tokOk (readR s).k (readR s).t (readR s).n := by
  unfold readR at h ⊢
  by_cases h1 : letB (byteI s 0) = true
  · rw [if_pos h1] at h ⊢
    unfold wordR at h ⊢
    split at h
    · exact absurd h (by decide)
    · rename_i hm
      rw [if_neg hm]
      exact word_ok h0 h1 (by omega)
  rw [if_neg h1] at h ⊢
  have h1' : letB (byteI s 0) = false := by simpa using h1
  by_cases h2 : (digB (byteI s 0) || decide (byteI s 0 = 45) || decide (byteI s 0 = 42)) = true
  · rw [if_pos h2] at h ⊢
    unfold runR at h ⊢
    dsimp only at h ⊢
    rcases runT_cases h with ⟨e, hc⟩ | e | ⟨e, hf, hb⟩
    · rw [e]
      obtain ⟨a, b⟩ := clk_range hc
      exact time_ok a b
    · rw [e]
      exact date_ok h0 h1' h2 e
    · rw [e]
      obtain ⟨a, b⟩ := parse_range (runS s).data.toList hf
      exact number_ok a b
  rw [if_neg h2] at h ⊢
  have h2' : (digB (byteI s 0) || decide (byteI s 0 = 45) || decide (byteI s 0 = 42)) = false := by simpa using h2
  by_cases h3 : byteI s 0 = 34
  · rw [if_pos h3] at h ⊢
    unfold textR at h ⊢
    split at h
    · rename_i h4
      rw [if_pos h4]
      split at h
      · rename_i h5
        rw [if_pos h5]
        exact text_ok h5
      · exact absurd h (by decide)
    · exact absurd h (by decide)
  rw [if_neg h3] at h ⊢
  unfold signR at h ⊢
  split at h
  · rename_i h4
    rw [if_pos h4]
    exact sign_ok h0 h1' h2' h3 h4
  · exact absurd h (by decide)
end Go.Proofs.YtaaaddmdcldclaaGreatDoor
