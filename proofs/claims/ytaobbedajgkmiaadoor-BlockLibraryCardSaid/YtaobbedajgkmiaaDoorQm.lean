/- Find in the specification's library: at a name of it, at another one. -/
import Derived.Test.YtaobbedajgkmiaaDoorQl
import Derived.Test.YtaobbedajgkmiaaDoorBf
namespace Go.Proofs.YtaobbedajgkmiaaDoor
open Go.RowKit Go.Shelf

set_option linter.unusedVariables false
set_option linter.unusedSimpArgs false
theorem row18L_len (B : Nat) (r : R18) : (row18L B r).length = 6 := rfl
def rowR (k : Nat) : R18 := rows18.getD k ⟨⟨#[]⟩, 0, none, 0, none, 0, none, 0, 0⟩
theorem rowR_at (k : Nat) (h : k < 33) : rows18[k]? = some (rowR k) := by
  have hl : rows18.length = 33 := by decide +kernel
  unfold rowR
  rw [List.getD_eq_getElem?_getD, List.getElem?_eq_getElem (by omega)]; rfl
theorem cellO {w : World} {g : Nat} {cur : Array Value} {e : TypeId} {fr : Nat × Nat} (hh : w.heap[g]? = some (.cells cur e fr)) (i : Nat) (u : Value) (hu : cur[i]? = some u) : w.cell? ⟨g, i, none⟩ = some u := by
  simp [World.cell?, hh, hu]
/-- the specification's library stands at B -/
def LibAt (w : World) (B : Nat) : Prop := ∀ j o, (objs18 B)[j]? = some o → w.heap[B + j]? = some o
theorem lib_cell {w : World} {B : Nat} (h : LibAt w B) (k : Nat) (hk : k < 33) (j : Nat) (u : Value) (hj : j < 6) (hu : (row18L B (rowR k))[j]? = some u) : w.cell? ⟨B + 77, k * 6 + j, none⟩ = some u := by
  refine cellO (h 77 _ rfl) _ _ ?_
  have h2 := flat_at (row18L_len B) rows18 k (rowR k) (rowR_at k hk) j hj
  rw [hu] at h2
  change (table18 B)[k * 6 + j]? = some u at h2
  simpa using h2
theorem LibAt.keep {w w' : World} {B : Nat} (h : LibAt w B) (hb : Below w.heap.size w w') : LibAt w' B := fun j o hj => by
  have h1 := h j o hj
  have hlt : B + j < w.heap.size := by
    rcases Nat.lt_or_ge (B + j) w.heap.size with h2 | h2
    · exact h2
    · rw [Array.getElem?_eq_none h2] at h1; cases h1
  rw [hb.block _ hlt]; exact h1
theorem eqs_no {a b : ByteArray} (h : ¬ a = b) : (a.toList == b.toList) = false := by
  rw [beq_eq_false_iff_ne, toList_eq, toList_eq]
  intro e
  exact h (bytes_inj.1 e)
set_option maxHeartbeats 4000000 in
set_option maxRecDepth 100000 in
theorem find18 (K : Nat) (hK : K < 33) (s : ByteArray) (hs : (rowR K).nm = s) (hn : ∀ j, j < K → ¬ (rowR j).nm = s) (w : World) :
    Calls Tryd.prog 15 #[.string s] w fun e w' => ∃ B, w.heap.size ≤ B ∧ e = .returned (.tuple #[.agg (row18L B (rowR K)).toArray, .bool true]) ∧ LibAt w' B ∧ Below w.heap.size w w' := by
  have HS := Lib.hid hs
  have HNN := Lib.hid hn
  have n33 : K < 33 := hK
  clear hs hn hK
  obtain ⟨W, q, hW, hq, RQ, B9, sz⟩ := box1 w #[.string ⟨#[]⟩, .slice none 0 0, .slice none 0 0, .slice none 0 0, .int .i64 0, .int .i64 0] 30
  have HQ := Lib.hid RQ
  have HB9 := Lib.hid B9
  have HWQ := Lib.hid (show w.heap.size ≤ q by omega)
  have HQW := Lib.hid (show q < W.heap.size from RQ.lt)
  go_enter Tryd.func15, Tryd.ntmps15
  go_upto_region 1 with fail
  rw [← hW]
  try rw [← hq]
  clear hW hq RQ B9 sz
  go_wp2_with fail
  refine (library18 _).mono ?_
  rintro e w1 ⟨rfl, hw1⟩
  obtain ⟨B, hB⟩ : ∃ x, x = W.heap.size := ⟨_, rfl⟩
  have HL := Lib.hid (show LibAt w1 B from fun j o hj => by rw [hw1, hB]; exact allocsL_at _ W j o (by rw [← hB]; exact hj))
  have hb : Below W.heap.size W w1 := by rw [hw1]; exact allocsL_below _ W _ (Nat.le_refl _)
  have HQ1 := Lib.hid (HQ.out.keep hb)
  have HB0 := Lib.hid (HB9.out.trans (hb.mono HB9.out.size))
  have HQB := Lib.hid (show q < B by rw [hB]; exact HQW.out)
  have HBQ := Lib.hid (show w.heap.size ≤ B by rw [hB]; exact HB9.out.size)
  rw [← hB] 
  clear hb HQ HB9 hw1 HQW hB
  go_wp2_with fail
  go_loopw [5] (fun i wr => ∃ k : Nat, k ≤ K ∧ i = .int .i64 k ∧ Hid (RowAt wr q [.string ⟨#[]⟩, .slice none 0 0, .slice none 0 0, .slice none 0 0, .int .i64 0, .int .i64 0] ∧ Below w1.heap.size w1 wr)) (fun i _ => 33 - (intOf i).toNat)
  case atStart => exact ⟨0, Nat.zero_le _, rfl, Lib.hid ⟨HQ1.out, Below.refl _ _⟩⟩
  case round =>
    obtain ⟨k, hk, rfl, HH⟩ := hrel
    have HQ := Lib.hid HH.out.1
    have HB := Lib.hid HH.out.2
    clear HH HQ1
    have hkn : k < 33 := by omega
    by_cases hlt : k < K
    · have hne : ¬ (rowR k).nm = s := HNN.out k hlt
      obtain ⟨rn, hrn⟩ : ∃ x, x = (rowR k).nm := ⟨_, rfl⟩
      rw [← hrn] at hne
      have hs2 := eqs_no hne
      have q0 : wr.cell? ⟨B + 77, k * 6, none⟩ = some (.string rn) := by rw [hrn]; exact lib_cell (HL.out.keep HB.out) k hkn 0 _ (by decide) rfl
      clear hne hrn
      go_wp2_with fail
      go_roundw
      case rel => exact ⟨k + 1, by omega, by go_num, Lib.hid ⟨HQ.out, HB.out⟩⟩
      case measure => (simp [intOf]) <;> omega
    · obtain rfl : k = K := by omega
      have q0 := lib_cell (HL.out.keep HB.out) k hkn 0 _ (by decide) rfl
      have q1 := lib_cell (HL.out.keep HB.out) k hkn 1 _ (by decide) rfl
      have q2 := lib_cell (HL.out.keep HB.out) k hkn 2 _ (by decide) rfl
      have q3 := lib_cell (HL.out.keep HB.out) k hkn 3 _ (by decide) rfl
      have q4 := lib_cell (HL.out.keep HB.out) k hkn 4 _ (by decide) rfl
      have q5 := lib_cell (HL.out.keep HB.out) k hkn 5 _ (by decide) rfl
      simp only [Nat.add_zero] at q0
      have hss := HS.out
      obtain ⟨r, hr⟩ : ∃ x, x = rowR k := ⟨_, rfl⟩
      have HRK := Lib.hid hr
      rw [← hr] at hss q0 q1 q2 q3 q4 q5
      obtain ⟨rn, rnp, rjp, rni, rji, rno, rjo, rs, rm⟩ := r
      simp only at hss q0 q1 q2 q3 q4 q5
      subst hss
      clear hr
      obtain ⟨s1, hs1⟩ : ∃ x, x = slO B rnp rjp := ⟨_, rfl⟩
      obtain ⟨s2, hs2⟩ : ∃ x, x = slO B rni rji := ⟨_, rfl⟩
      obtain ⟨s3, hs3⟩ : ∃ x, x = slO B rno rjo := ⟨_, rfl⟩
      rw [← hs1] at q1
      rw [← hs2] at q2
      rw [← hs3] at q3
      obtain ⟨s1a, s1n, s1c, hvs1⟩ : ∃ a n c, s1 = .slice a n c := by rw [hs1]; unfold slO; split <;> exact ⟨_, _, _, rfl⟩
      have Hs1 := Lib.hid hs1
      subst hvs1
      clear hs1
      obtain ⟨s2a, s2n, s2c, hvs2⟩ : ∃ a n c, s2 = .slice a n c := by rw [hs2]; unfold slO; split <;> exact ⟨_, _, _, rfl⟩
      have Hs2 := Lib.hid hs2
      subst hvs2
      clear hs2
      obtain ⟨s3a, s3n, s3c, hvs3⟩ : ∃ a n c, s3 = .slice a n c := by rw [hs3]; unfold slO; split <;> exact ⟨_, _, _, rfl⟩
      have Hs3 := Lib.hid hs3
      subst hvs3
      clear hs3
      have r_0 := HQ.out.c 0 _ rfl
      have r_1 := HQ.out.c 1 _ rfl
      have r_2 := HQ.out.c 2 _ rfl
      have r_3 := HQ.out.c 3 _ rfl
      have r_4 := HQ.out.c 4 _ rfl
      have r_5 := HQ.out.c 5 _ rfl
      have r_z := HQ.out.fz
      go_wp2_with fail
      have hs := HQ.out.setRow [.string rn, .slice s1a s1n s1c, .slice s2a s2n s2c, .slice s3a s3n s3c, .int .i64 rs, .int .i64 rm] rfl
      have hB := set_below (HB0.out.trans (HB.out.mono HB0.out.size)) HWQ.out [.string rn, .slice s1a s1n s1c, .slice s2a s2n s2c, .slice s3a s3n s3c, .int .i64 rs, .int .i64 rm]
      have y0 : ((((((wr.setCell ⟨q, 0, none⟩ (.string rn)).setCell ⟨q, 1, none⟩ (.slice s1a s1n s1c)).setCell ⟨q, 2, none⟩ (.slice s2a s2n s2c)).setCell ⟨q, 3, none⟩ (.slice s3a s3n s3c)).setCell ⟨q, 4, none⟩ (.int .i64 rs)).setCell ⟨q, 5, none⟩ (.int .i64 rm)).cell? ⟨q, 0, none⟩ = some (.string rn) := hs.c 0 _ rfl
      have y1 : ((((((wr.setCell ⟨q, 0, none⟩ (.string rn)).setCell ⟨q, 1, none⟩ (.slice s1a s1n s1c)).setCell ⟨q, 2, none⟩ (.slice s2a s2n s2c)).setCell ⟨q, 3, none⟩ (.slice s3a s3n s3c)).setCell ⟨q, 4, none⟩ (.int .i64 rs)).setCell ⟨q, 5, none⟩ (.int .i64 rm)).cell? ⟨q, 1, none⟩ = some (.slice s1a s1n s1c) := hs.c 1 _ rfl
      have y2 : ((((((wr.setCell ⟨q, 0, none⟩ (.string rn)).setCell ⟨q, 1, none⟩ (.slice s1a s1n s1c)).setCell ⟨q, 2, none⟩ (.slice s2a s2n s2c)).setCell ⟨q, 3, none⟩ (.slice s3a s3n s3c)).setCell ⟨q, 4, none⟩ (.int .i64 rs)).setCell ⟨q, 5, none⟩ (.int .i64 rm)).cell? ⟨q, 2, none⟩ = some (.slice s2a s2n s2c) := hs.c 2 _ rfl
      have y3 : ((((((wr.setCell ⟨q, 0, none⟩ (.string rn)).setCell ⟨q, 1, none⟩ (.slice s1a s1n s1c)).setCell ⟨q, 2, none⟩ (.slice s2a s2n s2c)).setCell ⟨q, 3, none⟩ (.slice s3a s3n s3c)).setCell ⟨q, 4, none⟩ (.int .i64 rs)).setCell ⟨q, 5, none⟩ (.int .i64 rm)).cell? ⟨q, 3, none⟩ = some (.slice s3a s3n s3c) := hs.c 3 _ rfl
      have y4 : ((((((wr.setCell ⟨q, 0, none⟩ (.string rn)).setCell ⟨q, 1, none⟩ (.slice s1a s1n s1c)).setCell ⟨q, 2, none⟩ (.slice s2a s2n s2c)).setCell ⟨q, 3, none⟩ (.slice s3a s3n s3c)).setCell ⟨q, 4, none⟩ (.int .i64 rs)).setCell ⟨q, 5, none⟩ (.int .i64 rm)).cell? ⟨q, 4, none⟩ = some (.int .i64 rs) := hs.c 4 _ rfl
      have y5 : ((((((wr.setCell ⟨q, 0, none⟩ (.string rn)).setCell ⟨q, 1, none⟩ (.slice s1a s1n s1c)).setCell ⟨q, 2, none⟩ (.slice s2a s2n s2c)).setCell ⟨q, 3, none⟩ (.slice s3a s3n s3c)).setCell ⟨q, 4, none⟩ (.int .i64 rs)).setCell ⟨q, 5, none⟩ (.int .i64 rm)).cell? ⟨q, 5, none⟩ = some (.int .i64 rm) := hs.c 5 _ rfl
      (try simp only [Exit.inBlock, Exit.then])
      refine bodyPost_ret (by simp [results, Tryd.results15, go_sem, y0, y1, y2, y3, y4, y5]; try rfl) rfl ?_
      have e : ((((((wr.setCell ⟨q, 0, none⟩ (.string rn)).setCell ⟨q, 1, none⟩ (.slice s1a s1n s1c)).setCell ⟨q, 2, none⟩ (.slice s2a s2n s2c)).setCell ⟨q, 3, none⟩ (.slice s3a s3n s3c)).setCell ⟨q, 4, none⟩ (.int .i64 rs)).setCell ⟨q, 5, none⟩ (.int .i64 rm)) = wr.setCells q 0 [.string rn, .slice s1a s1n s1c, .slice s2a s2n s2c, .slice s3a s3n s3c, .int .i64 rs, .int .i64 rm] := rfl
      rw [e, ← HRK.out]
      refine ⟨B, HBQ.out, ?_, ?_, hB⟩
      · show _ = Ending.returned (.tuple #[.agg #[.string rn, slO B rnp rjp, slO B rni rji, slO B rno rjo, .int .i64 rs, .int .i64 rm], .bool true])
        rw [← Hs1.out, ← Hs2.out, ← Hs3.out]
      · intro j o hj
        have h1 := HL.out.keep HB.out j o hj
        have h2 := HQB.out
        rw [← h1]
        have h3 := grown_set wr q [.string rn, .slice s1a s1n s1c, .slice s2a s2n s2c, .slice s3a s3n s3c, .int .i64 rs, .int .i64 rm]
        have hlt : B + j < wr.heap.size := by
          rcases Nat.lt_or_ge (B + j) wr.heap.size with h2 | h2
          · exact h2
          · rw [Array.getElem?_eq_none h2] at h1; cases h1
        exact h3.block _ hlt (by simp; omega)
set_option maxHeartbeats 4000000 in
set_option maxRecDepth 100000 in
theorem find18_miss (s : ByteArray) (hn : ∀ j, j < 33 → ¬ (rowR j).nm = s) (w : World) :
    Calls Tryd.prog 15 #[.string s] w fun e w' => e = .returned (.tuple #[.agg #[.string ⟨#[]⟩, .slice none 0 0, .slice none 0 0, .slice none 0 0, .int .i64 0, .int .i64 0], .bool false]) ∧ Below w.heap.size w w' := by
  have HNN := Lib.hid hn
  clear hn
  obtain ⟨W, q, hW, hq, RQ, B9, sz⟩ := box1 w #[.string ⟨#[]⟩, .slice none 0 0, .slice none 0 0, .slice none 0 0, .int .i64 0, .int .i64 0] 30
  have HQ := Lib.hid RQ
  have HB9 := Lib.hid B9
  have HWQ := Lib.hid (show w.heap.size ≤ q by omega)
  have HQW := Lib.hid (show q < W.heap.size from RQ.lt)
  go_enter Tryd.func15, Tryd.ntmps15
  go_upto_region 1 with fail
  rw [← hW]
  try rw [← hq]
  clear hW hq RQ B9 sz
  go_wp2_with fail
  refine (library18 _).mono ?_
  rintro e w1 ⟨rfl, hw1⟩
  obtain ⟨B, hB⟩ : ∃ x, x = W.heap.size := ⟨_, rfl⟩
  have HL := Lib.hid (show LibAt w1 B from fun j o hj => by rw [hw1, hB]; exact allocsL_at _ W j o (by rw [← hB]; exact hj))
  have hb : Below W.heap.size W w1 := by rw [hw1]; exact allocsL_below _ W _ (Nat.le_refl _)
  have HQ1 := Lib.hid (HQ.out.keep hb)
  have HB0 := Lib.hid (HB9.out.trans (hb.mono HB9.out.size))
  have HQB := Lib.hid (show q < B by rw [hB]; exact HQW.out)
  have HBQ := Lib.hid (show w.heap.size ≤ B by rw [hB]; exact HB9.out.size)
  rw [← hB] 
  clear hb HQ HB9 hw1 HQW hB
  go_wp2_with fail
  go_loopw [5] (fun i wr => ∃ k : Nat, k ≤ 33 ∧ i = .int .i64 k ∧ Hid (RowAt wr q [.string ⟨#[]⟩, .slice none 0 0, .slice none 0 0, .slice none 0 0, .int .i64 0, .int .i64 0] ∧ Below w1.heap.size w1 wr)) (fun i _ => 33 - (intOf i).toNat)
  case atStart => exact ⟨0, Nat.zero_le _, rfl, Lib.hid ⟨HQ1.out, Below.refl _ _⟩⟩
  case round =>
    obtain ⟨k, hk, rfl, HH⟩ := hrel
    have HQ := Lib.hid HH.out.1
    have HB := Lib.hid HH.out.2
    clear HH HQ1
    by_cases hkn : k < 33
    · have hne : ¬ (rowR k).nm = s := HNN.out k hkn
      obtain ⟨rn, hrn⟩ : ∃ x, x = (rowR k).nm := ⟨_, rfl⟩
      rw [← hrn] at hne
      have hs2 := eqs_no hne
      have q0 : wr.cell? ⟨B + 77, k * 6, none⟩ = some (.string rn) := by rw [hrn]; exact lib_cell (HL.out.keep HB.out) k hkn 0 _ (by decide) rfl
      clear hne hrn
      go_wp2_with fail
      go_roundw
      case rel => exact ⟨k + 1, by omega, by go_num, Lib.hid ⟨HQ.out, HB.out⟩⟩
      case measure => (simp [intOf]) <;> omega
    · obtain rfl : k = 33 := by omega
      have r_0 := HQ.out.c 0 _ rfl
      have r_1 := HQ.out.c 1 _ rfl
      have r_2 := HQ.out.c 2 _ rfl
      have r_3 := HQ.out.c 3 _ rfl
      have r_4 := HQ.out.c 4 _ rfl
      have r_5 := HQ.out.c 5 _ rfl
      have r_z := HQ.out.fz
      go_wp2_with fail
      have hs := HQ.out.setRow [.string ⟨#[]⟩, .slice none 0 0, .slice none 0 0, .slice none 0 0, .int .i64 0, .int .i64 0] rfl
      have hB := set_below (HB0.out.trans (HB.out.mono HB0.out.size)) HWQ.out [.string ⟨#[]⟩, .slice none 0 0, .slice none 0 0, .slice none 0 0, .int .i64 0, .int .i64 0]
      have y0 : ((((((wr.setCell ⟨q, 0, none⟩ (.string ⟨#[]⟩)).setCell ⟨q, 1, none⟩ (.slice none 0 0)).setCell ⟨q, 2, none⟩ (.slice none 0 0)).setCell ⟨q, 3, none⟩ (.slice none 0 0)).setCell ⟨q, 4, none⟩ (.int .i64 0)).setCell ⟨q, 5, none⟩ (.int .i64 0)).cell? ⟨q, 0, none⟩ = some (.string ⟨#[]⟩) := hs.c 0 _ rfl
      have y1 : ((((((wr.setCell ⟨q, 0, none⟩ (.string ⟨#[]⟩)).setCell ⟨q, 1, none⟩ (.slice none 0 0)).setCell ⟨q, 2, none⟩ (.slice none 0 0)).setCell ⟨q, 3, none⟩ (.slice none 0 0)).setCell ⟨q, 4, none⟩ (.int .i64 0)).setCell ⟨q, 5, none⟩ (.int .i64 0)).cell? ⟨q, 1, none⟩ = some (.slice none 0 0) := hs.c 1 _ rfl
      have y2 : ((((((wr.setCell ⟨q, 0, none⟩ (.string ⟨#[]⟩)).setCell ⟨q, 1, none⟩ (.slice none 0 0)).setCell ⟨q, 2, none⟩ (.slice none 0 0)).setCell ⟨q, 3, none⟩ (.slice none 0 0)).setCell ⟨q, 4, none⟩ (.int .i64 0)).setCell ⟨q, 5, none⟩ (.int .i64 0)).cell? ⟨q, 2, none⟩ = some (.slice none 0 0) := hs.c 2 _ rfl
      have y3 : ((((((wr.setCell ⟨q, 0, none⟩ (.string ⟨#[]⟩)).setCell ⟨q, 1, none⟩ (.slice none 0 0)).setCell ⟨q, 2, none⟩ (.slice none 0 0)).setCell ⟨q, 3, none⟩ (.slice none 0 0)).setCell ⟨q, 4, none⟩ (.int .i64 0)).setCell ⟨q, 5, none⟩ (.int .i64 0)).cell? ⟨q, 3, none⟩ = some (.slice none 0 0) := hs.c 3 _ rfl
      have y4 : ((((((wr.setCell ⟨q, 0, none⟩ (.string ⟨#[]⟩)).setCell ⟨q, 1, none⟩ (.slice none 0 0)).setCell ⟨q, 2, none⟩ (.slice none 0 0)).setCell ⟨q, 3, none⟩ (.slice none 0 0)).setCell ⟨q, 4, none⟩ (.int .i64 0)).setCell ⟨q, 5, none⟩ (.int .i64 0)).cell? ⟨q, 4, none⟩ = some (.int .i64 0) := hs.c 4 _ rfl
      have y5 : ((((((wr.setCell ⟨q, 0, none⟩ (.string ⟨#[]⟩)).setCell ⟨q, 1, none⟩ (.slice none 0 0)).setCell ⟨q, 2, none⟩ (.slice none 0 0)).setCell ⟨q, 3, none⟩ (.slice none 0 0)).setCell ⟨q, 4, none⟩ (.int .i64 0)).setCell ⟨q, 5, none⟩ (.int .i64 0)).cell? ⟨q, 5, none⟩ = some (.int .i64 0) := hs.c 5 _ rfl
      (try simp only [Exit.inBlock, Exit.then])
      refine bodyPost_ret (by simp [results, Tryd.results15, go_sem, y0, y1, y2, y3, y4, y5]; try rfl) rfl ?_
      have e : ((((((wr.setCell ⟨q, 0, none⟩ (.string ⟨#[]⟩)).setCell ⟨q, 1, none⟩ (.slice none 0 0)).setCell ⟨q, 2, none⟩ (.slice none 0 0)).setCell ⟨q, 3, none⟩ (.slice none 0 0)).setCell ⟨q, 4, none⟩ (.int .i64 0)).setCell ⟨q, 5, none⟩ (.int .i64 0)) = wr.setCells q 0 [.string ⟨#[]⟩, .slice none 0 0, .slice none 0 0, .slice none 0 0, .int .i64 0, .int .i64 0] := rfl
      rw [e]
      exact ⟨rfl, hB⟩
end Go.Proofs.YtaobbedajgkmiaaDoor
