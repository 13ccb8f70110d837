/- Contracts of the functions of numbers of two words, the third part: the quotient; products and quotients of numbers. -/
import Derived.Test.YtaobbedajgkmiaaDoorG
import Derived.Test.YtaobbedajgkmiaaDoorR
import Derived.IntWalk
namespace Go.Proofs.YtaobbedajgkmiaaDoor
open Go.RowKit

/-- the walk of the quotient of a number that is not 0, the words and the signs given -/
theorem quotient_walk (h l h' l' d R Z : Int) (dn : Nat) (s1 s2 : Bool) (w : World) (k : (h = 0 ∧ ¬ l = 0) ∨ ¬ h = 0)
    (Hsz : ∀ w, Calls Tryd.prog 92 #[wordsV h l] w fun e w' => e = .returned (wordsV h' l') ∧ Below w.heap.size w w')
    (Hng : ∀ w, Calls Tryd.prog 94 #[wordsV h l] w fun e w' => e = .returned (.bool s1) ∧ Below w.heap.size w w')
    (Hdv : ∀ w, Calls Tryd.prog 93 #[wordsV h' l', .int .u64 dn] w fun e w' => e = .returned (.int .i64 R) ∧ Below w.heap.size w w')
    (e1 : wrap64 (-d) = -d) (e2 : max d (-d) = (dn : Int)) (e3 : IntKind.u64.wrap (dn : Int) = dn) (e4 : wrap64 (-R) = -R) (e5 : decide (d < 0) = s2) (hZ : Z = if (s1 != s2) = true then -R else R) :
    Calls Tryd.prog 85 #[wordsV h l, .int .i64 d] w fun e w' => e = .returned (.int .i64 Z) ∧ Below w.heap.size w w' := by
  have HS := Lib.hid Hsz
  have HN := Lib.hid Hng
  have HD := Lib.hid Hdv
  clear Hsz Hng Hdv
  simp only [wordsV] at *
  rcases k with ⟨k1, k2⟩ | k1
  all_goals (try subst k1)
  all_goals
    cases s1 <;> cases s2
    all_goals
      simp only [bne_self_eq_false, Bool.false_eq_true, if_false, Bool.true_bne, Bool.false_bne, Bool.not_false, if_true] at hZ
      subst hZ
      go_enter Tryd.func85, Tryd.ntmps85
      go_wp2_with fail
      refine (HS.out _).mono ?_
      rintro e w1 ⟨rfl, hb⟩
      obtain ⟨hc, hf⟩ := bcell hb
      have Hb := Lib.hid hb
      clear hb
      go_wp2_with fail
      refine (HD.out _).mono ?_
      rintro e w2 ⟨rfl, hb2⟩
      have hz : w.heap.size < w1.heap.size := by (have hsz := Hb.out.size; simp at hsz; omega)
      obtain ⟨hc2, hf2⟩ := bcell hb2
      have Hb2 := Lib.hid hb2
      clear hb2
      go_wp2_with fail
      refine (HN.out _).mono ?_
      rintro e w3 ⟨rfl, hb3⟩
      have Hb3 := Lib.hid hb3
      clear hb3
      go_wp2_with fail
      go_ret
      refine ⟨ret_int (by first | rfl | exact e4), (((Below.refl _ _).alloc (Nat.le_refl _) _).trans (Hb.out.mono (by simp))).trans ((Hb2.out.mono (by omega)).trans (Hb3.out.mono ?_))⟩
      have h2 := Hb2.out.size
      omega

set_option maxHeartbeats 400000 in
theorem quotient_zero (d : Int) (w : World) :
    Calls Tryd.prog 85 #[wordsV 0 0, .int .i64 d] w fun e w' => e = .returned (.int .i64 0) ∧ Below w.heap.size w w' := by
  simp only [wordsV]
  go_enter Tryd.func85, Tryd.ntmps85
  go_wp2_with fail
  go_ret
  exact ⟨rfl, (Below.refl _ _).alloc (Nat.le_refl _) _⟩

theorem quotient_any (V d : Int) (w : World) (h1 : -170141183460469231731687303715884105728 < V) (h2 : V < 170141183460469231731687303715884105728) (d1 : -4611686018427387904 < d) (d2 : d < 4611686018427387904) :
    Calls Tryd.prog 85 #[pairV V, .int .i64 d] w fun e w' => e = .returned (.int .i64 (quoI V d)) ∧ Below w.heap.size w w' := by
  have hz := words_zero V (by omega) h2
  by_cases h0 : V = 0
  · obtain ⟨z1, z2⟩ := hz.2 h0
    rw [pairV, z1, z2]
    have := quotient_zero d w
    have e : quoI V d = 0 := by rw [h0]; unfold quoI; rfl
    rw [e]; exact this
  · have hR := divU_range V.natAbs d.natAbs
    refine quotient_walk (hiW V) (loW V) _ _ d (divU V.natAbs d.natAbs) (quoI V d) d.natAbs (decide (V < 0)) (decide (d < 0)) w ?_ (fun w => size_any V w (by omega) h2) (fun w => negative_any V w (by omega) h2)
      (fun w => divided_any V.natAbs d.natAbs w (by omega) (by omega)) ?_ (by omega) ?_ ?_ rfl ?_
    · rcases Decidable.em (hiW V = 0) with k | k
      · exact .inl ⟨k, fun k2 => h0 (hz.1 ⟨k, k2⟩)⟩
      · exact .inr k
    · unfold wrap64; omega
    · rw [IntKind.wrap_u64]; omega
    · unfold wrap64; omega
    · unfold quoI; rw [if_neg h0]
end Go.Proofs.YtaobbedajgkmiaaDoor
