/- The law InterlockWaits. -/
import Derived.Test.YtojbhbifbennfaaFi
import Derived.Test.YtojbhbifbennfaaW
namespace Go.Proofs.Ytojbhbifbennfaa
open Go.RowKit Go.Shelf

theorem wait_cases {P : Nat} {dd on left now : Int} {qs : List RqD} (hE : checkE P dd on left qs = 0) (h1 : 0 ≤ now) (h2 : now ≤ 1000000) :
    (now < left ∧ waitV P dd on left qs now = .tuple #[.int .i64 0, .int .i64 0, .int .i64 6]) ∨ (left ≤ now ∧ (winI qs on = -1 ∨ winI qs on = on) ∧ waitV P dd on left qs now = .tuple #[.int .i64 0, .int .i64 0, .int .i64 9]) ∨ (left ≤ now ∧ winI qs on ≠ -1 ∧ winI qs on ≠ on ∧ waitV P dd on left qs now = .tuple #[.int .i64 (winI qs on), .int .i64 (waitT on left dd now), .int .i64 0]) := by
  have hc := checkAt_two (P := P) (dd := dd) (on := on) (left := left) (qs := qs) hE h1 (show now ≤ 6311433599 by omega)
  by_cases h3 : now < left
  · rw [if_pos h3] at hc
    exact .inl ⟨h3, by unfold waitV; rw [hc, if_neg (by decide)]⟩
  · rw [if_neg h3] at hc
    refine .inr ?_
    by_cases h4 : winI qs on = -1 ∨ winI qs on = on
    · exact .inl ⟨by omega, h4, by unfold waitV; rw [if_pos hc, if_pos h4]⟩
    · refine .inr ⟨by omega, fun h => h4 (.inl h), fun h => h4 (.inr h), ?_⟩
      unfold waitV waitT
      rw [if_pos hc, if_neg h4]
      by_cases h5 : on ≠ -1
      · rw [if_pos h5, if_pos h5]
      · rw [if_neg h5, if_neg h5]
theorem wait_bad {P : Nat} {dd on left now : Int} {qs : List RqD} (hE : checkE P dd on left qs ≠ 0) : winV P dd on left qs = .tuple #[.int .i64 0, .int .i64 1] ∧ waitV P dd on left qs now = .tuple #[.int .i64 0, .int .i64 0, .int .i64 1] := by
  have h1 : checkE P dd on left qs = 1 := (check_is P dd on left qs).resolve_left hE
  refine ⟨by unfold winV; rw [if_neg hE], ?_⟩
  have hc : checkAtE P dd on left qs now = 1 := by unfold checkAtE; rw [if_pos hE, h1]
  unfold waitV
  rw [hc, if_neg (by decide)]
theorem ins_one (w : World) (a : Option Addr) (n c : Nat) (T : Nat) : InS (w.alloc (Obj.cells #[.slice a n c] T)) (some ⟨w.heap.size, 0, none⟩) 1 1 (flat slL [⟨a, n, c⟩]) :=
  ⟨rfl, by omega, .inr ⟨_, _, rfl, by rw [World.size_alloc]; omega, fun j v hv => by rw [Nat.zero_add, World.cell?_alloc_new]; simpa [flat, slL] using hv⟩⟩
theorem rows_one {w : World} {a : Option Addr} {c : Nat} {ls : List Int} (h : InS w a ls.length 1 (flat iL ls)) : RowsIn w [⟨a, ls.length, c⟩] [ls] := ⟨rfl, fun i x a' hx ha => by
  cases i with
  | zero =>
    obtain rfl : (⟨a, ls.length, c⟩ : SlD) = x := by simpa using hx
    obtain rfl : ls = a' := by simpa using ha
    exact ⟨rfl, h⟩
  | succ i => simp at hx⟩
/-- a round's facts -/
theorem wround {P : Nat} {on left dd now W t o l : Int} {qs : List RqD} (hE : checkE P dd on left qs = 0) (hn : 0 ≤ now) (hn2 : now ≤ 1000000) (hd : dd ≤ 60) (h1 : left ≤ now) (hw : winI qs on = W) (hW : W ≠ -1) (hWo : W ≠ on) (h : WInv P on left dd now W t o l) (ht : t ≤ waitT on left dd now) :
    ∃ o' l', stepV P dd o l qs t = .tuple #[.agg #[.int .i64 o', .int .i64 l'], .int .i64 0] ∧ winV P dd o' l' qs = .tuple #[.int .i64 W, .int .i64 0] ∧ WInv P on left dd now W (t + 1) o' l' ∧ decide (o' = W) = decide (t = waitT on left dd now) := by
  obtain ⟨g1, g2, g3, g4, g5, g6⟩ := winv_step hE hn hw hW hWo h ht
  have hle := waitT_le (on := on) (left := left) (now := now) (check_ok hE).2.2.2.2.1 h1
  have hlo := h.lo
  have hlt := h.lt
  refine ⟨(stepS o l dd t W).1, (stepS o l dd t W).2, ?_, ?_, g3, g6⟩
  · unfold stepV
    rw [if_pos (checkAt_mk g2 (by omega) (by omega) hlt), g1]
  · unfold winV
    rw [if_pos g5, g4]

set_option maxHeartbeats 8000000 in
set_option maxRecDepth 100000 in
theorem waits_law (nm : Value) (pa : Option Addr) (P pc : Nat) (dd : Int) (on left : Int) (a : Option Addr) (cap : Nat) (ls : List Int) (now : Int) (w : World) (hin : InS w a ls.length 1 (flat iL ls)) : Calls Try.prog 9 #[.agg #[nm, .slice pa P pc, .int .i64 dd], .int .i64 on, .int .i64 left, .slice a ls.length cap, .int .i64 now] w fun e w' => e = .returned (.bool true) ∧ Below w.heap.size w w' := by
  have HFI := Lib.hid (fun (W' : World) (hb : Below w.heap.size w W') => fits_any nm pa P pc dd now (some ⟨W'.heap.size, 0, none⟩) 1 [⟨a, ls.length, cap⟩] [ls] (W'.alloc (Obj.cells #[.slice a ls.length cap] 64)) (ins_one W' a ls.length cap 64) (rows_one ((hin.keep hb).keep (bel_new _))))
  have HASK := Lib.hid (fun (W' : World) (hb : Below w.heap.size w W') (h : ls.length ≤ 100000) => ask_any a cap ls W' h (hin.keep hb))
  have HAW := Lib.hid awake_yes
  obtain ⟨N, hN⟩ : ∃ N, N = ls.length := ⟨_, rfl⟩
  rw [← hN] at HFI HASK ⊢
  have HN := Lib.hid hN
  clear hN hin
  obtain ⟨W, g, hW, hg, R1, B, sz⟩ := box1 w #[nm, .slice pa P pc, .int .i64 dd] 33
  have HG := Lib.hid R1
  have HB := Lib.hid B
  clear R1 B sz
  go_enter Try.func9, Try.ntmps9
  go_wp2_with fail
  rw [← hW]
  try rw [← hg]
  clear hW hg
  refine (HAW.out _).mono ?_
  rintro e w1 ⟨rfl, hb⟩
  have HG1 := Lib.hid (HG.out.keep hb)
  have HB1 := Lib.hid (HB.out.trans (hb.mono HB.out.size))
  clear hb HG HB HAW
  have g_0 := HG1.out.c 0 _ rfl
  have g_1 := HG1.out.c 1 _ rfl
  have g_2 := HG1.out.c 2 _ rfl
  have HGA := Lib.hid (HG1.out.keep (bel_new (Obj.cells #[.slice a N cap] 64)))
  have x_0 := HGA.out.c 0 _ rfl
  have x_1 := HGA.out.c 1 _ rfl
  have x_2 := HGA.out.c 2 _ rfl
  go_wp2_with fail
  refine (HFI.out _ HB1.out).mono ?_
  rintro e w2 ⟨hf, hb⟩
  have HG2 := Lib.hid (HGA.out.keep hb)
  have HB2 := Lib.hid (HB1.out.trans ((bel_new (Obj.cells #[.slice a N cap] 64)).trans (hb.mono (by rw [World.size_alloc]; omega)) |>.mono HB1.out.size))
  clear hb HG1 HB1 HFI HGA g_0 g_1 g_2 x_0 x_1 x_2
  have g_0 := HG2.out.c 0 _ rfl
  have g_1 := HG2.out.c 1 _ rfl
  have g_2 := HG2.out.c 2 _ rfl
  rcases hf with ⟨rfl, hF, hP20⟩ | rfl
  rotate_left
  · go_wp2_with fail
    go_ret
    exact ⟨rfl, HB2.out⟩
  by_cases h60 : 60 < dd
  · go_wp2_with fail
    go_ret
    exact ⟨rfl, HB2.out⟩
  have HF := Lib.hid hF
  have HNP := Lib.hid (show N = P by rw [HN.out]; exact (hF.row ls List.mem_cons_self).1)
  have HQ := Lib.hid (show (ls.map askR).any noB = false from asks_ok (hF.row ls List.mem_cons_self).2)
  clear hF
  go_upto_region 6 with fail
  clear g_0 g_1 g_2
  obtain ⟨W3, s, hW3, hs, R2, B2, sz2⟩ := box1 w2 #[.int .i64 on, .int .i64 left] 37
  have HS3 := Lib.hid R2
  have HG3 := Lib.hid (HG2.out.keep B2)
  have HB3 := Lib.hid (HB2.out.trans (B2.mono HB2.out.size))
  have HWS := Lib.hid (show w.heap.size ≤ s by have := HB2.out.size; omega)
  have HGS := Lib.hid (show g ≠ s by have := HG2.out.lt; omega)
  rw [← hW3]
  try rw [← hs]
  clear hW3 hs R2 B2 sz2 HG2 HB2
  go_wp2_with fail
  refine (HASK.out _ HB3.out (by have := HNP.out; omega)).mono ?_
  rintro e w4 ⟨v4, rfl, ho, hb⟩
  have HG4 := Lib.hid (HG3.out.keep hb)
  have HS4 := Lib.hid (HS3.out.keep hb)
  have HB4 := Lib.hid (HB3.out.trans (hb.mono HB3.out.size))
  obtain ⟨b, c, rfl, hi⟩ := ins_own ho
  have HAP := Lib.hid (own_apart ho (r := s) HS3.out.lt)
  obtain ⟨qs, hqs⟩ : ∃ qs, qs = ls.map askR := ⟨_, rfl⟩
  rw [← hqs] at hi HQ
  have HI4 := Lib.hid hi
  have hql : qs.length = N := by rw [hqs, List.length_map, HN.out]
  have HQL := Lib.hid hql
  clear hb hi ho HG3 HS3 HB3 hqs hql HASK
  have HC1 := Lib.hid (fun (o l : Int) (W' : World) (h : InS W' b N 3 (flat rqL qs)) => (show Calls Try.prog 17 #[.agg #[nm, .slice pa P pc, .int .i64 dd], .agg #[.int .i64 o, .int .i64 l], .slice b N c] W' fun e w' => e = .returned (winV P dd o l qs) ∧ Below W'.heap.size W' w' by have k := winnerX_any nm pa P pc dd o l b c qs W' (by rw [HQL.out]; exact h); rw [HQL.out] at k; exact k))
  have HC2 := Lib.hid (fun (o l t : Int) (W' : World) (h : InS W' b N 3 (flat rqL qs)) => (show Calls Try.prog 19 #[.agg #[nm, .slice pa P pc, .int .i64 dd], .agg #[.int .i64 o, .int .i64 l], .slice b N c, .int .i64 t] W' fun e w' => e = .returned (stepV P dd o l qs t) ∧ Below W'.heap.size W' w' by have k := stepX_any nm pa P pc dd o l b c qs t W' (by rw [HQL.out]; exact h); rw [HQL.out] at k; exact k))
  have HC3 := Lib.hid (fun (o l t : Int) (W' : World) (h : InS W' b N 3 (flat rqL qs)) => (show Calls Try.prog 21 #[.agg #[nm, .slice pa P pc, .int .i64 dd], .agg #[.int .i64 o, .int .i64 l], .slice b N c, .int .i64 t] W' fun e w' => e = .returned (waitV P dd o l qs t) ∧ Below W'.heap.size W' w' by have k := waitX_any nm pa P pc dd o l b c qs t W' (by rw [HQL.out]; exact h); rw [HQL.out] at k; exact k))
  obtain ⟨VW, hVW⟩ : ∃ V, V = winV P dd on left qs := ⟨_, rfl⟩
  obtain ⟨VT, hVT⟩ : ∃ V, V = waitV P dd on left qs now := ⟨_, rfl⟩
  have HD1 := Lib.hid (fun (W' : World) (h : InS W' b N 3 (flat rqL qs)) => HC1.out on left W' h)
  have HD3 := Lib.hid (fun (W' : World) (h : InS W' b N 3 (flat rqL qs)) => HC3.out on left now W' h)
  rw [← hVW] at HD1
  rw [← hVT] at HD3
  have HVW := Lib.hid hVW
  have HVT := Lib.hid hVT
  clear hVW hVT HC3
  by_cases hE : checkE P dd on left qs = 0
  · have HE := Lib.hid hE
    have hF := HF.out
    obtain ⟨Wn, hWn⟩ : ∃ x, winI qs on = x := ⟨_, rfl⟩
    obtain rfl : VW = .tuple #[.int .i64 Wn, .int .i64 0] := HVW.out.trans (by unfold winV; rw [if_pos hE, hWn])
    have hcs := wait_cases (now := now) hE hF.n0 hF.n1
    rw [hWn, ← HVT.out] at hcs
    have HWN := Lib.hid hWn
    clear hE hWn hF
    rcases hcs with ⟨q1, rfl⟩ | ⟨q1, q2, rfl⟩ | ⟨q1, q2, q3, rfl⟩
    · have go0 := HG4.out.c 0 _ rfl
      have go1 := HG4.out.c 1 _ rfl
      have go2 := HG4.out.c 2 _ rfl
      have so0 := HS4.out.c 0 _ rfl
      have so1 := HS4.out.c 1 _ rfl
      go_wp2_with fail
      refine (HD1.out _ HI4.out).mono ?_
      rintro e w5 ⟨rfl, hb⟩
      clear go0 go1 go2
      clear so0 so1
      have HG5 := Lib.hid (HG4.out.keep hb)
      have HS5 := Lib.hid (HS4.out.keep hb)
      have HI5 := Lib.hid (HI4.out.keep hb)
      have HB5 := Lib.hid (HB4.out.trans (hb.mono HB4.out.size))
      clear hb HG4 HS4 HI4 HB4
      have go0 := HG5.out.c 0 _ rfl
      have go1 := HG5.out.c 1 _ rfl
      have go2 := HG5.out.c 2 _ rfl
      have so0 := HS5.out.c 0 _ rfl
      have so1 := HS5.out.c 1 _ rfl
      go_wp2_with fail
      refine (HD3.out _ HI5.out).mono ?_
      rintro e w6 ⟨rfl, hb⟩
      clear go0 go1 go2
      clear so0 so1
      have HG6 := Lib.hid (HG5.out.keep hb)
      have HS6 := Lib.hid (HS5.out.keep hb)
      have HI6 := Lib.hid (HI5.out.keep hb)
      have HB6 := Lib.hid (HB5.out.trans (hb.mono HB5.out.size))
      clear hb HG5 HS5 HI5 HB5
      go_wp2_with fail
      go_ret
      exact ⟨rfl, HB6.out⟩
    · by_cases q4 : Wn = -1
      · subst q4
        clear q2
        have go0 := HG4.out.c 0 _ rfl
        have go1 := HG4.out.c 1 _ rfl
        have go2 := HG4.out.c 2 _ rfl
        have so0 := HS4.out.c 0 _ rfl
        have so1 := HS4.out.c 1 _ rfl
        go_wp2_with fail
        refine (HD1.out _ HI4.out).mono ?_
        rintro e w5 ⟨rfl, hb⟩
        clear go0 go1 go2
        clear so0 so1
        have HG5 := Lib.hid (HG4.out.keep hb)
        have HS5 := Lib.hid (HS4.out.keep hb)
        have HI5 := Lib.hid (HI4.out.keep hb)
        have HB5 := Lib.hid (HB4.out.trans (hb.mono HB4.out.size))
        clear hb HG4 HS4 HI4 HB4
        have go0 := HG5.out.c 0 _ rfl
        have go1 := HG5.out.c 1 _ rfl
        have go2 := HG5.out.c 2 _ rfl
        have so0 := HS5.out.c 0 _ rfl
        have so1 := HS5.out.c 1 _ rfl
        go_wp2_with fail
        refine (HD3.out _ HI5.out).mono ?_
        rintro e w6 ⟨rfl, hb⟩
        clear go0 go1 go2
        clear so0 so1
        have HG6 := Lib.hid (HG5.out.keep hb)
        have HS6 := Lib.hid (HS5.out.keep hb)
        have HI6 := Lib.hid (HI5.out.keep hb)
        have HB6 := Lib.hid (HB5.out.trans (hb.mono HB5.out.size))
        clear hb HG5 HS5 HI5 HB5
        go_wp2_with fail
        go_ret
        exact ⟨rfl, HB6.out⟩
      · have q5 : Wn = on := q2.resolve_left q4
        have t1 : (Wn == -1) = false := by rw [beq_eq_false_iff_ne]; exact q4
        clear q2
        subst q5
        have go0 := HG4.out.c 0 _ rfl
        have go1 := HG4.out.c 1 _ rfl
        have go2 := HG4.out.c 2 _ rfl
        have so0 := HS4.out.c 0 _ rfl
        have so1 := HS4.out.c 1 _ rfl
        go_wp2_with fail
        refine (HD1.out _ HI4.out).mono ?_
        rintro e w5 ⟨rfl, hb⟩
        clear go0 go1 go2
        clear so0 so1
        have HG5 := Lib.hid (HG4.out.keep hb)
        have HS5 := Lib.hid (HS4.out.keep hb)
        have HI5 := Lib.hid (HI4.out.keep hb)
        have HB5 := Lib.hid (HB4.out.trans (hb.mono HB4.out.size))
        clear hb HG4 HS4 HI4 HB4
        have go0 := HG5.out.c 0 _ rfl
        have go1 := HG5.out.c 1 _ rfl
        have go2 := HG5.out.c 2 _ rfl
        have so0 := HS5.out.c 0 _ rfl
        have so1 := HS5.out.c 1 _ rfl
        go_wp2_with fail
        refine (HD3.out _ HI5.out).mono ?_
        rintro e w6 ⟨rfl, hb⟩
        clear go0 go1 go2
        clear so0 so1
        have HG6 := Lib.hid (HG5.out.keep hb)
        have HS6 := Lib.hid (HS5.out.keep hb)
        have HI6 := Lib.hid (HI5.out.keep hb)
        have HB6 := Lib.hid (HB5.out.trans (hb.mono HB5.out.size))
        clear hb HG5 HS5 HI5 HB5
        go_wp2_with fail
        go_ret
        exact ⟨rfl, HB6.out⟩
    · have go0 := HG4.out.c 0 _ rfl
      have go1 := HG4.out.c 1 _ rfl
      have go2 := HG4.out.c 2 _ rfl
      have so0 := HS4.out.c 0 _ rfl
      have so1 := HS4.out.c 1 _ rfl
      go_wp2_with fail
      refine (HD1.out _ HI4.out).mono ?_
      rintro e w5 ⟨rfl, hb⟩
      clear go0 go1 go2
      clear so0 so1
      have HG5 := Lib.hid (HG4.out.keep hb)
      have HS5 := Lib.hid (HS4.out.keep hb)
      have HI5 := Lib.hid (HI4.out.keep hb)
      have HB5 := Lib.hid (HB4.out.trans (hb.mono HB4.out.size))
      clear hb HG4 HS4 HI4 HB4
      have go0 := HG5.out.c 0 _ rfl
      have go1 := HG5.out.c 1 _ rfl
      have go2 := HG5.out.c 2 _ rfl
      have so0 := HS5.out.c 0 _ rfl
      have so1 := HS5.out.c 1 _ rfl
      go_wp2_with fail
      refine (HD3.out _ HI5.out).mono ?_
      rintro e w6 ⟨rfl, hb⟩
      clear go0 go1 go2
      clear so0 so1
      have HG6 := Lib.hid (HG5.out.keep hb)
      have HS6 := Lib.hid (HS5.out.keep hb)
      have HI6 := Lib.hid (HI5.out.keep hb)
      have HB6 := Lib.hid (HB5.out.trans (hb.mono HB5.out.size))
      clear hb HG5 HS5 HI5 HB5
      obtain ⟨T, hT⟩ : ∃ x, waitT on left dd now = x := ⟨_, rfl⟩
      have HF0 := Lib.hid HF.out
      have hd0 : 0 ≤ dd := HF0.out.d0
      have hn0 : 0 ≤ now := HF0.out.n0
      have hn1 : now ≤ 1000000 := HF0.out.n1
      have hT1 : now ≤ T := by rw [← hT]; exact waitT_ge hd0
      have hT2 : T ≤ now + dd + 1 := by rw [← hT]; exact waitT_le hd0 q1
      have w1' : IntKind.i64.wrap (now + dd) = now + dd := IntWalk.i64_in _ ⟨by omega, by omega⟩
      have w2' : IntKind.i64.wrap (now + dd + 1) = now + dd + 1 := IntWalk.i64_in _ ⟨by omega, by omega⟩
      have m1 : ¬ T < now := by omega
      have m2 : ¬ now + dd + 1 < T := by omega
      have HTE := Lib.hid hT
      rw [hT]
      have g_0 := HG6.out.c 0 _ rfl
      have g_1 := HG6.out.c 1 _ rfl
      have g_2 := HG6.out.c 2 _ rfl
      go_wp2_with fail
      clear g_0 g_1 g_2
      have HINV0 := Lib.hid (winv_start (W := Wn) HE.out q1)
      have HQ1 := Lib.hid q1
      have HQ2 := Lib.hid q2
      have HQ3 := Lib.hid q3
      have HD60 := Lib.hid (show dd ≤ 60 by omega)
      have HTT := Lib.hid (show T ≤ 1000061 by omega)
      have HAP6 := HAP
      clear hT q1 q2 q3 m1 m2 w1' w2' h60
      go_loopw [18] (fun i wr => ∃ t o l : Int, i = .int .i64 t ∧ 0 ≤ t ∧ t ≤ T + 1 ∧ Hid (WInv P on left dd now Wn t o l ∧ RowAt wr s [.int .i64 o, .int .i64 l] ∧ RowAt wr g [nm, .slice pa P pc, .int .i64 dd] ∧ InS wr b N 3 (flat rqL qs) ∧ Below w.heap.size w wr)) (fun i _ => (T + 1 - intOf i).toNat)
      case atStart => exact ⟨now, on, left, rfl, hn0, by omega, Lib.hid ⟨HINV0.out, HS6.out, HG6.out, HI6.out, HB6.out⟩⟩
      case round =>
        obtain ⟨t, o, l, rfl, ht0, ht1, hH⟩ := hrel
        have HB7 := Lib.hid hH.out.2.2.2.2
        by_cases hlt : t ≤ T
        · obtain ⟨o', l', e1, e2, e3, e4⟩ := wround HE.out HF0.out.n0 HF0.out.n1 HD60.out HQ1.out HWN.out HQ2.out HQ3.out hH.out.1 (by rw [HTE.out]; exact hlt)
          have HS7 := Lib.hid hH.out.2.1
          have HG7 := Lib.hid hH.out.2.2.1
          have HI7 := Lib.hid hH.out.2.2.2.1
          have hc2 := HC2.out o l t wr HI7.out
          rw [e1] at hc2
          have hc1 := fun (W' : World) (h : InS W' b N 3 (flat rqL qs)) => HC1.out o' l' W' h
          rw [e2] at hc1
          have HK1 := Lib.hid hc1
          have HK2 := Lib.hid hc2
          have HE3 := Lib.hid e3
          rw [HTE.out] at e4
          have HE4 := Lib.hid e4
          clear e1 e2 e3 e4 hc1 hc2 hH hd0 hn0 hn1 hT1 hT2
          have g_0 := HG7.out.c 0 _ rfl
          have g_1 := HG7.out.c 1 _ rfl
          have g_2 := HG7.out.c 2 _ rfl
          have s_0 := HS7.out.c 0 _ rfl
          have s_1 := HS7.out.c 1 _ rfl
          go_wp2_with fail
          refine HK2.out.mono ?_
          rintro e w8 ⟨rfl, hb⟩
          have hk := hb.alloc hb.size (Obj.cells #[.int .i64 o', .int .i64 l'] 37)
          have HG8 := Lib.hid (HG7.out.keep hk)
          have HS8 := Lib.hid (HS7.out.keep hk)
          have HI8 := Lib.hid (HI7.out.keep hk)
          have HX8 := Lib.hid (row_fresh w8 #[.int .i64 o', .int .i64 l'] 37)
          have HB8 := Lib.hid (HB7.out.trans (hk.mono HB7.out.size))
          clear hb hk g_0 g_1 g_2 s_0 s_1 HG7 HS7 HI7 HB7
          have g_0 := HG8.out.c 0 _ rfl
          have g_1 := HG8.out.c 1 _ rfl
          have g_2 := HG8.out.c 2 _ rfl
          have x_0 := HX8.out.c 0 _ rfl
          have x_1 := HX8.out.c 1 _ rfl
          go_wp2_with fail
          refine (HK1.out _ HI8.out).mono ?_
          rintro e w9 ⟨rfl, hb⟩
          have HG9 := Lib.hid (HG8.out.keep hb)
          have HS9 := Lib.hid (HS8.out.keep hb)
          have HI9 := Lib.hid (HI8.out.keep hb)
          have HX9 := Lib.hid (HX8.out.keep hb)
          have HB9 := Lib.hid (HB8.out.trans (hb.mono HB8.out.size))
          clear hb g_0 g_1 g_2 x_0 x_1 HG8 HS8 HI8 HX8 HB8
          have HSF := Lib.hid (HS9.out.setRow [.int .i64 o', .int .i64 l'] rfl)
          have HGF := Lib.hid (HG9.out.other (Ne.symm HGS.out) [.int .i64 o', .int .i64 l'])
          have HIF := Lib.hid (ins_sets HI9.out HAP6.out [.int .i64 o', .int .i64 l'])
          have HBF := Lib.hid (set_below HB9.out HWS.out [.int .i64 o', .int .i64 l'])
          have w3' : IntKind.i64.wrap (t + 1) = t + 1 := IntWalk.i64_in _ (by have := HTT.out; exact ⟨by omega, by omega⟩)
          by_cases hte : t = T
          · have t1 : (o' == Wn) = true := by
              have h := HE4.out
              rw [decide_eq_true hte] at h
              simpa using h
            have t2 : (t == T) = true := by simpa using hte
            have x_0 := HX9.out.c 0 _ rfl
            have x_1 := HX9.out.c 1 _ rfl
            have s_0 := HS9.out.c 0 _ rfl
            have s_1 := HS9.out.c 1 _ rfl
            have s_z := HS9.out.fz
            clear hte
            go_wp2_with fail
            go_roundw
            case rel => exact ⟨t + 1, o', l', rfl, by omega, by omega, Lib.hid ⟨HE3.out, HSF.out, HGF.out, HIF.out, HBF.out⟩⟩
            case measure => (simp [intOf]) <;> omega
          · have t1 : (o' == Wn) = false := by
              have h := HE4.out
              rw [decide_eq_false hte] at h
              simpa using h
            have t2 : (t == T) = false := by simpa using hte
            have x_0 := HX9.out.c 0 _ rfl
            have x_1 := HX9.out.c 1 _ rfl
            have s_0 := HS9.out.c 0 _ rfl
            have s_1 := HS9.out.c 1 _ rfl
            have s_z := HS9.out.fz
            clear hte
            go_wp2_with fail
            go_roundw
            case rel => exact ⟨t + 1, o', l', rfl, by omega, by omega, Lib.hid ⟨HE3.out, HSF.out, HGF.out, HIF.out, HBF.out⟩⟩
            case measure => (simp [intOf]) <;> omega
        · clear hH
          go_wp2_with fail
          go_ret
          exact ⟨rfl, HB7.out⟩
  · obtain ⟨b1, b2⟩ := wait_bad (now := now) hE
    obtain rfl : VW = .tuple #[.int .i64 0, .int .i64 1] := HVW.out.trans b1
    obtain rfl : VT = .tuple #[.int .i64 0, .int .i64 0, .int .i64 1] := HVT.out.trans b2
    clear hE b1 b2
    have go0 := HG4.out.c 0 _ rfl
    have go1 := HG4.out.c 1 _ rfl
    have go2 := HG4.out.c 2 _ rfl
    have so0 := HS4.out.c 0 _ rfl
    have so1 := HS4.out.c 1 _ rfl
    go_wp2_with fail
    refine (HD1.out _ HI4.out).mono ?_
    rintro e w5 ⟨rfl, hb⟩
    clear go0 go1 go2
    clear so0 so1
    have HG5 := Lib.hid (HG4.out.keep hb)
    have HS5 := Lib.hid (HS4.out.keep hb)
    have HI5 := Lib.hid (HI4.out.keep hb)
    have HB5 := Lib.hid (HB4.out.trans (hb.mono HB4.out.size))
    clear hb HG4 HS4 HI4 HB4
    have go0 := HG5.out.c 0 _ rfl
    have go1 := HG5.out.c 1 _ rfl
    have go2 := HG5.out.c 2 _ rfl
    have so0 := HS5.out.c 0 _ rfl
    have so1 := HS5.out.c 1 _ rfl
    go_wp2_with fail
    refine (HD3.out _ HI5.out).mono ?_
    rintro e w6 ⟨rfl, hb⟩
    clear go0 go1 go2
    clear so0 so1
    have HG6 := Lib.hid (HG5.out.keep hb)
    have HS6 := Lib.hid (HS5.out.keep hb)
    have HI6 := Lib.hid (HI5.out.keep hb)
    have HB6 := Lib.hid (HB5.out.trans (hb.mono HB5.out.size))
    clear hb HG5 HS5 HI5 HB5
    go_wp2_with fail
    go_ret
    exact ⟨rfl, HB6.out⟩
end Go.Proofs.Ytojbhbifbennfaa
