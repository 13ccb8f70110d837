/- The law Settles of timer. Asked: MaxLen's cell holds some number. -/
import Derived.Test.YtmhfkdnblemfdaaDoorDk
import Derived.Test.YtmhfkdnblemfdaaDoorDq
namespace Go.Proofs.YtmhfkdnblemfdaaDoor
open Go.RowKit Go.Shelf

set_option linter.unusedVariables false
set_option linter.unusedSimpArgs false
theorem seqS_all (P : List Int → Bool) (F : List Int → List Int) (S : List Int) (h0 : P S = true) (h : ∀ S, P S = true → P (F S) = true) : ∀ k, P (seqS F S k) = true
  | 0 => h0
  | k + 1 => h _ (seqS_all P F S h0 h k)
theorem seqS_id (S : List Int) : ∀ k, seqS id S k = S
  | 0 => rfl
  | k + 1 => by show id (seqS id S k) = S; rw [seqS_id S k]; rfl
theorem pick (P : List Int → Bool) (F : List Int → List Int) (S : List Int) (μ : List Int → Int) (h0 : P S = true) (h : ∀ S, P S = true → (0 ≤ μ S ∧ μ S ≤ 1000) ∧ (F S ≠ S → μ (F S) < μ S) ∧ P (F S) = true) :
    ∃ N : Nat, 1 ≤ N ∧ N ≤ 1002 ∧ seqS F S N = seqS F S (N - 1) ∧ (∀ k, k + 1 < N → seqS F S (k + 1) ≠ seqS F S k) ∧ ∀ k, P (seqS F S k) = true := by
  have hP := seqS_all P F S h0 (fun S hS => (h S hS).2.2)
  obtain ⟨N, a, b, c, d⟩ := first_fix F S (fun k => μ (seqS F S k)) 1000 (fun k => (h _ (hP k)).1.1) (fun k hk => (h _ (hP k)).2.1 hk) (h _ h0).1.2
  exact ⟨N, a, b, c, d, hP⟩
theorem late_fix (F : List Int → List Int) (O : List Int → Int) (S : List Int) (N : Nat) (h1 : 1 ≤ N) (hf : seqS F S N = seqS F S (N - 1)) (hn : ∀ k, k + 1 < N → seqS F S (k + 1) ≠ seqS F S k) :
    ∃ M : Nat, 2 ≤ M ∧ M ≤ N + 1 ∧ seqS F S M = seqS F S (M - 1) ∧ (∀ k, 1 ≤ k → k + 1 < M → seqS F S (k + 1) ≠ seqS F S k) ∧ svV F O S M = svV F O S N := by
  by_cases h : N = 1
  · subst h
    refine ⟨2, by omega, by omega, ?_, fun k a b => by omega, sv_fix F O S hf⟩
    show F (seqS F S 1) = F (seqS F S 0)
    rw [show seqS F S 1 = seqS F S 0 from hf]
  · exact ⟨N, by omega, by omega, hf, fun k a b => hn k b, rfl⟩
theorem inS_row {w : World} {sb n : Nat} {xs : List Int} (h : RowAt w sb (flat iL xs)) (hl : xs.length ≤ 2) : InS w (some ⟨sb, 0, none⟩) xs.length 1 (flat iL xs) :=
  ⟨by rw [flat_len iL_len], by omega, .inr ⟨sb, 0, rfl, h.lt, fun j u hu => by rw [Nat.zero_add]; exact h.c j u hu⟩⟩
set_option maxHeartbeats 4000000 in
theorem kr_count (pa sa : Option Addr) (pc sc : Nat) (ps st : List Int) (w : World) (hm : MaxAt w) (hps : InS w pa ps.length 1 (flat iL ps)) (hwf : ∀ v ∈ ps, (Lit.int .i64 v).wf = true) (hst : InS w sa st.length 1 (flat iL st)) :
    ∀ W, Below w.heap.size w W → Calls Tryd.prog 21 #[.string ⟨#[99, 111, 117, 110, 116]⟩, .slice pa ps.length pc, .slice sa st.length sc] W fun e w' => ∃ R, e = .returned (.tuple #[R, .int .i64 (if (form_none ps && poss_count st) = true then 0 else 1)]) ∧ ((form_none ps && poss_count st) = true → ResOk W ⟨#[99, 111, 117, 110, 116]⟩ ⟨#[97, 110, 97, 108, 111, 103]⟩ 1 2 [] [⟨⟨#[97]⟩, ⟨#[98, 105, 110, 97, 114, 121]⟩⟩, ⟨⟨#[114, 101, 115, 101, 116]⟩, ⟨#[98, 105, 110, 97, 114, 121]⟩⟩] pa ps.length pc st R w') ∧ Below W.heap.size W w' := by
  refine fun W hW => resume_2 ⟨#[99, 111, 117, 110, 116]⟩ ⟨#[97, 110, 97, 108, 111, 103]⟩ 1 [] [⟨⟨#[97]⟩, ⟨#[98, 105, 110, 97, 114, 121]⟩⟩, ⟨⟨#[114, 101, 115, 101, 116]⟩, ⟨#[98, 105, 110, 97, 114, 121]⟩⟩] (fun _ => true) (by decide +kernel) find_count (agree_count _) pa pc ps (by decide) hwf (by unfold maxLen; decide +kernel) sa sc st (form_none ps) (poss_count st) W (hm.keep hW) (hps.keep hW) (hst.keep hW) (formed_count ps) (fun h => poss_count_at h) ?_
  intro hF w1 rb a1 c1 a2 c2 ob w5 hr hbW
  have hb := hW.trans (hbW.mono hW.size)
  obtain ⟨rfl, hrng⟩ := form_none_at hF
  exact poss_count_any rb sc sa st _ _ _ _ _ _ w1 hr (hst.keep hb)
set_option maxHeartbeats 4000000 in
theorem rgood_count (pa sa va : Option Addr) (pc sc vc : Nat) (ps st : List Int) (vs : List ValD) (V : Bool) (w : World) (hz : (tmE (form_none ps && poss_count st) [⟨⟨#[97]⟩, ⟨#[98, 105, 110, 97, 114, 121]⟩⟩, ⟨⟨#[114, 101, 115, 101, 116]⟩, ⟨#[98, 105, 110, 97, 114, 121]⟩⟩] vs V 1) = 0) (hps : InS w pa ps.length 1 (flat iL ps)) (hst : InS w sa st.length 1 (flat iL st)) (hin : InS w va vs.length 2 (flat valL vs)) (hV : V = true ↔ ∀ v ∈ vs, fitsB v.k v.n 2 = true) :
    Calls Tryd.prog 12 #[.string ⟨#[99, 111, 117, 110, 116]⟩, .slice pa ps.length pc, .slice sa st.length sc, .slice va vs.length vc, .int .i64 1] w fun e w' => ∃ gr, e = .returned (.tuple #[.slice (some ⟨gr, 0, none⟩) 2 2, .agg #[.int .i64 1, .int .i64 (1000 * cntS (vs.getD 0 ⟨0, 0⟩).n (vs.getD 1 ⟨0, 0⟩).n (st.getD 0 0) (st.getD 1 0))], .int .i64 0]) ∧ w.heap.size ≤ gr ∧ RowAt w' gr (flat iL [(vs.getD 0 ⟨0, 0⟩).n, cntS (vs.getD 0 ⟨0, 0⟩).n (vs.getD 1 ⟨0, 0⟩).n (st.getD 0 0) (st.getD 1 0)]) ∧ Below w.heap.size w w' := by
  refine rStep_good ⟨#[99, 111, 117, 110, 116]⟩ _ _ _ 1 (tmE (form_none ps && poss_count st) [⟨⟨#[97]⟩, ⟨#[98, 105, 110, 97, 114, 121]⟩⟩, ⟨⟨#[114, 101, 115, 101, 116]⟩, ⟨#[98, 105, 110, 97, 114, 121]⟩⟩] vs V 1) 1 (1000 * cntS (vs.getD 0 ⟨0, 0⟩).n (vs.getD 1 ⟨0, 0⟩).n (st.getD 0 0) (st.getD 1 0)) [(vs.getD 0 ⟨0, 0⟩).n, cntS (vs.getD 0 ⟨0, 0⟩).n (vs.getD 1 ⟨0, 0⟩).n (st.getD 0 0) (st.getD 1 0)] 2 (by decide) rfl hz w (Lib.hid (fun W hW => rcheck_count pa sa va pc sc vc ps st vs V 1 W (hps.keep hW) (hst.keep hW) (hin.keep hW) hV)) (Lib.hid (fun _ W hW => ?_))
  obtain ⟨hFP, hdt, hlen, hV1⟩ := tmE_zero hz
  rw [Bool.and_eq_true] at hFP
  obtain ⟨hF, hPB⟩ := hFP
  obtain ⟨rfl, hrng⟩ := form_none_at hF
  obtain ⟨x, y, rfl⟩ := poss_count_at hPB
  have hxy : (inZ 0 x 1 && inZ 0 y 1000000000) = true := hPB
  rw [Bool.and_eq_true] at hxy
  have hx := inZ_le hxy.1
  have hy := inZ_le hxy.2
  obtain ⟨v0, v1, rfl⟩ : ∃ z u, vs = [z, u] := by
    match vs, hlen with
    | [z, u], _ => exact ⟨_, _, rfl⟩
  obtain ⟨k0, a⟩ := v0
  obtain ⟨k1, c⟩ := v1
  have hfa := fits_at (hV.1 hV1 _ (List.mem_of_getElem? (i := 0) rfl))
  have hfc := fits_at (hV.1 hV1 _ (List.mem_of_getElem? (i := 1) rfl))
  simp only at hfa hfc
  have ha : a = 0 ∨ a = 1 := by omega
  have hc : c = 0 ∨ c = 1 := by omega
  obtain ⟨sb, so, rfl, hsl, hsc⟩ := (show InS w sa 2 1 (flat iL [x, y]) from hst).at (xs := [x, y]) iL_len (by simp)
  have s0 : w.cell? ⟨sb, so, none⟩ = some (.int .i64 x) := by have h := hsc 0 _ rfl 0 _ rfl; simpa using h
  have s1 : w.cell? ⟨sb, so + 1, none⟩ = some (.int .i64 y) := by have h := hsc 1 _ rfl 0 _ rfl; simpa using h
  obtain ⟨vb, vo, rfl, hvl, hvc⟩ := (show InS w va 2 2 (flat valL [⟨k0, a⟩, ⟨k1, c⟩]) from hin).at (xs := [⟨k0, a⟩, ⟨k1, c⟩]) valL_len (by simp)
  have n0 : w.cell? ⟨vb, vo + 1, none⟩ = some (.int .i64 a) := by have h := hvc 0 _ rfl 1 _ rfl; simpa using h
  have n1 : w.cell? ⟨vb, vo + 3, none⟩ = some (.int .i64 c) := by have h := hvc 1 _ rfl 1 _ rfl; simpa using h
  exact rstep_count sb so sc vb vo vc _ x y a c 1 W hdt hy  (cellB s0 hW) (cellB s1 hW) (cellB n0 hW) (cellB n1 hW)
set_option maxHeartbeats 8000000 in
theorem lawS_count (pa sa va : Option Addr) (pc sc vc : Nat) (ps st : List Int) (vs : List ValD) (V : Bool) (w : World) (hm : MaxAt w) (hps : InS w pa ps.length 1 (flat iL ps)) (hwf : ∀ v ∈ ps, (Lit.int .i64 v).wf = true) (hst : InS w sa st.length 1 (flat iL st)) (hin : InS w va vs.length 2 (flat valL vs)) (hV : V = true ↔ ∀ v ∈ vs, fitsB v.k v.n 2 = true) :
    Calls Tryd.prog 4 #[.string ⟨#[99, 111, 117, 110, 116]⟩, .slice pa ps.length pc, .slice sa st.length sc, .slice va vs.length vc] w fun e w' => e = .returned (.bool true) ∧ Below w.heap.size w w' := by
  by_cases he : ∀ v ∈ ps, ¬ (200 < v ∧ v ≤ 86400)
  · by_cases hz : (tmE (form_none ps && poss_count st) [⟨⟨#[97]⟩, ⟨#[98, 105, 110, 97, 114, 121]⟩⟩, ⟨⟨#[114, 101, 115, 101, 116]⟩, ⟨#[98, 105, 110, 97, 114, 121]⟩⟩] vs V 1) = 0
    · obtain ⟨hFP, hdt, hlen, hV1⟩ := tmE_zero hz
      rw [Bool.and_eq_true] at hFP
      obtain ⟨hF, hPB⟩ := hFP
      obtain ⟨rfl, hrng⟩ := form_none_at hF
      obtain ⟨x, y, rfl⟩ := poss_count_at hPB
      have hxy : (inZ 0 x 1 && inZ 0 y 1000000000) = true := hPB
      rw [Bool.and_eq_true] at hxy
      have hx := inZ_le hxy.1
      have hy := inZ_le hxy.2
      obtain ⟨v0, v1, rfl⟩ : ∃ z u, vs = [z, u] := by
        match vs, hlen with
        | [z, u], _ => exact ⟨_, _, rfl⟩
      obtain ⟨k0, a⟩ := v0
      obtain ⟨k1, c⟩ := v1
      have hfa := fits_at (hV.1 hV1 _ (List.mem_of_getElem? (i := 0) rfl))
      have hfc := fits_at (hV.1 hV1 _ (List.mem_of_getElem? (i := 1) rfl))
      simp only at hfa hfc
      have ha : a = 0 ∨ a = 1 := by omega
      have hc : c = 0 ∨ c = 1 := by omega
      obtain ⟨N, hN1, hN2, hfx, hne, hP⟩ := pick (fun st => poss_count st) (F_count a c) [x, y] (mu_count a c) hPB (fun st h => mu_count_at a c st  ha hc h)
      obtain ⟨M, hM1, hM2, hMf, hMn, hMs⟩ := late_fix (F_count a c) (O_count a c) [x, y] N hN1 hfx hne
      have hzk : ∀ k, tmE (form_none [] && poss_count (seqS (F_count a c) [x, y] k)) [⟨⟨#[97]⟩, ⟨#[98, 105, 110, 97, 114, 121]⟩⟩, ⟨⟨#[114, 101, 115, 101, 116]⟩, ⟨#[98, 105, 110, 97, 114, 121]⟩⟩] [⟨k0, a⟩, ⟨k1, c⟩] V 1 = 0 := fun k => by
        have h := hz
        rw [show ((form_none [] && poss_count [x, y]) : Bool) = (form_none [] && poss_count [x, y]) from rfl, show poss_count [x, y] = true from hPB] at h
        rw [show poss_count (seqS (F_count a c) [x, y] k) = true from hP k]
        exact h
      refine settles_core ⟨#[99, 111, 117, 110, 116]⟩ (by decide +kernel) (by decide +kernel) pa sa va pc sc vc _ _ _ _ 1 (svV (F_count a c) (O_count a c) [x, y] N) w hm hps hst.2.1 hin.2.1 (Lib.hid (fun _ W hW => psettle_2 ⟨#[99, 111, 117, 110, 116]⟩ ⟨#[97, 110, 97, 108, 111, 103]⟩ [] [⟨⟨#[97]⟩, ⟨#[98, 105, 110, 97, 114, 121]⟩⟩, ⟨⟨#[114, 101, 115, 101, 116]⟩, ⟨#[98, 105, 110, 97, 114, 121]⟩⟩] 2 1 pa sa va _ pc _ sc vc [x, y] [⟨k0, a⟩, ⟨k1, c⟩] (form_none [] && poss_count [x, y]) V (F_count a c) (O_count a c) N W (by decide) (by decide) (by intro p hp; simp at hp; rcases hp with rfl | rfl <;> exact kindOk_binary) kindOk_analog (by decide) (hin.keep hW) hV ⟨hN1, by omega⟩ hfx hne (fun _ k => poss_count_at (hP k)) (Lib.hid (kr_count pa sa pc sc _ _ W (hm.keep hW) (hps.keep hW) hwf (hst.keep hW))) (Lib.hid ?_))) (Lib.hid (fun _ W hW => ?_))
      · intro _ _ _ k w5 rb a1 c1 a2 c2 ob hrb hb50 w9 ib io ic' hbw hr hs hc0 hne0
        have hb5 := hW.trans (hb50.mono hW.size)
        have hb9 := hb5.trans (hbw.mono hb5.size)
        have hq := hP k
        obtain ⟨x3, y3, hsk⟩ := poss_count_at (hP k)
        rw [show seqS (F_count a c) [x, y] (k + 1) = (F_count a c) (seqS (F_count a c) [x, y] k) from rfl]
        rw [hsk] at hq hs ⊢
        try simp only at hq
        have hxy3 : (inZ 0 x3 1 && inZ 0 y3 1000000000) = true := hq
        rw [Bool.and_eq_true] at hxy3
        have hx3 := inZ_le hxy3.1
        have hy3 := inZ_le hxy3.2
        have i0 := hc0 0 _ rfl
        have i1 := hc0 1 _ rfl
        exact eval_count rb w5.heap.size ib io ic' _ _ _ _ _ _ a c x3 y3 1 (by omega) ⟨by omega, by omega⟩ w9 hr hs hne0 i0 i1
      · rw [← hMs]
        refine rsettle_core ⟨#[99, 111, 117, 110, 116]⟩ _ _ _ _ 1 (F_count a c) (O_count a c) [x, y] 2 M (by decide) ⟨hM1, by omega⟩ (fun _ => hMf) hMn (fun _ k => by obtain ⟨x3, y3, hsk⟩ := poss_count_at (hP k); rw [hsk]; rfl) W (Lib.hid (fun W1 hW1 => ?_)) (Lib.hid (fun _ k hk W1 sb hW1 hrow => ?_))
        · have hb := hW.trans (hW1.mono hW.size)
          rw [show tmE (form_none [] && poss_count [x, y]) [⟨⟨#[97]⟩, ⟨#[98, 105, 110, 97, 114, 121]⟩⟩, ⟨⟨#[114, 101, 115, 101, 116]⟩, ⟨#[98, 105, 110, 97, 114, 121]⟩⟩] [⟨k0, a⟩, ⟨k1, c⟩] V 1 = 0 from hz]
          refine (rgood_count pa sa va pc sc vc [] [x, y] [⟨k0, a⟩, ⟨k1, c⟩] V W1 hz (hps.keep hb) (hst.keep hb) (hin.keep hb) hV).mono ?_
          rintro e w' ⟨gr, rfl, h1, h2, h3⟩
          exact ⟨_, _, _, rfl, fun _ => ⟨rfl, rfl, gr, rfl, h1, h2⟩, h3⟩
        · have hb := hW.trans (hW1.mono hW.size)
          obtain ⟨x3, y3, hsk⟩ := poss_count_at (hP k)
          have hl3 : (seqS (F_count a c) [x, y] k).length = 2 := by rw [hsk]; rfl
          have kk := rgood_count pa (some ⟨sb, 0, none⟩) va pc 2 vc [] (seqS (F_count a c) [x, y] k) [⟨k0, a⟩, ⟨k1, c⟩] V W1 (hzk k) (hps.keep hb) (inS_row (n := 2) hrow (by omega)) (hin.keep hb) hV
          rw [hl3] at kk
          exact kk
    · have hvac : ∀ {p : Prop}, (form_none ps && poss_count st) = true → V = true → vs.length = 2 → p := by
        intro p h1 h2 h3
        refine absurd ?_ hz
        unfold tmE
        rw [if_neg, if_neg]
        · rw [h2]; decide
        · intro h
          rcases h with h | h | h
          · rw [h1] at h; cases h
          · exact absurd h (by decide)
          · exact h h3
      refine settles_core ⟨#[99, 111, 117, 110, 116]⟩ (by decide +kernel) (by decide +kernel) pa sa va pc sc vc _ _ _ (tmE (form_none ps && poss_count st) [⟨⟨#[97]⟩, ⟨#[98, 105, 110, 97, 114, 121]⟩⟩, ⟨⟨#[114, 101, 115, 101, 116]⟩, ⟨#[98, 105, 110, 97, 114, 121]⟩⟩] vs V 1) 1 (0, 0) w hm hps hst.2.1 hin.2.1 (Lib.hid (fun _ W hW => ?_)) (Lib.hid (fun _ W hW => ?_))
      · refine (psettle_2 ⟨#[99, 111, 117, 110, 116]⟩ ⟨#[97, 110, 97, 108, 111, 103]⟩ [] [⟨⟨#[97]⟩, ⟨#[98, 105, 110, 97, 114, 121]⟩⟩, ⟨⟨#[114, 101, 115, 101, 116]⟩, ⟨#[98, 105, 110, 97, 114, 121]⟩⟩] 2 1 pa sa va _ pc _ sc vc st vs (form_none ps && poss_count st) V id (fun _ => 0) 1 W (by decide) (by decide) (by intro p hp; simp at hp; rcases hp with rfl | rfl <;> exact kindOk_binary) kindOk_analog (by decide) (hin.keep hW) hV ⟨by omega, by omega⟩ rfl (fun k h => by omega) (fun h k => by rw [seqS_id]; rw [Bool.and_eq_true] at h; exact poss_count_at h.2) (Lib.hid (kr_count pa sa pc sc _ _ W (hm.keep hW) (hps.keep hW) hwf (hst.keep hW))) (Lib.hid (fun h1 h2 h3 => hvac h1 h2 h3))).mono ?_
        rintro e w' ⟨k, n, m, he, hA, hb⟩
        exact ⟨k, n, m, he, ⟨hA.1, fun h => absurd h hz⟩, hb⟩
      · refine (rsettle_core ⟨#[99, 111, 117, 110, 116]⟩ _ _ _ (tmE (form_none ps && poss_count st) [⟨⟨#[97]⟩, ⟨#[98, 105, 110, 97, 114, 121]⟩⟩, ⟨⟨#[114, 101, 115, 101, 116]⟩, ⟨#[98, 105, 110, 97, 114, 121]⟩⟩] vs V 1) 1 id (fun _ => 0) st 2 2 (by decide) ⟨by omega, by omega⟩ (fun h => absurd h hz) (fun k a b => by omega) (fun h => absurd h hz) W (Lib.hid (fun W1 hW1 => ?_)) (Lib.hid (fun h => absurd h hz))).mono ?_
        · have hb := hW.trans (hW1.mono hW.size)
          refine (rStep_core ⟨#[99, 111, 117, 110, 116]⟩ _ _ _ 1 (tmE (form_none ps && poss_count st) [⟨⟨#[97]⟩, ⟨#[98, 105, 110, 97, 114, 121]⟩⟩, ⟨⟨#[114, 101, 115, 101, 116]⟩, ⟨#[98, 105, 110, 97, 114, 121]⟩⟩] vs V 1) 1 0 [0, 0] 2 (by decide) rfl W1 (Lib.hid (fun W hW => rcheck_count pa sa va pc sc vc ps st vs V 1 W ((hps.keep hb).keep hW) ((hst.keep hb).keep hW) ((hin.keep hb).keep hW) hV)) (Lib.hid (fun h => absurd h hz))).mono ?_
          rintro e w' ⟨v, k, n, he, hA, hb⟩
          exact ⟨v, k, n, he, fun h => absurd h hz, hb⟩
        · rintro e w' ⟨k, n, m, he, hA, hb⟩
          exact ⟨k, n, m, he, ⟨hA.1, fun h => absurd h hz⟩, hb⟩
  · exact settles_core ⟨#[99, 111, 117, 110, 116]⟩ (by decide +kernel) (by decide +kernel) pa sa va pc sc vc _ _ _ 0 0 (0, 0) w hm hps hst.2.1 hin.2.1 (Lib.hid (fun h => absurd h he)) (Lib.hid (fun h => absurd h he))
set_option maxHeartbeats 4000000 in
theorem kr_edge (pa sa : Option Addr) (pc sc : Nat) (ps st : List Int) (w : World) (hm : MaxAt w) (hps : InS w pa ps.length 1 (flat iL ps)) (hwf : ∀ v ∈ ps, (Lit.int .i64 v).wf = true) (hst : InS w sa st.length 1 (flat iL st)) :
    ∀ W, Below w.heap.size w W → Calls Tryd.prog 21 #[.string ⟨#[101, 100, 103, 101]⟩, .slice pa ps.length pc, .slice sa st.length sc] W fun e w' => ∃ R, e = .returned (.tuple #[R, .int .i64 (if (form_none ps && poss_edge st) = true then 0 else 1)]) ∧ ((form_none ps && poss_edge st) = true → ResOk W ⟨#[101, 100, 103, 101]⟩ ⟨#[98, 105, 110, 97, 114, 121]⟩ 1 1 [] [⟨⟨#[97]⟩, ⟨#[98, 105, 110, 97, 114, 121]⟩⟩] pa ps.length pc st R w') ∧ Below W.heap.size W w' := by
  refine fun W hW => resume_1 ⟨#[101, 100, 103, 101]⟩ ⟨#[98, 105, 110, 97, 114, 121]⟩ 1 [] [⟨⟨#[97]⟩, ⟨#[98, 105, 110, 97, 114, 121]⟩⟩] (fun _ => true) (by decide +kernel) find_edge (agree_edge _) pa pc ps (by decide) hwf (by unfold maxLen; decide +kernel) sa sc st (form_none ps) (poss_edge st) W (hm.keep hW) (hps.keep hW) (hst.keep hW) (formed_edge ps) (fun h => poss_edge_at h) ?_
  intro hF w1 rb a1 c1 a2 c2 ob w5 hr hbW
  have hb := hW.trans (hbW.mono hW.size)
  obtain ⟨rfl, hrng⟩ := form_none_at hF
  exact poss_edge_any rb sc sa st _ _ _ _ _ _ w1 hr (hst.keep hb)
set_option maxHeartbeats 4000000 in
theorem rgood_edge (pa sa va : Option Addr) (pc sc vc : Nat) (ps st : List Int) (vs : List ValD) (V : Bool) (w : World) (hz : (tmE (form_none ps && poss_edge st) [⟨⟨#[97]⟩, ⟨#[98, 105, 110, 97, 114, 121]⟩⟩] vs V 1) = 0) (hps : InS w pa ps.length 1 (flat iL ps)) (hst : InS w sa st.length 1 (flat iL st)) (hin : InS w va vs.length 2 (flat valL vs)) (hV : V = true ↔ ∀ v ∈ vs, fitsB v.k v.n 2 = true) :
    Calls Tryd.prog 12 #[.string ⟨#[101, 100, 103, 101]⟩, .slice pa ps.length pc, .slice sa st.length sc, .slice va vs.length vc, .int .i64 1] w fun e w' => ∃ gr, e = .returned (.tuple #[.slice (some ⟨gr, 0, none⟩) 1 1, .agg #[.int .i64 2, .int .i64 (edgeN (vs.getD 0 ⟨0, 0⟩).n (st.getD 0 0))], .int .i64 0]) ∧ w.heap.size ≤ gr ∧ RowAt w' gr (flat iL [(vs.getD 0 ⟨0, 0⟩).n]) ∧ Below w.heap.size w w' := by
  refine rStep_good ⟨#[101, 100, 103, 101]⟩ _ _ _ 1 (tmE (form_none ps && poss_edge st) [⟨⟨#[97]⟩, ⟨#[98, 105, 110, 97, 114, 121]⟩⟩] vs V 1) 2 (edgeN (vs.getD 0 ⟨0, 0⟩).n (st.getD 0 0)) [(vs.getD 0 ⟨0, 0⟩).n] 1 (by decide) rfl hz w (Lib.hid (fun W hW => rcheck_edge pa sa va pc sc vc ps st vs V 1 W (hps.keep hW) (hst.keep hW) (hin.keep hW) hV)) (Lib.hid (fun _ W hW => ?_))
  obtain ⟨hFP, hdt, hlen, hV1⟩ := tmE_zero hz
  rw [Bool.and_eq_true] at hFP
  obtain ⟨hF, hPB⟩ := hFP
  obtain ⟨rfl, hrng⟩ := form_none_at hF
  obtain ⟨x, rfl⟩ := poss_edge_at hPB
  have hx := inZ_le (show inZ 0 x 1 = true from hPB)
  obtain ⟨v0, rfl⟩ : ∃ z, vs = [z] := by
    match vs, hlen with
    | [z], _ => exact ⟨_, rfl⟩
  obtain ⟨k0, a⟩ := v0
  have hfa := fits_at (hV.1 hV1 _ (List.mem_of_getElem? (i := 0) rfl))
  simp only at hfa
  have ha : a = 0 ∨ a = 1 := by omega
  obtain ⟨sb, so, rfl, hsl, hsc⟩ := (show InS w sa 1 1 (flat iL [x]) from hst).at (xs := [x]) iL_len (by simp)
  have s0 : w.cell? ⟨sb, so, none⟩ = some (.int .i64 x) := by have h := hsc 0 _ rfl 0 _ rfl; simpa using h
  obtain ⟨vb, vo, rfl, hvl, hvc⟩ := (show InS w va 1 2 (flat valL [⟨k0, a⟩]) from hin).at (xs := [⟨k0, a⟩]) valL_len (by simp)
  have n0 : w.cell? ⟨vb, vo + 1, none⟩ = some (.int .i64 a) := by have h := hvc 0 _ rfl 1 _ rfl; simpa using h
  exact rstep_edge sb so sc vb vo vc _ x a 1 W hdt   (cellB s0 hW) (cellB n0 hW)
set_option maxHeartbeats 8000000 in
theorem lawS_edge (pa sa va : Option Addr) (pc sc vc : Nat) (ps st : List Int) (vs : List ValD) (V : Bool) (w : World) (hm : MaxAt w) (hps : InS w pa ps.length 1 (flat iL ps)) (hwf : ∀ v ∈ ps, (Lit.int .i64 v).wf = true) (hst : InS w sa st.length 1 (flat iL st)) (hin : InS w va vs.length 2 (flat valL vs)) (hV : V = true ↔ ∀ v ∈ vs, fitsB v.k v.n 2 = true) :
    Calls Tryd.prog 4 #[.string ⟨#[101, 100, 103, 101]⟩, .slice pa ps.length pc, .slice sa st.length sc, .slice va vs.length vc] w fun e w' => e = .returned (.bool true) ∧ Below w.heap.size w w' := by
  by_cases he : ∀ v ∈ ps, ¬ (200 < v ∧ v ≤ 86400)
  · by_cases hz : (tmE (form_none ps && poss_edge st) [⟨⟨#[97]⟩, ⟨#[98, 105, 110, 97, 114, 121]⟩⟩] vs V 1) = 0
    · obtain ⟨hFP, hdt, hlen, hV1⟩ := tmE_zero hz
      rw [Bool.and_eq_true] at hFP
      obtain ⟨hF, hPB⟩ := hFP
      obtain ⟨rfl, hrng⟩ := form_none_at hF
      obtain ⟨x, rfl⟩ := poss_edge_at hPB
      have hx := inZ_le (show inZ 0 x 1 = true from hPB)
      obtain ⟨v0, rfl⟩ : ∃ z, vs = [z] := by
        match vs, hlen with
        | [z], _ => exact ⟨_, rfl⟩
      obtain ⟨k0, a⟩ := v0
      have hfa := fits_at (hV.1 hV1 _ (List.mem_of_getElem? (i := 0) rfl))
      simp only at hfa
      have ha : a = 0 ∨ a = 1 := by omega
      obtain ⟨N, hN1, hN2, hfx, hne, hP⟩ := pick (fun st => poss_edge st) (F_edge a) [x] (mu_edge a) hPB (fun st h => mu_edge_at a st  ha h)
      obtain ⟨M, hM1, hM2, hMf, hMn, hMs⟩ := late_fix (F_edge a) (O_edge a) [x] N hN1 hfx hne
      have hzk : ∀ k, tmE (form_none [] && poss_edge (seqS (F_edge a) [x] k)) [⟨⟨#[97]⟩, ⟨#[98, 105, 110, 97, 114, 121]⟩⟩] [⟨k0, a⟩] V 1 = 0 := fun k => by
        have h := hz
        rw [show ((form_none [] && poss_edge [x]) : Bool) = (form_none [] && poss_edge [x]) from rfl, show poss_edge [x] = true from hPB] at h
        rw [show poss_edge (seqS (F_edge a) [x] k) = true from hP k]
        exact h
      refine settles_core ⟨#[101, 100, 103, 101]⟩ (by decide +kernel) (by decide +kernel) pa sa va pc sc vc _ _ _ _ 2 (svV (F_edge a) (O_edge a) [x] N) w hm hps hst.2.1 hin.2.1 (Lib.hid (fun _ W hW => psettle_1 ⟨#[101, 100, 103, 101]⟩ ⟨#[98, 105, 110, 97, 114, 121]⟩ [] [⟨⟨#[97]⟩, ⟨#[98, 105, 110, 97, 114, 121]⟩⟩] 2 2 pa sa va _ pc _ sc vc [x] [⟨k0, a⟩] (form_none [] && poss_edge [x]) V (F_edge a) (O_edge a) N W (by decide) (by decide) (by intro p hp; simp at hp; subst hp; exact kindOk_binary) kindOk_binary (by decide) (hin.keep hW) hV ⟨hN1, by omega⟩ hfx hne (fun _ k => poss_edge_at (hP k)) (Lib.hid (kr_edge pa sa pc sc _ _ W (hm.keep hW) (hps.keep hW) hwf (hst.keep hW))) (Lib.hid ?_))) (Lib.hid (fun _ W hW => ?_))
      · intro _ _ _ k w5 rb a1 c1 a2 c2 ob hrb hb50 w9 ib io ic' hbw hr hs hc0 hne0
        have hb5 := hW.trans (hb50.mono hW.size)
        have hb9 := hb5.trans (hbw.mono hb5.size)
        have hq := hP k
        obtain ⟨x3, hsk⟩ := poss_edge_at (hP k)
        rw [show seqS (F_edge a) [x] (k + 1) = (F_edge a) (seqS (F_edge a) [x] k) from rfl]
        rw [hsk] at hq hs ⊢
        try simp only at hq
        have hx3 := inZ_le (show inZ 0 x3 1 = true from hq)
        have i0 := hc0 0 _ rfl
        exact eval_edge rb w5.heap.size 1 ib io ic' _ _ _ _ _ _ a x3 1 [] (by decide) (by omega) w9 hr hs i0
      · rw [← hMs]
        refine rsettle_core ⟨#[101, 100, 103, 101]⟩ _ _ _ _ 2 (F_edge a) (O_edge a) [x] 1 M (by decide) ⟨hM1, by omega⟩ (fun _ => hMf) hMn (fun _ k => by obtain ⟨x3, hsk⟩ := poss_edge_at (hP k); rw [hsk]; rfl) W (Lib.hid (fun W1 hW1 => ?_)) (Lib.hid (fun _ k hk W1 sb hW1 hrow => ?_))
        · have hb := hW.trans (hW1.mono hW.size)
          rw [show tmE (form_none [] && poss_edge [x]) [⟨⟨#[97]⟩, ⟨#[98, 105, 110, 97, 114, 121]⟩⟩] [⟨k0, a⟩] V 1 = 0 from hz]
          refine (rgood_edge pa sa va pc sc vc [] [x] [⟨k0, a⟩] V W1 hz (hps.keep hb) (hst.keep hb) (hin.keep hb) hV).mono ?_
          rintro e w' ⟨gr, rfl, h1, h2, h3⟩
          exact ⟨_, _, _, rfl, fun _ => ⟨rfl, rfl, gr, rfl, h1, h2⟩, h3⟩
        · have hb := hW.trans (hW1.mono hW.size)
          obtain ⟨x3, hsk⟩ := poss_edge_at (hP k)
          have hl3 : (seqS (F_edge a) [x] k).length = 1 := by rw [hsk]; rfl
          have kk := rgood_edge pa (some ⟨sb, 0, none⟩) va pc 1 vc [] (seqS (F_edge a) [x] k) [⟨k0, a⟩] V W1 (hzk k) (hps.keep hb) (inS_row (n := 1) hrow (by omega)) (hin.keep hb) hV
          rw [hl3] at kk
          exact kk
    · have hvac : ∀ {p : Prop}, (form_none ps && poss_edge st) = true → V = true → vs.length = 1 → p := by
        intro p h1 h2 h3
        refine absurd ?_ hz
        unfold tmE
        rw [if_neg, if_neg]
        · rw [h2]; decide
        · intro h
          rcases h with h | h | h
          · rw [h1] at h; cases h
          · exact absurd h (by decide)
          · exact h h3
      refine settles_core ⟨#[101, 100, 103, 101]⟩ (by decide +kernel) (by decide +kernel) pa sa va pc sc vc _ _ _ (tmE (form_none ps && poss_edge st) [⟨⟨#[97]⟩, ⟨#[98, 105, 110, 97, 114, 121]⟩⟩] vs V 1) 2 (0, 0) w hm hps hst.2.1 hin.2.1 (Lib.hid (fun _ W hW => ?_)) (Lib.hid (fun _ W hW => ?_))
      · refine (psettle_1 ⟨#[101, 100, 103, 101]⟩ ⟨#[98, 105, 110, 97, 114, 121]⟩ [] [⟨⟨#[97]⟩, ⟨#[98, 105, 110, 97, 114, 121]⟩⟩] 2 2 pa sa va _ pc _ sc vc st vs (form_none ps && poss_edge st) V id (fun _ => 0) 1 W (by decide) (by decide) (by intro p hp; simp at hp; subst hp; exact kindOk_binary) kindOk_binary (by decide) (hin.keep hW) hV ⟨by omega, by omega⟩ rfl (fun k h => by omega) (fun h k => by rw [seqS_id]; rw [Bool.and_eq_true] at h; exact poss_edge_at h.2) (Lib.hid (kr_edge pa sa pc sc _ _ W (hm.keep hW) (hps.keep hW) hwf (hst.keep hW))) (Lib.hid (fun h1 h2 h3 => hvac h1 h2 h3))).mono ?_
        rintro e w' ⟨k, n, m, he, hA, hb⟩
        exact ⟨k, n, m, he, ⟨hA.1, fun h => absurd h hz⟩, hb⟩
      · refine (rsettle_core ⟨#[101, 100, 103, 101]⟩ _ _ _ (tmE (form_none ps && poss_edge st) [⟨⟨#[97]⟩, ⟨#[98, 105, 110, 97, 114, 121]⟩⟩] vs V 1) 2 id (fun _ => 0) st 1 2 (by decide) ⟨by omega, by omega⟩ (fun h => absurd h hz) (fun k a b => by omega) (fun h => absurd h hz) W (Lib.hid (fun W1 hW1 => ?_)) (Lib.hid (fun h => absurd h hz))).mono ?_
        · have hb := hW.trans (hW1.mono hW.size)
          refine (rStep_core ⟨#[101, 100, 103, 101]⟩ _ _ _ 1 (tmE (form_none ps && poss_edge st) [⟨⟨#[97]⟩, ⟨#[98, 105, 110, 97, 114, 121]⟩⟩] vs V 1) 2 0 [0] 1 (by decide) rfl W1 (Lib.hid (fun W hW => rcheck_edge pa sa va pc sc vc ps st vs V 1 W ((hps.keep hb).keep hW) ((hst.keep hb).keep hW) ((hin.keep hb).keep hW) hV)) (Lib.hid (fun h => absurd h hz))).mono ?_
          rintro e w' ⟨v, k, n, he, hA, hb⟩
          exact ⟨v, k, n, he, fun h => absurd h hz, hb⟩
        · rintro e w' ⟨k, n, m, he, hA, hb⟩
          exact ⟨k, n, m, he, ⟨hA.1, fun h => absurd h hz⟩, hb⟩
  · exact settles_core ⟨#[101, 100, 103, 101]⟩ (by decide +kernel) (by decide +kernel) pa sa va pc sc vc _ _ _ 0 0 (0, 0) w hm hps hst.2.1 hin.2.1 (Lib.hid (fun h => absurd h he)) (Lib.hid (fun h => absurd h he))
set_option maxHeartbeats 4000000 in
theorem kr_hyst (pa sa : Option Addr) (pc sc : Nat) (ps st : List Int) (w : World) (hm : MaxAt w) (hps : InS w pa ps.length 1 (flat iL ps)) (hwf : ∀ v ∈ ps, (Lit.int .i64 v).wf = true) (hst : InS w sa st.length 1 (flat iL st)) :
    ∀ W, Below w.heap.size w W → Calls Tryd.prog 21 #[.string ⟨#[104, 121, 115, 116]⟩, .slice pa ps.length pc, .slice sa st.length sc] W fun e w' => ∃ R, e = .returned (.tuple #[R, .int .i64 (if (form_hyst ps && poss_hyst (ps.getD 0 0) (ps.getD 1 0) st) = true then 0 else 1)]) ∧ ((form_hyst ps && poss_hyst (ps.getD 0 0) (ps.getD 1 0) st) = true → ResOk W ⟨#[104, 121, 115, 116]⟩ ⟨#[98, 105, 110, 97, 114, 121]⟩ 1 1 [⟨⟨#[111, 110]⟩, (-1000000000000), 1000000000000, 1000⟩, ⟨⟨#[111, 102, 102]⟩, (-1000000000000), 1000000000000, 0⟩] [⟨⟨#[97]⟩, ⟨#[85]⟩⟩] pa ps.length pc st R w') ∧ Below W.heap.size W w' := by
  refine fun W hW => resume_1 ⟨#[104, 121, 115, 116]⟩ ⟨#[98, 105, 110, 97, 114, 121]⟩ 1 [⟨⟨#[111, 110]⟩, (-1000000000000), 1000000000000, 1000⟩, ⟨⟨#[111, 102, 102]⟩, (-1000000000000), 1000000000000, 0⟩] [⟨⟨#[97]⟩, ⟨#[85]⟩⟩] agLt (by decide +kernel) find_hyst agree_hyst pa pc ps (by decide) hwf (by unfold maxLen; decide +kernel) sa sc st (form_hyst ps) (poss_hyst (ps.getD 0 0) (ps.getD 1 0) st) W (hm.keep hW) (hps.keep hW) (hst.keep hW) (formed_hyst ps) (fun h => poss_hyst_at h) ?_
  intro hF w1 rb a1 c1 a2 c2 ob w5 hr hbW
  have hb := hW.trans (hbW.mono hW.size)
  obtain ⟨p0, p1, rfl, hrng⟩ := form_hyst_at hF
  obtain ⟨pb, po, rfl, hpl, hpc⟩ := (show InS w pa 2 1 (flat iL [p0, p1]) from hps).at (xs := [p0, p1]) iL_len (by simp)
  have q0 : w.cell? ⟨pb, po, none⟩ = some (.int .i64 p0) := by have h := hpc 0 _ rfl 0 _ rfl; simpa using h
  have q1 : w.cell? ⟨pb, po + 1, none⟩ = some (.int .i64 p1) := by have h := hpc 1 _ rfl 0 _ rfl; simpa using h
  exact poss_hyst_any rb pb po pc sc sa p0 p1 st _ _ _ _ _ w1 hr (cellB q0 hb) (cellB q1 hb) (hst.keep hb)
set_option maxHeartbeats 4000000 in
theorem rgood_hyst (pa sa va : Option Addr) (pc sc vc : Nat) (ps st : List Int) (vs : List ValD) (V : Bool) (w : World) (hz : (tmE (form_hyst ps && poss_hyst (ps.getD 0 0) (ps.getD 1 0) st) [⟨⟨#[97]⟩, ⟨#[85]⟩⟩] vs V 1) = 0) (hps : InS w pa ps.length 1 (flat iL ps)) (hst : InS w sa st.length 1 (flat iL st)) (hin : InS w va vs.length 2 (flat valL vs)) (hV : V = true ↔ ∀ v ∈ vs, fitsB v.k v.n 1 = true) :
    Calls Tryd.prog 12 #[.string ⟨#[104, 121, 115, 116]⟩, .slice pa ps.length pc, .slice sa st.length sc, .slice va vs.length vc, .int .i64 1] w fun e w' => ∃ gr, e = .returned (.tuple #[.slice (some ⟨gr, 0, none⟩) 1 1, .agg #[.int .i64 2, .int .i64 (hystN (ps.getD 1 0) (ps.getD 0 0) (vs.getD 0 ⟨0, 0⟩).n (st.getD 0 0))], .int .i64 0]) ∧ w.heap.size ≤ gr ∧ RowAt w' gr (flat iL [hystN (ps.getD 1 0) (ps.getD 0 0) (vs.getD 0 ⟨0, 0⟩).n (st.getD 0 0)]) ∧ Below w.heap.size w w' := by
  refine rStep_good ⟨#[104, 121, 115, 116]⟩ _ _ _ 1 (tmE (form_hyst ps && poss_hyst (ps.getD 0 0) (ps.getD 1 0) st) [⟨⟨#[97]⟩, ⟨#[85]⟩⟩] vs V 1) 2 (hystN (ps.getD 1 0) (ps.getD 0 0) (vs.getD 0 ⟨0, 0⟩).n (st.getD 0 0)) [hystN (ps.getD 1 0) (ps.getD 0 0) (vs.getD 0 ⟨0, 0⟩).n (st.getD 0 0)] 1 (by decide) rfl hz w (Lib.hid (fun W hW => rcheck_hyst pa sa va pc sc vc ps st vs V 1 W (hps.keep hW) (hst.keep hW) (hin.keep hW) hV)) (Lib.hid (fun _ W hW => ?_))
  obtain ⟨hFP, hdt, hlen, hV1⟩ := tmE_zero hz
  rw [Bool.and_eq_true] at hFP
  obtain ⟨hF, hPB⟩ := hFP
  obtain ⟨p0, p1, rfl, hrng⟩ := form_hyst_at hF
  obtain ⟨x, rfl⟩ := poss_hyst_at hPB
  have hx := inZ_le (show inZ 0 x 1 = true from hPB)
  obtain ⟨v0, rfl⟩ : ∃ z, vs = [z] := by
    match vs, hlen with
    | [z], _ => exact ⟨_, rfl⟩
  obtain ⟨k0, a⟩ := v0
  have hfa := fits_at (hV.1 hV1 _ (List.mem_of_getElem? (i := 0) rfl))
  simp only at hfa
  obtain ⟨pb, po, rfl, hpl, hpc⟩ := (show InS w pa 2 1 (flat iL [p0, p1]) from hps).at (xs := [p0, p1]) iL_len (by simp)
  have q0 : w.cell? ⟨pb, po, none⟩ = some (.int .i64 p0) := by have h := hpc 0 _ rfl 0 _ rfl; simpa using h
  have q1 : w.cell? ⟨pb, po + 1, none⟩ = some (.int .i64 p1) := by have h := hpc 1 _ rfl 0 _ rfl; simpa using h
  obtain ⟨sb, so, rfl, hsl, hsc⟩ := (show InS w sa 1 1 (flat iL [x]) from hst).at (xs := [x]) iL_len (by simp)
  have s0 : w.cell? ⟨sb, so, none⟩ = some (.int .i64 x) := by have h := hsc 0 _ rfl 0 _ rfl; simpa using h
  obtain ⟨vb, vo, rfl, hvl, hvc⟩ := (show InS w va 1 2 (flat valL [⟨k0, a⟩]) from hin).at (xs := [⟨k0, a⟩]) valL_len (by simp)
  have n0 : w.cell? ⟨vb, vo + 1, none⟩ = some (.int .i64 a) := by have h := hvc 0 _ rfl 1 _ rfl; simpa using h
  exact rstep_hyst pb po pc sb so sc vb vo vc p0 p1 x a 1 W hdt  (cellB q0 hW) (cellB q1 hW) (cellB s0 hW) (cellB n0 hW)
set_option maxHeartbeats 8000000 in
theorem lawS_hyst (pa sa va : Option Addr) (pc sc vc : Nat) (ps st : List Int) (vs : List ValD) (V : Bool) (w : World) (hm : MaxAt w) (hps : InS w pa ps.length 1 (flat iL ps)) (hwf : ∀ v ∈ ps, (Lit.int .i64 v).wf = true) (hst : InS w sa st.length 1 (flat iL st)) (hin : InS w va vs.length 2 (flat valL vs)) (hV : V = true ↔ ∀ v ∈ vs, fitsB v.k v.n 1 = true) :
    Calls Tryd.prog 4 #[.string ⟨#[104, 121, 115, 116]⟩, .slice pa ps.length pc, .slice sa st.length sc, .slice va vs.length vc] w fun e w' => e = .returned (.bool true) ∧ Below w.heap.size w w' := by
  by_cases hz : (tmE (form_hyst ps && poss_hyst (ps.getD 0 0) (ps.getD 1 0) st) [⟨⟨#[97]⟩, ⟨#[85]⟩⟩] vs V 1) = 0
  · obtain ⟨hFP, hdt, hlen, hV1⟩ := tmE_zero hz
    rw [Bool.and_eq_true] at hFP
    obtain ⟨hF, hPB⟩ := hFP
    obtain ⟨p0, p1, rfl, hrng⟩ := form_hyst_at hF
    obtain ⟨x, rfl⟩ := poss_hyst_at hPB
    have hx := inZ_le (show inZ 0 x 1 = true from hPB)
    obtain ⟨v0, rfl⟩ : ∃ z, vs = [z] := by
      match vs, hlen with
      | [z], _ => exact ⟨_, rfl⟩
    obtain ⟨k0, a⟩ := v0
    have hfa := fits_at (hV.1 hV1 _ (List.mem_of_getElem? (i := 0) rfl))
    simp only at hfa
    obtain ⟨N, hN1, hN2, hfx, hne, hP⟩ := pick (fun st => poss_hyst p0 p1 st) (F_hyst p0 p1 a) [x] (mu_hyst p0 p1 a) hPB (fun st h => mu_hyst_at p0 p1 a st hrng h)
    obtain ⟨M, hM1, hM2, hMf, hMn, hMs⟩ := late_fix (F_hyst p0 p1 a) (O_hyst p0 p1 a) [x] N hN1 hfx hne
    have hzk : ∀ k, tmE (form_hyst [p0, p1] && poss_hyst p0 p1 (seqS (F_hyst p0 p1 a) [x] k)) [⟨⟨#[97]⟩, ⟨#[85]⟩⟩] [⟨k0, a⟩] V 1 = 0 := fun k => by
      have h := hz
      rw [show ((form_hyst [p0, p1] && poss_hyst ([p0, p1].getD 0 0) ([p0, p1].getD 1 0) [x]) : Bool) = (form_hyst [p0, p1] && poss_hyst p0 p1 [x]) from rfl, show poss_hyst p0 p1 [x] = true from hPB] at h
      rw [show poss_hyst p0 p1 (seqS (F_hyst p0 p1 a) [x] k) = true from hP k]
      exact h
    refine settles_core_hyst pa sa va pc sc vc _ _ _ _ 2 (svV (F_hyst p0 p1 a) (O_hyst p0 p1 a) [x] N) w hm hps hst.2.1 hin.2.1 (Lib.hid (fun W hW => psettle_1 ⟨#[104, 121, 115, 116]⟩ ⟨#[98, 105, 110, 97, 114, 121]⟩ [⟨⟨#[111, 110]⟩, (-1000000000000), 1000000000000, 1000⟩, ⟨⟨#[111, 102, 102]⟩, (-1000000000000), 1000000000000, 0⟩] [⟨⟨#[97]⟩, ⟨#[85]⟩⟩] 1 2 pa sa va _ pc _ sc vc [x] [⟨k0, a⟩] (form_hyst [p0, p1] && poss_hyst p0 p1 [x]) V (F_hyst p0 p1 a) (O_hyst p0 p1 a) N W (by decide) (by decide) (by intro p hp; simp at hp; subst hp; exact kindOk_u) kindOk_binary (by decide) (hin.keep hW) hV ⟨hN1, by omega⟩ hfx hne (fun _ k => poss_hyst_at (hP k)) (Lib.hid (kr_hyst pa sa pc sc _ _ W (hm.keep hW) (hps.keep hW) hwf (hst.keep hW))) (Lib.hid ?_))) (Lib.hid (fun W hW => ?_))
    · intro _ _ _ k w5 rb a1 c1 a2 c2 ob hrb hb50 w9 ib io ic' hbw hr hs hc0 hne0
      have hb5 := hW.trans (hb50.mono hW.size)
      have hb9 := hb5.trans (hbw.mono hb5.size)
      have hq := hP k
      obtain ⟨x3, hsk⟩ := poss_hyst_at (hP k)
      rw [show seqS (F_hyst p0 p1 a) [x] (k + 1) = (F_hyst p0 p1 a) (seqS (F_hyst p0 p1 a) [x] k) from rfl]
      rw [hsk] at hq hs ⊢
      try simp only at hq
      have hx3 := inZ_le (show inZ 0 x3 1 = true from hq)
      obtain ⟨pb, po, rfl, hpl, hpc⟩ := (show InS w pa 2 1 (flat iL [p0, p1]) from hps).at (xs := [p0, p1]) iL_len (by simp)
      have q0 : w.cell? ⟨pb, po, none⟩ = some (.int .i64 p0) := by have h := hpc 0 _ rfl 0 _ rfl; simpa using h
      have q1 : w.cell? ⟨pb, po + 1, none⟩ = some (.int .i64 p1) := by have h := hpc 1 _ rfl 0 _ rfl; simpa using h
      have i0 := hc0 0 _ rfl
      exact eval_hyst rb w5.heap.size 1 pb po pc ib io ic' _ _ _ _ _ p1 p0 a x3 1 [] (by decide) w9 hr (cellB q0 hb9) (cellB q1 hb9) hs i0
    · rw [← hMs]
      refine rsettle_core ⟨#[104, 121, 115, 116]⟩ _ _ _ _ 2 (F_hyst p0 p1 a) (O_hyst p0 p1 a) [x] 1 M (by decide) ⟨hM1, by omega⟩ (fun _ => hMf) hMn (fun _ k => by obtain ⟨x3, hsk⟩ := poss_hyst_at (hP k); rw [hsk]; rfl) W (Lib.hid (fun W1 hW1 => ?_)) (Lib.hid (fun _ k hk W1 sb hW1 hrow => ?_))
      · have hb := hW.trans (hW1.mono hW.size)
        rw [show tmE (form_hyst [p0, p1] && poss_hyst p0 p1 [x]) [⟨⟨#[97]⟩, ⟨#[85]⟩⟩] [⟨k0, a⟩] V 1 = 0 from hz]
        refine (rgood_hyst pa sa va pc sc vc [p0, p1] [x] [⟨k0, a⟩] V W1 hz (hps.keep hb) (hst.keep hb) (hin.keep hb) hV).mono ?_
        rintro e w' ⟨gr, rfl, h1, h2, h3⟩
        exact ⟨_, _, _, rfl, fun _ => ⟨rfl, rfl, gr, rfl, h1, h2⟩, h3⟩
      · have hb := hW.trans (hW1.mono hW.size)
        obtain ⟨x3, hsk⟩ := poss_hyst_at (hP k)
        have hl3 : (seqS (F_hyst p0 p1 a) [x] k).length = 1 := by rw [hsk]; rfl
        have kk := rgood_hyst pa (some ⟨sb, 0, none⟩) va pc 1 vc [p0, p1] (seqS (F_hyst p0 p1 a) [x] k) [⟨k0, a⟩] V W1 (hzk k) (hps.keep hb) (inS_row (n := 1) hrow (by omega)) (hin.keep hb) hV
        rw [hl3] at kk
        exact kk
  · have hvac : ∀ {p : Prop}, (form_hyst ps && poss_hyst (ps.getD 0 0) (ps.getD 1 0) st) = true → V = true → vs.length = 1 → p := by
      intro p h1 h2 h3
      refine absurd ?_ hz
      unfold tmE
      rw [if_neg, if_neg]
      · rw [h2]; decide
      · intro h
        rcases h with h | h | h
        · rw [h1] at h; cases h
        · exact absurd h (by decide)
        · exact h h3
    refine settles_core_hyst pa sa va pc sc vc _ _ _ (tmE (form_hyst ps && poss_hyst (ps.getD 0 0) (ps.getD 1 0) st) [⟨⟨#[97]⟩, ⟨#[85]⟩⟩] vs V 1) 2 (0, 0) w hm hps hst.2.1 hin.2.1 (Lib.hid (fun W hW => ?_)) (Lib.hid (fun W hW => ?_))
    · refine (psettle_1 ⟨#[104, 121, 115, 116]⟩ ⟨#[98, 105, 110, 97, 114, 121]⟩ [⟨⟨#[111, 110]⟩, (-1000000000000), 1000000000000, 1000⟩, ⟨⟨#[111, 102, 102]⟩, (-1000000000000), 1000000000000, 0⟩] [⟨⟨#[97]⟩, ⟨#[85]⟩⟩] 1 2 pa sa va _ pc _ sc vc st vs (form_hyst ps && poss_hyst (ps.getD 0 0) (ps.getD 1 0) st) V id (fun _ => 0) 1 W (by decide) (by decide) (by intro p hp; simp at hp; subst hp; exact kindOk_u) kindOk_binary (by decide) (hin.keep hW) hV ⟨by omega, by omega⟩ rfl (fun k h => by omega) (fun h k => by rw [seqS_id]; rw [Bool.and_eq_true] at h; exact poss_hyst_at h.2) (Lib.hid (kr_hyst pa sa pc sc _ _ W (hm.keep hW) (hps.keep hW) hwf (hst.keep hW))) (Lib.hid (fun h1 h2 h3 => hvac h1 h2 h3))).mono ?_
      rintro e w' ⟨k, n, m, he, hA, hb⟩
      exact ⟨k, n, m, he, ⟨hA.1, fun h => absurd h hz⟩, hb⟩
    · refine (rsettle_core ⟨#[104, 121, 115, 116]⟩ _ _ _ (tmE (form_hyst ps && poss_hyst (ps.getD 0 0) (ps.getD 1 0) st) [⟨⟨#[97]⟩, ⟨#[85]⟩⟩] vs V 1) 2 id (fun _ => 0) st 1 2 (by decide) ⟨by omega, by omega⟩ (fun h => absurd h hz) (fun k a b => by omega) (fun h => absurd h hz) W (Lib.hid (fun W1 hW1 => ?_)) (Lib.hid (fun h => absurd h hz))).mono ?_
      · have hb := hW.trans (hW1.mono hW.size)
        refine (rStep_core ⟨#[104, 121, 115, 116]⟩ _ _ _ 1 (tmE (form_hyst ps && poss_hyst (ps.getD 0 0) (ps.getD 1 0) st) [⟨⟨#[97]⟩, ⟨#[85]⟩⟩] vs V 1) 2 0 [0] 1 (by decide) rfl W1 (Lib.hid (fun W hW => rcheck_hyst pa sa va pc sc vc ps st vs V 1 W ((hps.keep hb).keep hW) ((hst.keep hb).keep hW) ((hin.keep hb).keep hW) hV)) (Lib.hid (fun h => absurd h hz))).mono ?_
        rintro e w' ⟨v, k, n, he, hA, hb⟩
        exact ⟨v, k, n, he, fun h => absurd h hz, hb⟩
      · rintro e w' ⟨k, n, m, he, hA, hb⟩
        exact ⟨k, n, m, he, ⟨hA.1, fun h => absurd h hz⟩, hb⟩
set_option maxHeartbeats 4000000 in
theorem kr_latch (pa sa : Option Addr) (pc sc : Nat) (ps st : List Int) (w : World) (hm : MaxAt w) (hps : InS w pa ps.length 1 (flat iL ps)) (hwf : ∀ v ∈ ps, (Lit.int .i64 v).wf = true) (hst : InS w sa st.length 1 (flat iL st)) :
    ∀ W, Below w.heap.size w W → Calls Tryd.prog 21 #[.string ⟨#[108, 97, 116, 99, 104]⟩, .slice pa ps.length pc, .slice sa st.length sc] W fun e w' => ∃ R, e = .returned (.tuple #[R, .int .i64 (if (form_none ps && poss_latch st) = true then 0 else 1)]) ∧ ((form_none ps && poss_latch st) = true → ResOk W ⟨#[108, 97, 116, 99, 104]⟩ ⟨#[98, 105, 110, 97, 114, 121]⟩ 1 1 [] [⟨⟨#[115, 101, 116]⟩, ⟨#[98, 105, 110, 97, 114, 121]⟩⟩, ⟨⟨#[114, 101, 115, 101, 116]⟩, ⟨#[98, 105, 110, 97, 114, 121]⟩⟩] pa ps.length pc st R w') ∧ Below W.heap.size W w' := by
  refine fun W hW => resume_1 ⟨#[108, 97, 116, 99, 104]⟩ ⟨#[98, 105, 110, 97, 114, 121]⟩ 1 [] [⟨⟨#[115, 101, 116]⟩, ⟨#[98, 105, 110, 97, 114, 121]⟩⟩, ⟨⟨#[114, 101, 115, 101, 116]⟩, ⟨#[98, 105, 110, 97, 114, 121]⟩⟩] (fun _ => true) (by decide +kernel) find_latch (agree_latch _) pa pc ps (by decide) hwf (by unfold maxLen; decide +kernel) sa sc st (form_none ps) (poss_latch st) W (hm.keep hW) (hps.keep hW) (hst.keep hW) (formed_latch ps) (fun h => poss_latch_at h) ?_
  intro hF w1 rb a1 c1 a2 c2 ob w5 hr hbW
  have hb := hW.trans (hbW.mono hW.size)
  obtain ⟨rfl, hrng⟩ := form_none_at hF
  exact poss_latch_any rb sc sa st _ _ _ _ _ _ w1 hr (hst.keep hb)
set_option maxHeartbeats 4000000 in
theorem rgood_latch (pa sa va : Option Addr) (pc sc vc : Nat) (ps st : List Int) (vs : List ValD) (V : Bool) (w : World) (hz : (tmE (form_none ps && poss_latch st) [⟨⟨#[115, 101, 116]⟩, ⟨#[98, 105, 110, 97, 114, 121]⟩⟩, ⟨⟨#[114, 101, 115, 101, 116]⟩, ⟨#[98, 105, 110, 97, 114, 121]⟩⟩] vs V 1) = 0) (hps : InS w pa ps.length 1 (flat iL ps)) (hst : InS w sa st.length 1 (flat iL st)) (hin : InS w va vs.length 2 (flat valL vs)) (hV : V = true ↔ ∀ v ∈ vs, fitsB v.k v.n 2 = true) :
    Calls Tryd.prog 12 #[.string ⟨#[108, 97, 116, 99, 104]⟩, .slice pa ps.length pc, .slice sa st.length sc, .slice va vs.length vc, .int .i64 1] w fun e w' => ∃ gr, e = .returned (.tuple #[.slice (some ⟨gr, 0, none⟩) 1 1, .agg #[.int .i64 2, .int .i64 (latchN (vs.getD 0 ⟨0, 0⟩).n (vs.getD 1 ⟨0, 0⟩).n (st.getD 0 0))], .int .i64 0]) ∧ w.heap.size ≤ gr ∧ RowAt w' gr (flat iL [latchN (vs.getD 0 ⟨0, 0⟩).n (vs.getD 1 ⟨0, 0⟩).n (st.getD 0 0)]) ∧ Below w.heap.size w w' := by
  refine rStep_good ⟨#[108, 97, 116, 99, 104]⟩ _ _ _ 1 (tmE (form_none ps && poss_latch st) [⟨⟨#[115, 101, 116]⟩, ⟨#[98, 105, 110, 97, 114, 121]⟩⟩, ⟨⟨#[114, 101, 115, 101, 116]⟩, ⟨#[98, 105, 110, 97, 114, 121]⟩⟩] vs V 1) 2 (latchN (vs.getD 0 ⟨0, 0⟩).n (vs.getD 1 ⟨0, 0⟩).n (st.getD 0 0)) [latchN (vs.getD 0 ⟨0, 0⟩).n (vs.getD 1 ⟨0, 0⟩).n (st.getD 0 0)] 1 (by decide) rfl hz w (Lib.hid (fun W hW => rcheck_latch pa sa va pc sc vc ps st vs V 1 W (hps.keep hW) (hst.keep hW) (hin.keep hW) hV)) (Lib.hid (fun _ W hW => ?_))
  obtain ⟨hFP, hdt, hlen, hV1⟩ := tmE_zero hz
  rw [Bool.and_eq_true] at hFP
  obtain ⟨hF, hPB⟩ := hFP
  obtain ⟨rfl, hrng⟩ := form_none_at hF
  obtain ⟨x, rfl⟩ := poss_latch_at hPB
  have hx := inZ_le (show inZ 0 x 1 = true from hPB)
  obtain ⟨v0, v1, rfl⟩ : ∃ z u, vs = [z, u] := by
    match vs, hlen with
    | [z, u], _ => exact ⟨_, _, rfl⟩
  obtain ⟨k0, a⟩ := v0
  obtain ⟨k1, c⟩ := v1
  have hfa := fits_at (hV.1 hV1 _ (List.mem_of_getElem? (i := 0) rfl))
  have hfc := fits_at (hV.1 hV1 _ (List.mem_of_getElem? (i := 1) rfl))
  simp only at hfa hfc
  have ha : a = 0 ∨ a = 1 := by omega
  have hc : c = 0 ∨ c = 1 := by omega
  obtain ⟨sb, so, rfl, hsl, hsc⟩ := (show InS w sa 1 1 (flat iL [x]) from hst).at (xs := [x]) iL_len (by simp)
  have s0 : w.cell? ⟨sb, so, none⟩ = some (.int .i64 x) := by have h := hsc 0 _ rfl 0 _ rfl; simpa using h
  obtain ⟨vb, vo, rfl, hvl, hvc⟩ := (show InS w va 2 2 (flat valL [⟨k0, a⟩, ⟨k1, c⟩]) from hin).at (xs := [⟨k0, a⟩, ⟨k1, c⟩]) valL_len (by simp)
  have n0 : w.cell? ⟨vb, vo + 1, none⟩ = some (.int .i64 a) := by have h := hvc 0 _ rfl 1 _ rfl; simpa using h
  have n1 : w.cell? ⟨vb, vo + 3, none⟩ = some (.int .i64 c) := by have h := hvc 1 _ rfl 1 _ rfl; simpa using h
  exact rstep_latch sb so sc vb vo vc _ x a c 1 W hdt   (cellB s0 hW) (cellB n0 hW) (cellB n1 hW)
set_option maxHeartbeats 8000000 in
theorem lawS_latch (pa sa va : Option Addr) (pc sc vc : Nat) (ps st : List Int) (vs : List ValD) (V : Bool) (w : World) (hm : MaxAt w) (hps : InS w pa ps.length 1 (flat iL ps)) (hwf : ∀ v ∈ ps, (Lit.int .i64 v).wf = true) (hst : InS w sa st.length 1 (flat iL st)) (hin : InS w va vs.length 2 (flat valL vs)) (hV : V = true ↔ ∀ v ∈ vs, fitsB v.k v.n 2 = true) :
    Calls Tryd.prog 4 #[.string ⟨#[108, 97, 116, 99, 104]⟩, .slice pa ps.length pc, .slice sa st.length sc, .slice va vs.length vc] w fun e w' => e = .returned (.bool true) ∧ Below w.heap.size w w' := by
  by_cases he : ∀ v ∈ ps, ¬ (200 < v ∧ v ≤ 86400)
  · by_cases hz : (tmE (form_none ps && poss_latch st) [⟨⟨#[115, 101, 116]⟩, ⟨#[98, 105, 110, 97, 114, 121]⟩⟩, ⟨⟨#[114, 101, 115, 101, 116]⟩, ⟨#[98, 105, 110, 97, 114, 121]⟩⟩] vs V 1) = 0
    · obtain ⟨hFP, hdt, hlen, hV1⟩ := tmE_zero hz
      rw [Bool.and_eq_true] at hFP
      obtain ⟨hF, hPB⟩ := hFP
      obtain ⟨rfl, hrng⟩ := form_none_at hF
      obtain ⟨x, rfl⟩ := poss_latch_at hPB
      have hx := inZ_le (show inZ 0 x 1 = true from hPB)
      obtain ⟨v0, v1, rfl⟩ : ∃ z u, vs = [z, u] := by
        match vs, hlen with
        | [z, u], _ => exact ⟨_, _, rfl⟩
      obtain ⟨k0, a⟩ := v0
      obtain ⟨k1, c⟩ := v1
      have hfa := fits_at (hV.1 hV1 _ (List.mem_of_getElem? (i := 0) rfl))
      have hfc := fits_at (hV.1 hV1 _ (List.mem_of_getElem? (i := 1) rfl))
      simp only at hfa hfc
      have ha : a = 0 ∨ a = 1 := by omega
      have hc : c = 0 ∨ c = 1 := by omega
      obtain ⟨N, hN1, hN2, hfx, hne, hP⟩ := pick (fun st => poss_latch st) (F_latch a c) [x] (mu_latch a c) hPB (fun st h => mu_latch_at a c st  ha hc h)
      obtain ⟨M, hM1, hM2, hMf, hMn, hMs⟩ := late_fix (F_latch a c) (O_latch a c) [x] N hN1 hfx hne
      have hzk : ∀ k, tmE (form_none [] && poss_latch (seqS (F_latch a c) [x] k)) [⟨⟨#[115, 101, 116]⟩, ⟨#[98, 105, 110, 97, 114, 121]⟩⟩, ⟨⟨#[114, 101, 115, 101, 116]⟩, ⟨#[98, 105, 110, 97, 114, 121]⟩⟩] [⟨k0, a⟩, ⟨k1, c⟩] V 1 = 0 := fun k => by
        have h := hz
        rw [show ((form_none [] && poss_latch [x]) : Bool) = (form_none [] && poss_latch [x]) from rfl, show poss_latch [x] = true from hPB] at h
        rw [show poss_latch (seqS (F_latch a c) [x] k) = true from hP k]
        exact h
      refine settles_core ⟨#[108, 97, 116, 99, 104]⟩ (by decide +kernel) (by decide +kernel) pa sa va pc sc vc _ _ _ _ 2 (svV (F_latch a c) (O_latch a c) [x] N) w hm hps hst.2.1 hin.2.1 (Lib.hid (fun _ W hW => psettle_1 ⟨#[108, 97, 116, 99, 104]⟩ ⟨#[98, 105, 110, 97, 114, 121]⟩ [] [⟨⟨#[115, 101, 116]⟩, ⟨#[98, 105, 110, 97, 114, 121]⟩⟩, ⟨⟨#[114, 101, 115, 101, 116]⟩, ⟨#[98, 105, 110, 97, 114, 121]⟩⟩] 2 2 pa sa va _ pc _ sc vc [x] [⟨k0, a⟩, ⟨k1, c⟩] (form_none [] && poss_latch [x]) V (F_latch a c) (O_latch a c) N W (by decide) (by decide) (by intro p hp; simp at hp; rcases hp with rfl | rfl <;> exact kindOk_binary) kindOk_binary (by decide) (hin.keep hW) hV ⟨hN1, by omega⟩ hfx hne (fun _ k => poss_latch_at (hP k)) (Lib.hid (kr_latch pa sa pc sc _ _ W (hm.keep hW) (hps.keep hW) hwf (hst.keep hW))) (Lib.hid ?_))) (Lib.hid (fun _ W hW => ?_))
      · intro _ _ _ k w5 rb a1 c1 a2 c2 ob hrb hb50 w9 ib io ic' hbw hr hs hc0 hne0
        have hb5 := hW.trans (hb50.mono hW.size)
        have hb9 := hb5.trans (hbw.mono hb5.size)
        have hq := hP k
        obtain ⟨x3, hsk⟩ := poss_latch_at (hP k)
        rw [show seqS (F_latch a c) [x] (k + 1) = (F_latch a c) (seqS (F_latch a c) [x] k) from rfl]
        rw [hsk] at hq hs ⊢
        try simp only at hq
        have hx3 := inZ_le (show inZ 0 x3 1 = true from hq)
        have i0 := hc0 0 _ rfl
        have i1 := hc0 1 _ rfl
        exact eval_latch rb w5.heap.size 1 ib io ic' _ _ _ _ _ _ a c x3 1 [] (by decide) w9 hr hs hne0 i0 i1
      · rw [← hMs]
        refine rsettle_core ⟨#[108, 97, 116, 99, 104]⟩ _ _ _ _ 2 (F_latch a c) (O_latch a c) [x] 1 M (by decide) ⟨hM1, by omega⟩ (fun _ => hMf) hMn (fun _ k => by obtain ⟨x3, hsk⟩ := poss_latch_at (hP k); rw [hsk]; rfl) W (Lib.hid (fun W1 hW1 => ?_)) (Lib.hid (fun _ k hk W1 sb hW1 hrow => ?_))
        · have hb := hW.trans (hW1.mono hW.size)
          rw [show tmE (form_none [] && poss_latch [x]) [⟨⟨#[115, 101, 116]⟩, ⟨#[98, 105, 110, 97, 114, 121]⟩⟩, ⟨⟨#[114, 101, 115, 101, 116]⟩, ⟨#[98, 105, 110, 97, 114, 121]⟩⟩] [⟨k0, a⟩, ⟨k1, c⟩] V 1 = 0 from hz]
          refine (rgood_latch pa sa va pc sc vc [] [x] [⟨k0, a⟩, ⟨k1, c⟩] V W1 hz (hps.keep hb) (hst.keep hb) (hin.keep hb) hV).mono ?_
          rintro e w' ⟨gr, rfl, h1, h2, h3⟩
          exact ⟨_, _, _, rfl, fun _ => ⟨rfl, rfl, gr, rfl, h1, h2⟩, h3⟩
        · have hb := hW.trans (hW1.mono hW.size)
          obtain ⟨x3, hsk⟩ := poss_latch_at (hP k)
          have hl3 : (seqS (F_latch a c) [x] k).length = 1 := by rw [hsk]; rfl
          have kk := rgood_latch pa (some ⟨sb, 0, none⟩) va pc 1 vc [] (seqS (F_latch a c) [x] k) [⟨k0, a⟩, ⟨k1, c⟩] V W1 (hzk k) (hps.keep hb) (inS_row (n := 1) hrow (by omega)) (hin.keep hb) hV
          rw [hl3] at kk
          exact kk
    · have hvac : ∀ {p : Prop}, (form_none ps && poss_latch st) = true → V = true → vs.length = 2 → p := by
        intro p h1 h2 h3
        refine absurd ?_ hz
        unfold tmE
        rw [if_neg, if_neg]
        · rw [h2]; decide
        · intro h
          rcases h with h | h | h
          · rw [h1] at h; cases h
          · exact absurd h (by decide)
          · exact h h3
      refine settles_core ⟨#[108, 97, 116, 99, 104]⟩ (by decide +kernel) (by decide +kernel) pa sa va pc sc vc _ _ _ (tmE (form_none ps && poss_latch st) [⟨⟨#[115, 101, 116]⟩, ⟨#[98, 105, 110, 97, 114, 121]⟩⟩, ⟨⟨#[114, 101, 115, 101, 116]⟩, ⟨#[98, 105, 110, 97, 114, 121]⟩⟩] vs V 1) 2 (0, 0) w hm hps hst.2.1 hin.2.1 (Lib.hid (fun _ W hW => ?_)) (Lib.hid (fun _ W hW => ?_))
      · refine (psettle_1 ⟨#[108, 97, 116, 99, 104]⟩ ⟨#[98, 105, 110, 97, 114, 121]⟩ [] [⟨⟨#[115, 101, 116]⟩, ⟨#[98, 105, 110, 97, 114, 121]⟩⟩, ⟨⟨#[114, 101, 115, 101, 116]⟩, ⟨#[98, 105, 110, 97, 114, 121]⟩⟩] 2 2 pa sa va _ pc _ sc vc st vs (form_none ps && poss_latch st) V id (fun _ => 0) 1 W (by decide) (by decide) (by intro p hp; simp at hp; rcases hp with rfl | rfl <;> exact kindOk_binary) kindOk_binary (by decide) (hin.keep hW) hV ⟨by omega, by omega⟩ rfl (fun k h => by omega) (fun h k => by rw [seqS_id]; rw [Bool.and_eq_true] at h; exact poss_latch_at h.2) (Lib.hid (kr_latch pa sa pc sc _ _ W (hm.keep hW) (hps.keep hW) hwf (hst.keep hW))) (Lib.hid (fun h1 h2 h3 => hvac h1 h2 h3))).mono ?_
        rintro e w' ⟨k, n, m, he, hA, hb⟩
        exact ⟨k, n, m, he, ⟨hA.1, fun h => absurd h hz⟩, hb⟩
      · refine (rsettle_core ⟨#[108, 97, 116, 99, 104]⟩ _ _ _ (tmE (form_none ps && poss_latch st) [⟨⟨#[115, 101, 116]⟩, ⟨#[98, 105, 110, 97, 114, 121]⟩⟩, ⟨⟨#[114, 101, 115, 101, 116]⟩, ⟨#[98, 105, 110, 97, 114, 121]⟩⟩] vs V 1) 2 id (fun _ => 0) st 1 2 (by decide) ⟨by omega, by omega⟩ (fun h => absurd h hz) (fun k a b => by omega) (fun h => absurd h hz) W (Lib.hid (fun W1 hW1 => ?_)) (Lib.hid (fun h => absurd h hz))).mono ?_
        · have hb := hW.trans (hW1.mono hW.size)
          refine (rStep_core ⟨#[108, 97, 116, 99, 104]⟩ _ _ _ 1 (tmE (form_none ps && poss_latch st) [⟨⟨#[115, 101, 116]⟩, ⟨#[98, 105, 110, 97, 114, 121]⟩⟩, ⟨⟨#[114, 101, 115, 101, 116]⟩, ⟨#[98, 105, 110, 97, 114, 121]⟩⟩] vs V 1) 2 0 [0] 1 (by decide) rfl W1 (Lib.hid (fun W hW => rcheck_latch pa sa va pc sc vc ps st vs V 1 W ((hps.keep hb).keep hW) ((hst.keep hb).keep hW) ((hin.keep hb).keep hW) hV)) (Lib.hid (fun h => absurd h hz))).mono ?_
          rintro e w' ⟨v, k, n, he, hA, hb⟩
          exact ⟨v, k, n, he, fun h => absurd h hz, hb⟩
        · rintro e w' ⟨k, n, m, he, hA, hb⟩
          exact ⟨k, n, m, he, ⟨hA.1, fun h => absurd h hz⟩, hb⟩
  · exact settles_core ⟨#[108, 97, 116, 99, 104]⟩ (by decide +kernel) (by decide +kernel) pa sa va pc sc vc _ _ _ 0 0 (0, 0) w hm hps hst.2.1 hin.2.1 (Lib.hid (fun h => absurd h he)) (Lib.hid (fun h => absurd h he))
set_option maxHeartbeats 4000000 in
theorem kr_minrun (pa sa : Option Addr) (pc sc : Nat) (ps st : List Int) (w : World) (hm : MaxAt w) (hps : InS w pa ps.length 1 (flat iL ps)) (hwf : ∀ v ∈ ps, (Lit.int .i64 v).wf = true) (hst : InS w sa st.length 1 (flat iL st)) :
    ∀ W, Below w.heap.size w W → Calls Tryd.prog 21 #[.string ⟨#[109, 105, 110, 114, 117, 110]⟩, .slice pa ps.length pc, .slice sa st.length sc] W fun e w' => ∃ R, e = .returned (.tuple #[R, .int .i64 (if (form_mr ps && poss_minrun (ps.getD 0 0) (ps.getD 1 0) st) = true then 0 else 1)]) ∧ ((form_mr ps && poss_minrun (ps.getD 0 0) (ps.getD 1 0) st) = true → ResOk W ⟨#[109, 105, 110, 114, 117, 110]⟩ ⟨#[98, 105, 110, 97, 114, 121]⟩ 1 2 [⟨⟨#[111, 110]⟩, 0, 86400, 0⟩, ⟨⟨#[111, 102, 102]⟩, 0, 86400, 0⟩] [⟨⟨#[97]⟩, ⟨#[98, 105, 110, 97, 114, 121]⟩⟩] pa ps.length pc st R w') ∧ Below W.heap.size W w' := by
  refine fun W hW => resume_2 ⟨#[109, 105, 110, 114, 117, 110]⟩ ⟨#[98, 105, 110, 97, 114, 121]⟩ 1 [⟨⟨#[111, 110]⟩, 0, 86400, 0⟩, ⟨⟨#[111, 102, 102]⟩, 0, 86400, 0⟩] [⟨⟨#[97]⟩, ⟨#[98, 105, 110, 97, 114, 121]⟩⟩] (fun _ => true) (by decide +kernel) find_minrun (agree_minrun _) pa pc ps (by decide) hwf (by unfold maxLen; decide +kernel) sa sc st (form_mr ps) (poss_minrun (ps.getD 0 0) (ps.getD 1 0) st) W (hm.keep hW) (hps.keep hW) (hst.keep hW) (formed_minrun ps) (fun h => poss_minrun_at h) ?_
  intro hF w1 rb a1 c1 a2 c2 ob w5 hr hbW
  have hb := hW.trans (hbW.mono hW.size)
  obtain ⟨p0, p1, rfl, hrng⟩ := form_mr_at hF
  obtain ⟨pb, po, rfl, hpl, hpc⟩ := (show InS w pa 2 1 (flat iL [p0, p1]) from hps).at (xs := [p0, p1]) iL_len (by simp)
  have q0 : w.cell? ⟨pb, po, none⟩ = some (.int .i64 p0) := by have h := hpc 0 _ rfl 0 _ rfl; simpa using h
  have q1 : w.cell? ⟨pb, po + 1, none⟩ = some (.int .i64 p1) := by have h := hpc 1 _ rfl 0 _ rfl; simpa using h
  exact poss_minrun_any rb pb po pc sc w5.heap.size 2 sa p0 p1 st _ _ _ _ w1 hr (cellB q0 hb) (cellB q1 hb) (hst.keep hb)
set_option maxHeartbeats 4000000 in
theorem rgood_minrun (pa sa va : Option Addr) (pc sc vc : Nat) (ps st : List Int) (vs : List ValD) (V : Bool) (w : World) (hz : (tmE (form_mr ps && poss_minrun (ps.getD 0 0) (ps.getD 1 0) st) [⟨⟨#[97]⟩, ⟨#[98, 105, 110, 97, 114, 121]⟩⟩] vs V 1) = 0) (hps : InS w pa ps.length 1 (flat iL ps)) (hst : InS w sa st.length 1 (flat iL st)) (hin : InS w va vs.length 2 (flat valL vs)) (hV : V = true ↔ ∀ v ∈ vs, fitsB v.k v.n 2 = true) :
    Calls Tryd.prog 12 #[.string ⟨#[109, 105, 110, 114, 117, 110]⟩, .slice pa ps.length pc, .slice sa st.length sc, .slice va vs.length vc, .int .i64 1] w fun e w' => ∃ gr, e = .returned (.tuple #[.slice (some ⟨gr, 0, none⟩) 2 2, .agg #[.int .i64 2, .int .i64 (mrS0 (ps.getD 0 0) (ps.getD 1 0) (vs.getD 0 ⟨0, 0⟩).n (st.getD 0 0) (st.getD 1 0) 1)], .int .i64 0]) ∧ w.heap.size ≤ gr ∧ RowAt w' gr (flat iL [mrS0 (ps.getD 0 0) (ps.getD 1 0) (vs.getD 0 ⟨0, 0⟩).n (st.getD 0 0) (st.getD 1 0) 1, mrS1 (ps.getD 0 0) (ps.getD 1 0) (vs.getD 0 ⟨0, 0⟩).n (st.getD 0 0) (st.getD 1 0) 1]) ∧ Below w.heap.size w w' := by
  refine rStep_good ⟨#[109, 105, 110, 114, 117, 110]⟩ _ _ _ 1 (tmE (form_mr ps && poss_minrun (ps.getD 0 0) (ps.getD 1 0) st) [⟨⟨#[97]⟩, ⟨#[98, 105, 110, 97, 114, 121]⟩⟩] vs V 1) 2 (mrS0 (ps.getD 0 0) (ps.getD 1 0) (vs.getD 0 ⟨0, 0⟩).n (st.getD 0 0) (st.getD 1 0) 1) [mrS0 (ps.getD 0 0) (ps.getD 1 0) (vs.getD 0 ⟨0, 0⟩).n (st.getD 0 0) (st.getD 1 0) 1, mrS1 (ps.getD 0 0) (ps.getD 1 0) (vs.getD 0 ⟨0, 0⟩).n (st.getD 0 0) (st.getD 1 0) 1] 2 (by decide) rfl hz w (Lib.hid (fun W hW => rcheck_minrun pa sa va pc sc vc ps st vs V 1 W (hps.keep hW) (hst.keep hW) (hin.keep hW) hV)) (Lib.hid (fun _ W hW => ?_))
  obtain ⟨hFP, hdt, hlen, hV1⟩ := tmE_zero hz
  rw [Bool.and_eq_true] at hFP
  obtain ⟨hF, hPB⟩ := hFP
  obtain ⟨p0, p1, rfl, hrng⟩ := form_mr_at hF
  obtain ⟨x, y, rfl⟩ := poss_minrun_at hPB
  have hxy : (inZ 0 x 1 && inZ 0 y (leastN p0 p1 x)) = true := hPB
  rw [Bool.and_eq_true] at hxy
  have hx := inZ_le hxy.1
  have hy := inZ_le hxy.2
  obtain ⟨v0, rfl⟩ : ∃ z, vs = [z] := by
    match vs, hlen with
    | [z], _ => exact ⟨_, rfl⟩
  obtain ⟨k0, a⟩ := v0
  have hfa := fits_at (hV.1 hV1 _ (List.mem_of_getElem? (i := 0) rfl))
  simp only at hfa
  have ha : a = 0 ∨ a = 1 := by omega
  obtain ⟨pb, po, rfl, hpl, hpc⟩ := (show InS w pa 2 1 (flat iL [p0, p1]) from hps).at (xs := [p0, p1]) iL_len (by simp)
  have q0 : w.cell? ⟨pb, po, none⟩ = some (.int .i64 p0) := by have h := hpc 0 _ rfl 0 _ rfl; simpa using h
  have q1 : w.cell? ⟨pb, po + 1, none⟩ = some (.int .i64 p1) := by have h := hpc 1 _ rfl 0 _ rfl; simpa using h
  obtain ⟨sb, so, rfl, hsl, hsc⟩ := (show InS w sa 2 1 (flat iL [x, y]) from hst).at (xs := [x, y]) iL_len (by simp)
  have s0 : w.cell? ⟨sb, so, none⟩ = some (.int .i64 x) := by have h := hsc 0 _ rfl 0 _ rfl; simpa using h
  have s1 : w.cell? ⟨sb, so + 1, none⟩ = some (.int .i64 y) := by have h := hsc 1 _ rfl 0 _ rfl; simpa using h
  obtain ⟨vb, vo, rfl, hvl, hvc⟩ := (show InS w va 1 2 (flat valL [⟨k0, a⟩]) from hin).at (xs := [⟨k0, a⟩]) valL_len (by simp)
  have n0 : w.cell? ⟨vb, vo + 1, none⟩ = some (.int .i64 a) := by have h := hvc 0 _ rfl 1 _ rfl; simpa using h
  exact rstep_minrun pb po pc sb so sc vb vo vc p0 p1 x y a 1 W hdt hrng hy (cellB q0 hW) (cellB q1 hW) (cellB s0 hW) (cellB s1 hW) (cellB n0 hW)
set_option maxHeartbeats 8000000 in
theorem lawS_minrun (pa sa va : Option Addr) (pc sc vc : Nat) (ps st : List Int) (vs : List ValD) (V : Bool) (w : World) (hm : MaxAt w) (hps : InS w pa ps.length 1 (flat iL ps)) (hwf : ∀ v ∈ ps, (Lit.int .i64 v).wf = true) (hst : InS w sa st.length 1 (flat iL st)) (hin : InS w va vs.length 2 (flat valL vs)) (hV : V = true ↔ ∀ v ∈ vs, fitsB v.k v.n 2 = true) :
    Calls Tryd.prog 4 #[.string ⟨#[109, 105, 110, 114, 117, 110]⟩, .slice pa ps.length pc, .slice sa st.length sc, .slice va vs.length vc] w fun e w' => e = .returned (.bool true) ∧ Below w.heap.size w w' := by
  by_cases he : ∀ v ∈ ps, ¬ (200 < v ∧ v ≤ 86400)
  · by_cases hz : (tmE (form_mr ps && poss_minrun (ps.getD 0 0) (ps.getD 1 0) st) [⟨⟨#[97]⟩, ⟨#[98, 105, 110, 97, 114, 121]⟩⟩] vs V 1) = 0
    · obtain ⟨hFP, hdt, hlen, hV1⟩ := tmE_zero hz
      rw [Bool.and_eq_true] at hFP
      obtain ⟨hF, hPB⟩ := hFP
      obtain ⟨p0, p1, rfl, hrng⟩ := form_mr_at hF
      obtain ⟨x, y, rfl⟩ := poss_minrun_at hPB
      have hxy : (inZ 0 x 1 && inZ 0 y (leastN p0 p1 x)) = true := hPB
      rw [Bool.and_eq_true] at hxy
      have hx := inZ_le hxy.1
      have hy := inZ_le hxy.2
      obtain ⟨v0, rfl⟩ : ∃ z, vs = [z] := by
        match vs, hlen with
        | [z], _ => exact ⟨_, rfl⟩
      obtain ⟨k0, a⟩ := v0
      have hfa := fits_at (hV.1 hV1 _ (List.mem_of_getElem? (i := 0) rfl))
      simp only at hfa
      have ha : a = 0 ∨ a = 1 := by omega
      have hr2 : (0 ≤ p0 ∧ p0 ≤ 200) ∧ (0 ≤ p1 ∧ p1 ≤ 200) := by have h1 := he p0 (by simp); have h2 := he p1 (by simp); omega
      obtain ⟨N, hN1, hN2, hfx, hne, hP⟩ := pick (fun st => poss_minrun p0 p1 st) (F_minrun p0 p1 a) [x, y] (mu_minrun p0 p1 a) hPB (fun st h => mu_minrun_at p0 p1 a st hr2 ha h)
      obtain ⟨M, hM1, hM2, hMf, hMn, hMs⟩ := late_fix (F_minrun p0 p1 a) (O_minrun p0 p1 a) [x, y] N hN1 hfx hne
      have hzk : ∀ k, tmE (form_mr [p0, p1] && poss_minrun p0 p1 (seqS (F_minrun p0 p1 a) [x, y] k)) [⟨⟨#[97]⟩, ⟨#[98, 105, 110, 97, 114, 121]⟩⟩] [⟨k0, a⟩] V 1 = 0 := fun k => by
        have h := hz
        rw [show ((form_mr [p0, p1] && poss_minrun ([p0, p1].getD 0 0) ([p0, p1].getD 1 0) [x, y]) : Bool) = (form_mr [p0, p1] && poss_minrun p0 p1 [x, y]) from rfl, show poss_minrun p0 p1 [x, y] = true from hPB] at h
        rw [show poss_minrun p0 p1 (seqS (F_minrun p0 p1 a) [x, y] k) = true from hP k]
        exact h
      refine settles_core ⟨#[109, 105, 110, 114, 117, 110]⟩ (by decide +kernel) (by decide +kernel) pa sa va pc sc vc _ _ _ _ 2 (svV (F_minrun p0 p1 a) (O_minrun p0 p1 a) [x, y] N) w hm hps hst.2.1 hin.2.1 (Lib.hid (fun _ W hW => psettle_2 ⟨#[109, 105, 110, 114, 117, 110]⟩ ⟨#[98, 105, 110, 97, 114, 121]⟩ [⟨⟨#[111, 110]⟩, 0, 86400, 0⟩, ⟨⟨#[111, 102, 102]⟩, 0, 86400, 0⟩] [⟨⟨#[97]⟩, ⟨#[98, 105, 110, 97, 114, 121]⟩⟩] 2 2 pa sa va _ pc _ sc vc [x, y] [⟨k0, a⟩] (form_mr [p0, p1] && poss_minrun p0 p1 [x, y]) V (F_minrun p0 p1 a) (O_minrun p0 p1 a) N W (by decide) (by decide) (by intro p hp; simp at hp; subst hp; exact kindOk_binary) kindOk_binary (by decide) (hin.keep hW) hV ⟨hN1, by omega⟩ hfx hne (fun _ k => poss_minrun_at (hP k)) (Lib.hid (kr_minrun pa sa pc sc _ _ W (hm.keep hW) (hps.keep hW) hwf (hst.keep hW))) (Lib.hid ?_))) (Lib.hid (fun _ W hW => ?_))
      · intro _ _ _ k w5 rb a1 c1 a2 c2 ob hrb hb50 w9 ib io ic' hbw hr hs hc0 hne0
        have hb5 := hW.trans (hb50.mono hW.size)
        have hb9 := hb5.trans (hbw.mono hb5.size)
        have hq := hP k
        obtain ⟨x3, y3, hsk⟩ := poss_minrun_at (hP k)
        rw [show seqS (F_minrun p0 p1 a) [x, y] (k + 1) = (F_minrun p0 p1 a) (seqS (F_minrun p0 p1 a) [x, y] k) from rfl]
        rw [hsk] at hq hs ⊢
        try simp only at hq
        have hxy3 : (inZ 0 x3 1 && inZ 0 y3 (leastN p0 p1 x3)) = true := hq
        rw [Bool.and_eq_true] at hxy3
        have hx3 := inZ_le hxy3.1
        have hy3 := inZ_le hxy3.2
        have hl : 0 ≤ leastN p0 p1 x3 ∧ leastN p0 p1 x3 ≤ 86400 := by unfold leastN; split <;> omega
        obtain ⟨pb, po, rfl, hpl, hpc⟩ := (show InS w pa 2 1 (flat iL [p0, p1]) from hps).at (xs := [p0, p1]) iL_len (by simp)
        have q0 : w.cell? ⟨pb, po, none⟩ = some (.int .i64 p0) := by have h := hpc 0 _ rfl 0 _ rfl; simpa using h
        have q1 : w.cell? ⟨pb, po + 1, none⟩ = some (.int .i64 p1) := by have h := hpc 1 _ rfl 0 _ rfl; simpa using h
        have i0 := hc0 0 _ rfl
        exact eval_minrun rb w5.heap.size pb po pc ib io ic' _ _ _ _ _ p0 p1 a x3 y3 1 (by omega) (by have := hb5.size; omega) ⟨by omega, by omega⟩ ⟨by omega, by omega⟩ w9 hr (cellB q0 hb9) (cellB q1 hb9) hs i0
      · rw [← hMs]
        refine rsettle_core ⟨#[109, 105, 110, 114, 117, 110]⟩ _ _ _ _ 2 (F_minrun p0 p1 a) (O_minrun p0 p1 a) [x, y] 2 M (by decide) ⟨hM1, by omega⟩ (fun _ => hMf) hMn (fun _ k => by obtain ⟨x3, y3, hsk⟩ := poss_minrun_at (hP k); rw [hsk]; rfl) W (Lib.hid (fun W1 hW1 => ?_)) (Lib.hid (fun _ k hk W1 sb hW1 hrow => ?_))
        · have hb := hW.trans (hW1.mono hW.size)
          rw [show tmE (form_mr [p0, p1] && poss_minrun p0 p1 [x, y]) [⟨⟨#[97]⟩, ⟨#[98, 105, 110, 97, 114, 121]⟩⟩] [⟨k0, a⟩] V 1 = 0 from hz]
          refine (rgood_minrun pa sa va pc sc vc [p0, p1] [x, y] [⟨k0, a⟩] V W1 hz (hps.keep hb) (hst.keep hb) (hin.keep hb) hV).mono ?_
          rintro e w' ⟨gr, rfl, h1, h2, h3⟩
          exact ⟨_, _, _, rfl, fun _ => ⟨rfl, rfl, gr, rfl, h1, h2⟩, h3⟩
        · have hb := hW.trans (hW1.mono hW.size)
          obtain ⟨x3, y3, hsk⟩ := poss_minrun_at (hP k)
          have hl3 : (seqS (F_minrun p0 p1 a) [x, y] k).length = 2 := by rw [hsk]; rfl
          have kk := rgood_minrun pa (some ⟨sb, 0, none⟩) va pc 2 vc [p0, p1] (seqS (F_minrun p0 p1 a) [x, y] k) [⟨k0, a⟩] V W1 (hzk k) (hps.keep hb) (inS_row (n := 2) hrow (by omega)) (hin.keep hb) hV
          rw [hl3] at kk
          exact kk
    · have hvac : ∀ {p : Prop}, (form_mr ps && poss_minrun (ps.getD 0 0) (ps.getD 1 0) st) = true → V = true → vs.length = 1 → p := by
        intro p h1 h2 h3
        refine absurd ?_ hz
        unfold tmE
        rw [if_neg, if_neg]
        · rw [h2]; decide
        · intro h
          rcases h with h | h | h
          · rw [h1] at h; cases h
          · exact absurd h (by decide)
          · exact h h3
      refine settles_core ⟨#[109, 105, 110, 114, 117, 110]⟩ (by decide +kernel) (by decide +kernel) pa sa va pc sc vc _ _ _ (tmE (form_mr ps && poss_minrun (ps.getD 0 0) (ps.getD 1 0) st) [⟨⟨#[97]⟩, ⟨#[98, 105, 110, 97, 114, 121]⟩⟩] vs V 1) 2 (0, 0) w hm hps hst.2.1 hin.2.1 (Lib.hid (fun _ W hW => ?_)) (Lib.hid (fun _ W hW => ?_))
      · refine (psettle_2 ⟨#[109, 105, 110, 114, 117, 110]⟩ ⟨#[98, 105, 110, 97, 114, 121]⟩ [⟨⟨#[111, 110]⟩, 0, 86400, 0⟩, ⟨⟨#[111, 102, 102]⟩, 0, 86400, 0⟩] [⟨⟨#[97]⟩, ⟨#[98, 105, 110, 97, 114, 121]⟩⟩] 2 2 pa sa va _ pc _ sc vc st vs (form_mr ps && poss_minrun (ps.getD 0 0) (ps.getD 1 0) st) V id (fun _ => 0) 1 W (by decide) (by decide) (by intro p hp; simp at hp; subst hp; exact kindOk_binary) kindOk_binary (by decide) (hin.keep hW) hV ⟨by omega, by omega⟩ rfl (fun k h => by omega) (fun h k => by rw [seqS_id]; rw [Bool.and_eq_true] at h; exact poss_minrun_at h.2) (Lib.hid (kr_minrun pa sa pc sc _ _ W (hm.keep hW) (hps.keep hW) hwf (hst.keep hW))) (Lib.hid (fun h1 h2 h3 => hvac h1 h2 h3))).mono ?_
        rintro e w' ⟨k, n, m, he, hA, hb⟩
        exact ⟨k, n, m, he, ⟨hA.1, fun h => absurd h hz⟩, hb⟩
      · refine (rsettle_core ⟨#[109, 105, 110, 114, 117, 110]⟩ _ _ _ (tmE (form_mr ps && poss_minrun (ps.getD 0 0) (ps.getD 1 0) st) [⟨⟨#[97]⟩, ⟨#[98, 105, 110, 97, 114, 121]⟩⟩] vs V 1) 2 id (fun _ => 0) st 2 2 (by decide) ⟨by omega, by omega⟩ (fun h => absurd h hz) (fun k a b => by omega) (fun h => absurd h hz) W (Lib.hid (fun W1 hW1 => ?_)) (Lib.hid (fun h => absurd h hz))).mono ?_
        · have hb := hW.trans (hW1.mono hW.size)
          refine (rStep_core ⟨#[109, 105, 110, 114, 117, 110]⟩ _ _ _ 1 (tmE (form_mr ps && poss_minrun (ps.getD 0 0) (ps.getD 1 0) st) [⟨⟨#[97]⟩, ⟨#[98, 105, 110, 97, 114, 121]⟩⟩] vs V 1) 2 0 [0, 0] 2 (by decide) rfl W1 (Lib.hid (fun W hW => rcheck_minrun pa sa va pc sc vc ps st vs V 1 W ((hps.keep hb).keep hW) ((hst.keep hb).keep hW) ((hin.keep hb).keep hW) hV)) (Lib.hid (fun h => absurd h hz))).mono ?_
          rintro e w' ⟨v, k, n, he, hA, hb⟩
          exact ⟨v, k, n, he, fun h => absurd h hz, hb⟩
        · rintro e w' ⟨k, n, m, he, hA, hb⟩
          exact ⟨k, n, m, he, ⟨hA.1, fun h => absurd h hz⟩, hb⟩
  · exact settles_core ⟨#[109, 105, 110, 114, 117, 110]⟩ (by decide +kernel) (by decide +kernel) pa sa va pc sc vc _ _ _ 0 0 (0, 0) w hm hps hst.2.1 hin.2.1 (Lib.hid (fun h => absurd h he)) (Lib.hid (fun h => absurd h he))
set_option maxHeartbeats 4000000 in
theorem kr_offdelay (pa sa : Option Addr) (pc sc : Nat) (ps st : List Int) (w : World) (hm : MaxAt w) (hps : InS w pa ps.length 1 (flat iL ps)) (hwf : ∀ v ∈ ps, (Lit.int .i64 v).wf = true) (hst : InS w sa st.length 1 (flat iL st)) :
    ∀ W, Below w.heap.size w W → Calls Tryd.prog 21 #[.string ⟨#[111, 102, 102, 100, 101, 108, 97, 121]⟩, .slice pa ps.length pc, .slice sa st.length sc] W fun e w' => ∃ R, e = .returned (.tuple #[R, .int .i64 (if (form_time ps && poss_offdelay (ps.getD 0 0) st) = true then 0 else 1)]) ∧ ((form_time ps && poss_offdelay (ps.getD 0 0) st) = true → ResOk W ⟨#[111, 102, 102, 100, 101, 108, 97, 121]⟩ ⟨#[98, 105, 110, 97, 114, 121]⟩ 1 1 [⟨⟨#[116, 105, 109, 101]⟩, 0, 86400, 0⟩] [⟨⟨#[97]⟩, ⟨#[98, 105, 110, 97, 114, 121]⟩⟩] pa ps.length pc st R w') ∧ Below W.heap.size W w' := by
  refine fun W hW => resume_1 ⟨#[111, 102, 102, 100, 101, 108, 97, 121]⟩ ⟨#[98, 105, 110, 97, 114, 121]⟩ 1 [⟨⟨#[116, 105, 109, 101]⟩, 0, 86400, 0⟩] [⟨⟨#[97]⟩, ⟨#[98, 105, 110, 97, 114, 121]⟩⟩] (fun _ => true) (by decide +kernel) find_offdelay (agree_offdelay _) pa pc ps (by decide) hwf (by unfold maxLen; decide +kernel) sa sc st (form_time ps) (poss_offdelay (ps.getD 0 0) st) W (hm.keep hW) (hps.keep hW) (hst.keep hW) (formed_offdelay ps) (fun h => poss_offdelay_at h) ?_
  intro hF w1 rb a1 c1 a2 c2 ob w5 hr hbW
  have hb := hW.trans (hbW.mono hW.size)
  obtain ⟨p0, rfl, hrng⟩ := form_time_at hF
  obtain ⟨pb, po, rfl, hpl, hpc⟩ := (show InS w pa 1 1 (flat iL [p0]) from hps).at (xs := [p0]) iL_len (by simp)
  have q0 : w.cell? ⟨pb, po, none⟩ = some (.int .i64 p0) := by have h := hpc 0 _ rfl 0 _ rfl; simpa using h
  exact poss_offdelay_any rb pb po pc sc sa p0 st _ _ _ _ _ w1 hr (cellB q0 hb) (hst.keep hb)
set_option maxHeartbeats 4000000 in
theorem rgood_offdelay (pa sa va : Option Addr) (pc sc vc : Nat) (ps st : List Int) (vs : List ValD) (V : Bool) (w : World) (hz : (tmE (form_time ps && poss_offdelay (ps.getD 0 0) st) [⟨⟨#[97]⟩, ⟨#[98, 105, 110, 97, 114, 121]⟩⟩] vs V 1) = 0) (hps : InS w pa ps.length 1 (flat iL ps)) (hst : InS w sa st.length 1 (flat iL st)) (hin : InS w va vs.length 2 (flat valL vs)) (hV : V = true ↔ ∀ v ∈ vs, fitsB v.k v.n 2 = true) :
    Calls Tryd.prog 12 #[.string ⟨#[111, 102, 102, 100, 101, 108, 97, 121]⟩, .slice pa ps.length pc, .slice sa st.length sc, .slice va vs.length vc, .int .i64 1] w fun e w' => ∃ gr, e = .returned (.tuple #[.slice (some ⟨gr, 0, none⟩) 1 1, .agg #[.int .i64 2, .int .i64 (offV (vs.getD 0 ⟨0, 0⟩).n (st.getD 0 0) (ps.getD 0 0) 1)], .int .i64 0]) ∧ w.heap.size ≤ gr ∧ RowAt w' gr (flat iL [offS (vs.getD 0 ⟨0, 0⟩).n (st.getD 0 0) (ps.getD 0 0) 1]) ∧ Below w.heap.size w w' := by
  refine rStep_good ⟨#[111, 102, 102, 100, 101, 108, 97, 121]⟩ _ _ _ 1 (tmE (form_time ps && poss_offdelay (ps.getD 0 0) st) [⟨⟨#[97]⟩, ⟨#[98, 105, 110, 97, 114, 121]⟩⟩] vs V 1) 2 (offV (vs.getD 0 ⟨0, 0⟩).n (st.getD 0 0) (ps.getD 0 0) 1) [offS (vs.getD 0 ⟨0, 0⟩).n (st.getD 0 0) (ps.getD 0 0) 1] 1 (by decide) rfl hz w (Lib.hid (fun W hW => rcheck_offdelay pa sa va pc sc vc ps st vs V 1 W (hps.keep hW) (hst.keep hW) (hin.keep hW) hV)) (Lib.hid (fun _ W hW => ?_))
  obtain ⟨hFP, hdt, hlen, hV1⟩ := tmE_zero hz
  rw [Bool.and_eq_true] at hFP
  obtain ⟨hF, hPB⟩ := hFP
  obtain ⟨p0, rfl, hrng⟩ := form_time_at hF
  obtain ⟨x, rfl⟩ := poss_offdelay_at hPB
  have hx := inZ_le (show inZ (-1) x p0 = true from hPB)
  obtain ⟨v0, rfl⟩ : ∃ z, vs = [z] := by
    match vs, hlen with
    | [z], _ => exact ⟨_, rfl⟩
  obtain ⟨k0, a⟩ := v0
  have hfa := fits_at (hV.1 hV1 _ (List.mem_of_getElem? (i := 0) rfl))
  simp only at hfa
  have ha : a = 0 ∨ a = 1 := by omega
  obtain ⟨pb, po, rfl, hpl, hpc⟩ := (show InS w pa 1 1 (flat iL [p0]) from hps).at (xs := [p0]) iL_len (by simp)
  have q0 : w.cell? ⟨pb, po, none⟩ = some (.int .i64 p0) := by have h := hpc 0 _ rfl 0 _ rfl; simpa using h
  obtain ⟨sb, so, rfl, hsl, hsc⟩ := (show InS w sa 1 1 (flat iL [x]) from hst).at (xs := [x]) iL_len (by simp)
  have s0 : w.cell? ⟨sb, so, none⟩ = some (.int .i64 x) := by have h := hsc 0 _ rfl 0 _ rfl; simpa using h
  obtain ⟨vb, vo, rfl, hvl, hvc⟩ := (show InS w va 1 2 (flat valL [⟨k0, a⟩]) from hin).at (xs := [⟨k0, a⟩]) valL_len (by simp)
  have n0 : w.cell? ⟨vb, vo + 1, none⟩ = some (.int .i64 a) := by have h := hvc 0 _ rfl 1 _ rfl; simpa using h
  exact rstep_offdelay pb po pc sb so sc vb vo vc p0 x a 1 W hdt hrng hx (cellB q0 hW) (cellB s0 hW) (cellB n0 hW)
set_option maxHeartbeats 8000000 in
theorem lawS_offdelay (pa sa va : Option Addr) (pc sc vc : Nat) (ps st : List Int) (vs : List ValD) (V : Bool) (w : World) (hm : MaxAt w) (hps : InS w pa ps.length 1 (flat iL ps)) (hwf : ∀ v ∈ ps, (Lit.int .i64 v).wf = true) (hst : InS w sa st.length 1 (flat iL st)) (hin : InS w va vs.length 2 (flat valL vs)) (hV : V = true ↔ ∀ v ∈ vs, fitsB v.k v.n 2 = true) :
    Calls Tryd.prog 4 #[.string ⟨#[111, 102, 102, 100, 101, 108, 97, 121]⟩, .slice pa ps.length pc, .slice sa st.length sc, .slice va vs.length vc] w fun e w' => e = .returned (.bool true) ∧ Below w.heap.size w w' := by
  by_cases he : ∀ v ∈ ps, ¬ (200 < v ∧ v ≤ 86400)
  · by_cases hz : (tmE (form_time ps && poss_offdelay (ps.getD 0 0) st) [⟨⟨#[97]⟩, ⟨#[98, 105, 110, 97, 114, 121]⟩⟩] vs V 1) = 0
    · obtain ⟨hFP, hdt, hlen, hV1⟩ := tmE_zero hz
      rw [Bool.and_eq_true] at hFP
      obtain ⟨hF, hPB⟩ := hFP
      obtain ⟨p0, rfl, hrng⟩ := form_time_at hF
      obtain ⟨x, rfl⟩ := poss_offdelay_at hPB
      have hx := inZ_le (show inZ (-1) x p0 = true from hPB)
      obtain ⟨v0, rfl⟩ : ∃ z, vs = [z] := by
        match vs, hlen with
        | [z], _ => exact ⟨_, rfl⟩
      obtain ⟨k0, a⟩ := v0
      have hfa := fits_at (hV.1 hV1 _ (List.mem_of_getElem? (i := 0) rfl))
      simp only at hfa
      have ha : a = 0 ∨ a = 1 := by omega
      have hr2 : 0 ≤ p0 ∧ p0 ≤ 200 := by have := he p0 (by simp); omega
      obtain ⟨N, hN1, hN2, hfx, hne, hP⟩ := pick (fun st => poss_offdelay p0 st) (F_offdelay p0 a) [x] (mu_offdelay p0 a) hPB (fun st h => mu_offdelay_at p0 a st hr2 ha h)
      obtain ⟨M, hM1, hM2, hMf, hMn, hMs⟩ := late_fix (F_offdelay p0 a) (O_offdelay p0 a) [x] N hN1 hfx hne
      have hzk : ∀ k, tmE (form_time [p0] && poss_offdelay p0 (seqS (F_offdelay p0 a) [x] k)) [⟨⟨#[97]⟩, ⟨#[98, 105, 110, 97, 114, 121]⟩⟩] [⟨k0, a⟩] V 1 = 0 := fun k => by
        have h := hz
        rw [show ((form_time [p0] && poss_offdelay ([p0].getD 0 0) [x]) : Bool) = (form_time [p0] && poss_offdelay p0 [x]) from rfl, show poss_offdelay p0 [x] = true from hPB] at h
        rw [show poss_offdelay p0 (seqS (F_offdelay p0 a) [x] k) = true from hP k]
        exact h
      refine settles_core ⟨#[111, 102, 102, 100, 101, 108, 97, 121]⟩ (by decide +kernel) (by decide +kernel) pa sa va pc sc vc _ _ _ _ 2 (svV (F_offdelay p0 a) (O_offdelay p0 a) [x] N) w hm hps hst.2.1 hin.2.1 (Lib.hid (fun _ W hW => psettle_1 ⟨#[111, 102, 102, 100, 101, 108, 97, 121]⟩ ⟨#[98, 105, 110, 97, 114, 121]⟩ [⟨⟨#[116, 105, 109, 101]⟩, 0, 86400, 0⟩] [⟨⟨#[97]⟩, ⟨#[98, 105, 110, 97, 114, 121]⟩⟩] 2 2 pa sa va _ pc _ sc vc [x] [⟨k0, a⟩] (form_time [p0] && poss_offdelay p0 [x]) V (F_offdelay p0 a) (O_offdelay p0 a) N W (by decide) (by decide) (by intro p hp; simp at hp; subst hp; exact kindOk_binary) kindOk_binary (by decide) (hin.keep hW) hV ⟨hN1, by omega⟩ hfx hne (fun _ k => poss_offdelay_at (hP k)) (Lib.hid (kr_offdelay pa sa pc sc _ _ W (hm.keep hW) (hps.keep hW) hwf (hst.keep hW))) (Lib.hid ?_))) (Lib.hid (fun _ W hW => ?_))
      · intro _ _ _ k w5 rb a1 c1 a2 c2 ob hrb hb50 w9 ib io ic' hbw hr hs hc0 hne0
        have hb5 := hW.trans (hb50.mono hW.size)
        have hb9 := hb5.trans (hbw.mono hb5.size)
        have hq := hP k
        obtain ⟨x3, hsk⟩ := poss_offdelay_at (hP k)
        rw [show seqS (F_offdelay p0 a) [x] (k + 1) = (F_offdelay p0 a) (seqS (F_offdelay p0 a) [x] k) from rfl]
        rw [hsk] at hq hs ⊢
        try simp only at hq
        have hx3 := inZ_le (show inZ (-1) x3 p0 = true from hq)
        obtain ⟨pb, po, rfl, hpl, hpc⟩ := (show InS w pa 1 1 (flat iL [p0]) from hps).at (xs := [p0]) iL_len (by simp)
        have q0 : w.cell? ⟨pb, po, none⟩ = some (.int .i64 p0) := by have h := hpc 0 _ rfl 0 _ rfl; simpa using h
        have i0 := hc0 0 _ rfl
        exact eval_offdelay rb w5.heap.size 1 pb po pc ib io ic' _ _ _ _ _ a x3 p0 1 [] (by decide) ⟨by omega, by omega⟩ ⟨by omega, by omega⟩ w9 hr (cellB q0 hb9) hs i0
      · rw [← hMs]
        refine rsettle_core ⟨#[111, 102, 102, 100, 101, 108, 97, 121]⟩ _ _ _ _ 2 (F_offdelay p0 a) (O_offdelay p0 a) [x] 1 M (by decide) ⟨hM1, by omega⟩ (fun _ => hMf) hMn (fun _ k => by obtain ⟨x3, hsk⟩ := poss_offdelay_at (hP k); rw [hsk]; rfl) W (Lib.hid (fun W1 hW1 => ?_)) (Lib.hid (fun _ k hk W1 sb hW1 hrow => ?_))
        · have hb := hW.trans (hW1.mono hW.size)
          rw [show tmE (form_time [p0] && poss_offdelay p0 [x]) [⟨⟨#[97]⟩, ⟨#[98, 105, 110, 97, 114, 121]⟩⟩] [⟨k0, a⟩] V 1 = 0 from hz]
          refine (rgood_offdelay pa sa va pc sc vc [p0] [x] [⟨k0, a⟩] V W1 hz (hps.keep hb) (hst.keep hb) (hin.keep hb) hV).mono ?_
          rintro e w' ⟨gr, rfl, h1, h2, h3⟩
          exact ⟨_, _, _, rfl, fun _ => ⟨rfl, rfl, gr, rfl, h1, h2⟩, h3⟩
        · have hb := hW.trans (hW1.mono hW.size)
          obtain ⟨x3, hsk⟩ := poss_offdelay_at (hP k)
          have hl3 : (seqS (F_offdelay p0 a) [x] k).length = 1 := by rw [hsk]; rfl
          have kk := rgood_offdelay pa (some ⟨sb, 0, none⟩) va pc 1 vc [p0] (seqS (F_offdelay p0 a) [x] k) [⟨k0, a⟩] V W1 (hzk k) (hps.keep hb) (inS_row (n := 1) hrow (by omega)) (hin.keep hb) hV
          rw [hl3] at kk
          exact kk
    · have hvac : ∀ {p : Prop}, (form_time ps && poss_offdelay (ps.getD 0 0) st) = true → V = true → vs.length = 1 → p := by
        intro p h1 h2 h3
        refine absurd ?_ hz
        unfold tmE
        rw [if_neg, if_neg]
        · rw [h2]; decide
        · intro h
          rcases h with h | h | h
          · rw [h1] at h; cases h
          · exact absurd h (by decide)
          · exact h h3
      refine settles_core ⟨#[111, 102, 102, 100, 101, 108, 97, 121]⟩ (by decide +kernel) (by decide +kernel) pa sa va pc sc vc _ _ _ (tmE (form_time ps && poss_offdelay (ps.getD 0 0) st) [⟨⟨#[97]⟩, ⟨#[98, 105, 110, 97, 114, 121]⟩⟩] vs V 1) 2 (0, 0) w hm hps hst.2.1 hin.2.1 (Lib.hid (fun _ W hW => ?_)) (Lib.hid (fun _ W hW => ?_))
      · refine (psettle_1 ⟨#[111, 102, 102, 100, 101, 108, 97, 121]⟩ ⟨#[98, 105, 110, 97, 114, 121]⟩ [⟨⟨#[116, 105, 109, 101]⟩, 0, 86400, 0⟩] [⟨⟨#[97]⟩, ⟨#[98, 105, 110, 97, 114, 121]⟩⟩] 2 2 pa sa va _ pc _ sc vc st vs (form_time ps && poss_offdelay (ps.getD 0 0) st) V id (fun _ => 0) 1 W (by decide) (by decide) (by intro p hp; simp at hp; subst hp; exact kindOk_binary) kindOk_binary (by decide) (hin.keep hW) hV ⟨by omega, by omega⟩ rfl (fun k h => by omega) (fun h k => by rw [seqS_id]; rw [Bool.and_eq_true] at h; exact poss_offdelay_at h.2) (Lib.hid (kr_offdelay pa sa pc sc _ _ W (hm.keep hW) (hps.keep hW) hwf (hst.keep hW))) (Lib.hid (fun h1 h2 h3 => hvac h1 h2 h3))).mono ?_
        rintro e w' ⟨k, n, m, he, hA, hb⟩
        exact ⟨k, n, m, he, ⟨hA.1, fun h => absurd h hz⟩, hb⟩
      · refine (rsettle_core ⟨#[111, 102, 102, 100, 101, 108, 97, 121]⟩ _ _ _ (tmE (form_time ps && poss_offdelay (ps.getD 0 0) st) [⟨⟨#[97]⟩, ⟨#[98, 105, 110, 97, 114, 121]⟩⟩] vs V 1) 2 id (fun _ => 0) st 1 2 (by decide) ⟨by omega, by omega⟩ (fun h => absurd h hz) (fun k a b => by omega) (fun h => absurd h hz) W (Lib.hid (fun W1 hW1 => ?_)) (Lib.hid (fun h => absurd h hz))).mono ?_
        · have hb := hW.trans (hW1.mono hW.size)
          refine (rStep_core ⟨#[111, 102, 102, 100, 101, 108, 97, 121]⟩ _ _ _ 1 (tmE (form_time ps && poss_offdelay (ps.getD 0 0) st) [⟨⟨#[97]⟩, ⟨#[98, 105, 110, 97, 114, 121]⟩⟩] vs V 1) 2 0 [0] 1 (by decide) rfl W1 (Lib.hid (fun W hW => rcheck_offdelay pa sa va pc sc vc ps st vs V 1 W ((hps.keep hb).keep hW) ((hst.keep hb).keep hW) ((hin.keep hb).keep hW) hV)) (Lib.hid (fun h => absurd h hz))).mono ?_
          rintro e w' ⟨v, k, n, he, hA, hb⟩
          exact ⟨v, k, n, he, fun h => absurd h hz, hb⟩
        · rintro e w' ⟨k, n, m, he, hA, hb⟩
          exact ⟨k, n, m, he, ⟨hA.1, fun h => absurd h hz⟩, hb⟩
  · exact settles_core ⟨#[111, 102, 102, 100, 101, 108, 97, 121]⟩ (by decide +kernel) (by decide +kernel) pa sa va pc sc vc _ _ _ 0 0 (0, 0) w hm hps hst.2.1 hin.2.1 (Lib.hid (fun h => absurd h he)) (Lib.hid (fun h => absurd h he))
set_option maxHeartbeats 4000000 in
theorem kr_ondelay (pa sa : Option Addr) (pc sc : Nat) (ps st : List Int) (w : World) (hm : MaxAt w) (hps : InS w pa ps.length 1 (flat iL ps)) (hwf : ∀ v ∈ ps, (Lit.int .i64 v).wf = true) (hst : InS w sa st.length 1 (flat iL st)) :
    ∀ W, Below w.heap.size w W → Calls Tryd.prog 21 #[.string ⟨#[111, 110, 100, 101, 108, 97, 121]⟩, .slice pa ps.length pc, .slice sa st.length sc] W fun e w' => ∃ R, e = .returned (.tuple #[R, .int .i64 (if (form_time ps && poss_ondelay (ps.getD 0 0) st) = true then 0 else 1)]) ∧ ((form_time ps && poss_ondelay (ps.getD 0 0) st) = true → ResOk W ⟨#[111, 110, 100, 101, 108, 97, 121]⟩ ⟨#[98, 105, 110, 97, 114, 121]⟩ 1 1 [⟨⟨#[116, 105, 109, 101]⟩, 0, 86400, 0⟩] [⟨⟨#[97]⟩, ⟨#[98, 105, 110, 97, 114, 121]⟩⟩] pa ps.length pc st R w') ∧ Below W.heap.size W w' := by
  refine fun W hW => resume_1 ⟨#[111, 110, 100, 101, 108, 97, 121]⟩ ⟨#[98, 105, 110, 97, 114, 121]⟩ 1 [⟨⟨#[116, 105, 109, 101]⟩, 0, 86400, 0⟩] [⟨⟨#[97]⟩, ⟨#[98, 105, 110, 97, 114, 121]⟩⟩] (fun _ => true) (by decide +kernel) find_ondelay (agree_ondelay _) pa pc ps (by decide) hwf (by unfold maxLen; decide +kernel) sa sc st (form_time ps) (poss_ondelay (ps.getD 0 0) st) W (hm.keep hW) (hps.keep hW) (hst.keep hW) (formed_ondelay ps) (fun h => poss_ondelay_at h) ?_
  intro hF w1 rb a1 c1 a2 c2 ob w5 hr hbW
  have hb := hW.trans (hbW.mono hW.size)
  obtain ⟨p0, rfl, hrng⟩ := form_time_at hF
  obtain ⟨pb, po, rfl, hpl, hpc⟩ := (show InS w pa 1 1 (flat iL [p0]) from hps).at (xs := [p0]) iL_len (by simp)
  have q0 : w.cell? ⟨pb, po, none⟩ = some (.int .i64 p0) := by have h := hpc 0 _ rfl 0 _ rfl; simpa using h
  exact poss_ondelay_any rb pb po pc sc sa p0 st _ _ _ _ _ w1 hr (cellB q0 hb) hrng (hst.keep hb)
set_option maxHeartbeats 4000000 in
theorem rgood_ondelay (pa sa va : Option Addr) (pc sc vc : Nat) (ps st : List Int) (vs : List ValD) (V : Bool) (w : World) (hz : (tmE (form_time ps && poss_ondelay (ps.getD 0 0) st) [⟨⟨#[97]⟩, ⟨#[98, 105, 110, 97, 114, 121]⟩⟩] vs V 1) = 0) (hps : InS w pa ps.length 1 (flat iL ps)) (hst : InS w sa st.length 1 (flat iL st)) (hin : InS w va vs.length 2 (flat valL vs)) (hV : V = true ↔ ∀ v ∈ vs, fitsB v.k v.n 2 = true) :
    Calls Tryd.prog 12 #[.string ⟨#[111, 110, 100, 101, 108, 97, 121]⟩, .slice pa ps.length pc, .slice sa st.length sc, .slice va vs.length vc, .int .i64 1] w fun e w' => ∃ gr, e = .returned (.tuple #[.slice (some ⟨gr, 0, none⟩) 1 1, .agg #[.int .i64 2, .int .i64 (onV (vs.getD 0 ⟨0, 0⟩).n (st.getD 0 0) (ps.getD 0 0) 1)], .int .i64 0]) ∧ w.heap.size ≤ gr ∧ RowAt w' gr (flat iL [onS (vs.getD 0 ⟨0, 0⟩).n (st.getD 0 0) (ps.getD 0 0) 1]) ∧ Below w.heap.size w w' := by
  refine rStep_good ⟨#[111, 110, 100, 101, 108, 97, 121]⟩ _ _ _ 1 (tmE (form_time ps && poss_ondelay (ps.getD 0 0) st) [⟨⟨#[97]⟩, ⟨#[98, 105, 110, 97, 114, 121]⟩⟩] vs V 1) 2 (onV (vs.getD 0 ⟨0, 0⟩).n (st.getD 0 0) (ps.getD 0 0) 1) [onS (vs.getD 0 ⟨0, 0⟩).n (st.getD 0 0) (ps.getD 0 0) 1] 1 (by decide) rfl hz w (Lib.hid (fun W hW => rcheck_ondelay pa sa va pc sc vc ps st vs V 1 W (hps.keep hW) (hst.keep hW) (hin.keep hW) hV)) (Lib.hid (fun _ W hW => ?_))
  obtain ⟨hFP, hdt, hlen, hV1⟩ := tmE_zero hz
  rw [Bool.and_eq_true] at hFP
  obtain ⟨hF, hPB⟩ := hFP
  obtain ⟨p0, rfl, hrng⟩ := form_time_at hF
  obtain ⟨x, rfl⟩ := poss_ondelay_at hPB
  have hx := inZ_le (show inZ 0 x (p0 + 1) = true from hPB)
  obtain ⟨v0, rfl⟩ : ∃ z, vs = [z] := by
    match vs, hlen with
    | [z], _ => exact ⟨_, rfl⟩
  obtain ⟨k0, a⟩ := v0
  have hfa := fits_at (hV.1 hV1 _ (List.mem_of_getElem? (i := 0) rfl))
  simp only at hfa
  have ha : a = 0 ∨ a = 1 := by omega
  obtain ⟨pb, po, rfl, hpl, hpc⟩ := (show InS w pa 1 1 (flat iL [p0]) from hps).at (xs := [p0]) iL_len (by simp)
  have q0 : w.cell? ⟨pb, po, none⟩ = some (.int .i64 p0) := by have h := hpc 0 _ rfl 0 _ rfl; simpa using h
  obtain ⟨sb, so, rfl, hsl, hsc⟩ := (show InS w sa 1 1 (flat iL [x]) from hst).at (xs := [x]) iL_len (by simp)
  have s0 : w.cell? ⟨sb, so, none⟩ = some (.int .i64 x) := by have h := hsc 0 _ rfl 0 _ rfl; simpa using h
  obtain ⟨vb, vo, rfl, hvl, hvc⟩ := (show InS w va 1 2 (flat valL [⟨k0, a⟩]) from hin).at (xs := [⟨k0, a⟩]) valL_len (by simp)
  have n0 : w.cell? ⟨vb, vo + 1, none⟩ = some (.int .i64 a) := by have h := hvc 0 _ rfl 1 _ rfl; simpa using h
  exact rstep_ondelay pb po pc sb so sc vb vo vc p0 x a 1 W hdt hrng hx ha (cellB q0 hW) (cellB s0 hW) (cellB n0 hW)
set_option maxHeartbeats 8000000 in
theorem lawS_ondelay (pa sa va : Option Addr) (pc sc vc : Nat) (ps st : List Int) (vs : List ValD) (V : Bool) (w : World) (hm : MaxAt w) (hps : InS w pa ps.length 1 (flat iL ps)) (hwf : ∀ v ∈ ps, (Lit.int .i64 v).wf = true) (hst : InS w sa st.length 1 (flat iL st)) (hin : InS w va vs.length 2 (flat valL vs)) (hV : V = true ↔ ∀ v ∈ vs, fitsB v.k v.n 2 = true) :
    Calls Tryd.prog 4 #[.string ⟨#[111, 110, 100, 101, 108, 97, 121]⟩, .slice pa ps.length pc, .slice sa st.length sc, .slice va vs.length vc] w fun e w' => e = .returned (.bool true) ∧ Below w.heap.size w w' := by
  by_cases he : ∀ v ∈ ps, ¬ (200 < v ∧ v ≤ 86400)
  · by_cases hz : (tmE (form_time ps && poss_ondelay (ps.getD 0 0) st) [⟨⟨#[97]⟩, ⟨#[98, 105, 110, 97, 114, 121]⟩⟩] vs V 1) = 0
    · obtain ⟨hFP, hdt, hlen, hV1⟩ := tmE_zero hz
      rw [Bool.and_eq_true] at hFP
      obtain ⟨hF, hPB⟩ := hFP
      obtain ⟨p0, rfl, hrng⟩ := form_time_at hF
      obtain ⟨x, rfl⟩ := poss_ondelay_at hPB
      have hx := inZ_le (show inZ 0 x (p0 + 1) = true from hPB)
      obtain ⟨v0, rfl⟩ : ∃ z, vs = [z] := by
        match vs, hlen with
        | [z], _ => exact ⟨_, rfl⟩
      obtain ⟨k0, a⟩ := v0
      have hfa := fits_at (hV.1 hV1 _ (List.mem_of_getElem? (i := 0) rfl))
      simp only at hfa
      have ha : a = 0 ∨ a = 1 := by omega
      have hr2 : 0 ≤ p0 ∧ p0 ≤ 200 := by have := he p0 (by simp); omega
      obtain ⟨N, hN1, hN2, hfx, hne, hP⟩ := pick (fun st => poss_ondelay p0 st) (F_ondelay p0 a) [x] (mu_ondelay p0 a) hPB (fun st h => mu_ondelay_at p0 a st hr2 ha h)
      obtain ⟨M, hM1, hM2, hMf, hMn, hMs⟩ := late_fix (F_ondelay p0 a) (O_ondelay p0 a) [x] N hN1 hfx hne
      have hzk : ∀ k, tmE (form_time [p0] && poss_ondelay p0 (seqS (F_ondelay p0 a) [x] k)) [⟨⟨#[97]⟩, ⟨#[98, 105, 110, 97, 114, 121]⟩⟩] [⟨k0, a⟩] V 1 = 0 := fun k => by
        have h := hz
        rw [show ((form_time [p0] && poss_ondelay ([p0].getD 0 0) [x]) : Bool) = (form_time [p0] && poss_ondelay p0 [x]) from rfl, show poss_ondelay p0 [x] = true from hPB] at h
        rw [show poss_ondelay p0 (seqS (F_ondelay p0 a) [x] k) = true from hP k]
        exact h
      refine settles_core ⟨#[111, 110, 100, 101, 108, 97, 121]⟩ (by decide +kernel) (by decide +kernel) pa sa va pc sc vc _ _ _ _ 2 (svV (F_ondelay p0 a) (O_ondelay p0 a) [x] N) w hm hps hst.2.1 hin.2.1 (Lib.hid (fun _ W hW => psettle_1 ⟨#[111, 110, 100, 101, 108, 97, 121]⟩ ⟨#[98, 105, 110, 97, 114, 121]⟩ [⟨⟨#[116, 105, 109, 101]⟩, 0, 86400, 0⟩] [⟨⟨#[97]⟩, ⟨#[98, 105, 110, 97, 114, 121]⟩⟩] 2 2 pa sa va _ pc _ sc vc [x] [⟨k0, a⟩] (form_time [p0] && poss_ondelay p0 [x]) V (F_ondelay p0 a) (O_ondelay p0 a) N W (by decide) (by decide) (by intro p hp; simp at hp; subst hp; exact kindOk_binary) kindOk_binary (by decide) (hin.keep hW) hV ⟨hN1, by omega⟩ hfx hne (fun _ k => poss_ondelay_at (hP k)) (Lib.hid (kr_ondelay pa sa pc sc _ _ W (hm.keep hW) (hps.keep hW) hwf (hst.keep hW))) (Lib.hid ?_))) (Lib.hid (fun _ W hW => ?_))
      · intro _ _ _ k w5 rb a1 c1 a2 c2 ob hrb hb50 w9 ib io ic' hbw hr hs hc0 hne0
        have hb5 := hW.trans (hb50.mono hW.size)
        have hb9 := hb5.trans (hbw.mono hb5.size)
        have hq := hP k
        obtain ⟨x3, hsk⟩ := poss_ondelay_at (hP k)
        rw [show seqS (F_ondelay p0 a) [x] (k + 1) = (F_ondelay p0 a) (seqS (F_ondelay p0 a) [x] k) from rfl]
        rw [hsk] at hq hs ⊢
        try simp only at hq
        have hx3 := inZ_le (show inZ 0 x3 (p0 + 1) = true from hq)
        obtain ⟨pb, po, rfl, hpl, hpc⟩ := (show InS w pa 1 1 (flat iL [p0]) from hps).at (xs := [p0]) iL_len (by simp)
        have q0 : w.cell? ⟨pb, po, none⟩ = some (.int .i64 p0) := by have h := hpc 0 _ rfl 0 _ rfl; simpa using h
        have i0 := hc0 0 _ rfl
        exact eval_ondelay rb w5.heap.size 1 pb po pc ib io ic' _ _ _ _ _ a x3 p0 1 [] (by decide) ⟨by omega, by omega⟩ ⟨by omega, by omega⟩ ⟨by omega, by omega⟩ w9 hr (cellB q0 hb9) hs i0
      · rw [← hMs]
        refine rsettle_core ⟨#[111, 110, 100, 101, 108, 97, 121]⟩ _ _ _ _ 2 (F_ondelay p0 a) (O_ondelay p0 a) [x] 1 M (by decide) ⟨hM1, by omega⟩ (fun _ => hMf) hMn (fun _ k => by obtain ⟨x3, hsk⟩ := poss_ondelay_at (hP k); rw [hsk]; rfl) W (Lib.hid (fun W1 hW1 => ?_)) (Lib.hid (fun _ k hk W1 sb hW1 hrow => ?_))
        · have hb := hW.trans (hW1.mono hW.size)
          rw [show tmE (form_time [p0] && poss_ondelay p0 [x]) [⟨⟨#[97]⟩, ⟨#[98, 105, 110, 97, 114, 121]⟩⟩] [⟨k0, a⟩] V 1 = 0 from hz]
          refine (rgood_ondelay pa sa va pc sc vc [p0] [x] [⟨k0, a⟩] V W1 hz (hps.keep hb) (hst.keep hb) (hin.keep hb) hV).mono ?_
          rintro e w' ⟨gr, rfl, h1, h2, h3⟩
          exact ⟨_, _, _, rfl, fun _ => ⟨rfl, rfl, gr, rfl, h1, h2⟩, h3⟩
        · have hb := hW.trans (hW1.mono hW.size)
          obtain ⟨x3, hsk⟩ := poss_ondelay_at (hP k)
          have hl3 : (seqS (F_ondelay p0 a) [x] k).length = 1 := by rw [hsk]; rfl
          have kk := rgood_ondelay pa (some ⟨sb, 0, none⟩) va pc 1 vc [p0] (seqS (F_ondelay p0 a) [x] k) [⟨k0, a⟩] V W1 (hzk k) (hps.keep hb) (inS_row (n := 1) hrow (by omega)) (hin.keep hb) hV
          rw [hl3] at kk
          exact kk
    · have hvac : ∀ {p : Prop}, (form_time ps && poss_ondelay (ps.getD 0 0) st) = true → V = true → vs.length = 1 → p := by
        intro p h1 h2 h3
        refine absurd ?_ hz
        unfold tmE
        rw [if_neg, if_neg]
        · rw [h2]; decide
        · intro h
          rcases h with h | h | h
          · rw [h1] at h; cases h
          · exact absurd h (by decide)
          · exact h h3
      refine settles_core ⟨#[111, 110, 100, 101, 108, 97, 121]⟩ (by decide +kernel) (by decide +kernel) pa sa va pc sc vc _ _ _ (tmE (form_time ps && poss_ondelay (ps.getD 0 0) st) [⟨⟨#[97]⟩, ⟨#[98, 105, 110, 97, 114, 121]⟩⟩] vs V 1) 2 (0, 0) w hm hps hst.2.1 hin.2.1 (Lib.hid (fun _ W hW => ?_)) (Lib.hid (fun _ W hW => ?_))
      · refine (psettle_1 ⟨#[111, 110, 100, 101, 108, 97, 121]⟩ ⟨#[98, 105, 110, 97, 114, 121]⟩ [⟨⟨#[116, 105, 109, 101]⟩, 0, 86400, 0⟩] [⟨⟨#[97]⟩, ⟨#[98, 105, 110, 97, 114, 121]⟩⟩] 2 2 pa sa va _ pc _ sc vc st vs (form_time ps && poss_ondelay (ps.getD 0 0) st) V id (fun _ => 0) 1 W (by decide) (by decide) (by intro p hp; simp at hp; subst hp; exact kindOk_binary) kindOk_binary (by decide) (hin.keep hW) hV ⟨by omega, by omega⟩ rfl (fun k h => by omega) (fun h k => by rw [seqS_id]; rw [Bool.and_eq_true] at h; exact poss_ondelay_at h.2) (Lib.hid (kr_ondelay pa sa pc sc _ _ W (hm.keep hW) (hps.keep hW) hwf (hst.keep hW))) (Lib.hid (fun h1 h2 h3 => hvac h1 h2 h3))).mono ?_
        rintro e w' ⟨k, n, m, he, hA, hb⟩
        exact ⟨k, n, m, he, ⟨hA.1, fun h => absurd h hz⟩, hb⟩
      · refine (rsettle_core ⟨#[111, 110, 100, 101, 108, 97, 121]⟩ _ _ _ (tmE (form_time ps && poss_ondelay (ps.getD 0 0) st) [⟨⟨#[97]⟩, ⟨#[98, 105, 110, 97, 114, 121]⟩⟩] vs V 1) 2 id (fun _ => 0) st 1 2 (by decide) ⟨by omega, by omega⟩ (fun h => absurd h hz) (fun k a b => by omega) (fun h => absurd h hz) W (Lib.hid (fun W1 hW1 => ?_)) (Lib.hid (fun h => absurd h hz))).mono ?_
        · have hb := hW.trans (hW1.mono hW.size)
          refine (rStep_core ⟨#[111, 110, 100, 101, 108, 97, 121]⟩ _ _ _ 1 (tmE (form_time ps && poss_ondelay (ps.getD 0 0) st) [⟨⟨#[97]⟩, ⟨#[98, 105, 110, 97, 114, 121]⟩⟩] vs V 1) 2 0 [0] 1 (by decide) rfl W1 (Lib.hid (fun W hW => rcheck_ondelay pa sa va pc sc vc ps st vs V 1 W ((hps.keep hb).keep hW) ((hst.keep hb).keep hW) ((hin.keep hb).keep hW) hV)) (Lib.hid (fun h => absurd h hz))).mono ?_
          rintro e w' ⟨v, k, n, he, hA, hb⟩
          exact ⟨v, k, n, he, fun h => absurd h hz, hb⟩
        · rintro e w' ⟨k, n, m, he, hA, hb⟩
          exact ⟨k, n, m, he, ⟨hA.1, fun h => absurd h hz⟩, hb⟩
  · exact settles_core ⟨#[111, 110, 100, 101, 108, 97, 121]⟩ (by decide +kernel) (by decide +kernel) pa sa va pc sc vc _ _ _ 0 0 (0, 0) w hm hps hst.2.1 hin.2.1 (Lib.hid (fun h => absurd h he)) (Lib.hid (fun h => absurd h he))
set_option maxHeartbeats 4000000 in
theorem kr_pulse (pa sa : Option Addr) (pc sc : Nat) (ps st : List Int) (w : World) (hm : MaxAt w) (hps : InS w pa ps.length 1 (flat iL ps)) (hwf : ∀ v ∈ ps, (Lit.int .i64 v).wf = true) (hst : InS w sa st.length 1 (flat iL st)) :
    ∀ W, Below w.heap.size w W → Calls Tryd.prog 21 #[.string ⟨#[112, 117, 108, 115, 101]⟩, .slice pa ps.length pc, .slice sa st.length sc] W fun e w' => ∃ R, e = .returned (.tuple #[R, .int .i64 (if (form_time ps && poss_pulse (ps.getD 0 0) st) = true then 0 else 1)]) ∧ ((form_time ps && poss_pulse (ps.getD 0 0) st) = true → ResOk W ⟨#[112, 117, 108, 115, 101]⟩ ⟨#[98, 105, 110, 97, 114, 121]⟩ 1 2 [⟨⟨#[116, 105, 109, 101]⟩, 0, 86400, 0⟩] [⟨⟨#[97]⟩, ⟨#[98, 105, 110, 97, 114, 121]⟩⟩] pa ps.length pc st R w') ∧ Below W.heap.size W w' := by
  refine fun W hW => resume_2 ⟨#[112, 117, 108, 115, 101]⟩ ⟨#[98, 105, 110, 97, 114, 121]⟩ 1 [⟨⟨#[116, 105, 109, 101]⟩, 0, 86400, 0⟩] [⟨⟨#[97]⟩, ⟨#[98, 105, 110, 97, 114, 121]⟩⟩] (fun _ => true) (by decide +kernel) find_pulse (agree_pulse _) pa pc ps (by decide) hwf (by unfold maxLen; decide +kernel) sa sc st (form_time ps) (poss_pulse (ps.getD 0 0) st) W (hm.keep hW) (hps.keep hW) (hst.keep hW) (formed_pulse ps) (fun h => poss_pulse_at h) ?_
  intro hF w1 rb a1 c1 a2 c2 ob w5 hr hbW
  have hb := hW.trans (hbW.mono hW.size)
  obtain ⟨p0, rfl, hrng⟩ := form_time_at hF
  obtain ⟨pb, po, rfl, hpl, hpc⟩ := (show InS w pa 1 1 (flat iL [p0]) from hps).at (xs := [p0]) iL_len (by simp)
  have q0 : w.cell? ⟨pb, po, none⟩ = some (.int .i64 p0) := by have h := hpc 0 _ rfl 0 _ rfl; simpa using h
  exact poss_pulse_any rb pb po pc sc sa p0 st _ _ _ _ _ w1 hr (cellB q0 hb) (hst.keep hb)
set_option maxHeartbeats 4000000 in
theorem rgood_pulse (pa sa va : Option Addr) (pc sc vc : Nat) (ps st : List Int) (vs : List ValD) (V : Bool) (w : World) (hz : (tmE (form_time ps && poss_pulse (ps.getD 0 0) st) [⟨⟨#[97]⟩, ⟨#[98, 105, 110, 97, 114, 121]⟩⟩] vs V 1) = 0) (hps : InS w pa ps.length 1 (flat iL ps)) (hst : InS w sa st.length 1 (flat iL st)) (hin : InS w va vs.length 2 (flat valL vs)) (hV : V = true ↔ ∀ v ∈ vs, fitsB v.k v.n 2 = true) :
    Calls Tryd.prog 12 #[.string ⟨#[112, 117, 108, 115, 101]⟩, .slice pa ps.length pc, .slice sa st.length sc, .slice va vs.length vc, .int .i64 1] w fun e w' => ∃ gr, e = .returned (.tuple #[.slice (some ⟨gr, 0, none⟩) 2 2, .agg #[.int .i64 2, .int .i64 (pulV (vs.getD 0 ⟨0, 0⟩).n (st.getD 0 0) (st.getD 1 0) (ps.getD 0 0) 1)], .int .i64 0]) ∧ w.heap.size ≤ gr ∧ RowAt w' gr (flat iL [(vs.getD 0 ⟨0, 0⟩).n, pulS (vs.getD 0 ⟨0, 0⟩).n (st.getD 0 0) (st.getD 1 0) (ps.getD 0 0) 1]) ∧ Below w.heap.size w w' := by
  refine rStep_good ⟨#[112, 117, 108, 115, 101]⟩ _ _ _ 1 (tmE (form_time ps && poss_pulse (ps.getD 0 0) st) [⟨⟨#[97]⟩, ⟨#[98, 105, 110, 97, 114, 121]⟩⟩] vs V 1) 2 (pulV (vs.getD 0 ⟨0, 0⟩).n (st.getD 0 0) (st.getD 1 0) (ps.getD 0 0) 1) [(vs.getD 0 ⟨0, 0⟩).n, pulS (vs.getD 0 ⟨0, 0⟩).n (st.getD 0 0) (st.getD 1 0) (ps.getD 0 0) 1] 2 (by decide) rfl hz w (Lib.hid (fun W hW => rcheck_pulse pa sa va pc sc vc ps st vs V 1 W (hps.keep hW) (hst.keep hW) (hin.keep hW) hV)) (Lib.hid (fun _ W hW => ?_))
  obtain ⟨hFP, hdt, hlen, hV1⟩ := tmE_zero hz
  rw [Bool.and_eq_true] at hFP
  obtain ⟨hF, hPB⟩ := hFP
  obtain ⟨p0, rfl, hrng⟩ := form_time_at hF
  obtain ⟨x, y, rfl⟩ := poss_pulse_at hPB
  have hxy : (inZ 0 x 1 && inZ 0 y p0) = true := hPB
  rw [Bool.and_eq_true] at hxy
  have hx := inZ_le hxy.1
  have hy := inZ_le hxy.2
  obtain ⟨v0, rfl⟩ : ∃ z, vs = [z] := by
    match vs, hlen with
    | [z], _ => exact ⟨_, rfl⟩
  obtain ⟨k0, a⟩ := v0
  have hfa := fits_at (hV.1 hV1 _ (List.mem_of_getElem? (i := 0) rfl))
  simp only at hfa
  have ha : a = 0 ∨ a = 1 := by omega
  obtain ⟨pb, po, rfl, hpl, hpc⟩ := (show InS w pa 1 1 (flat iL [p0]) from hps).at (xs := [p0]) iL_len (by simp)
  have q0 : w.cell? ⟨pb, po, none⟩ = some (.int .i64 p0) := by have h := hpc 0 _ rfl 0 _ rfl; simpa using h
  obtain ⟨sb, so, rfl, hsl, hsc⟩ := (show InS w sa 2 1 (flat iL [x, y]) from hst).at (xs := [x, y]) iL_len (by simp)
  have s0 : w.cell? ⟨sb, so, none⟩ = some (.int .i64 x) := by have h := hsc 0 _ rfl 0 _ rfl; simpa using h
  have s1 : w.cell? ⟨sb, so + 1, none⟩ = some (.int .i64 y) := by have h := hsc 1 _ rfl 0 _ rfl; simpa using h
  obtain ⟨vb, vo, rfl, hvl, hvc⟩ := (show InS w va 1 2 (flat valL [⟨k0, a⟩]) from hin).at (xs := [⟨k0, a⟩]) valL_len (by simp)
  have n0 : w.cell? ⟨vb, vo + 1, none⟩ = some (.int .i64 a) := by have h := hvc 0 _ rfl 1 _ rfl; simpa using h
  exact rstep_pulse pb po pc sb so sc vb vo vc p0 x y a 1 W hdt hrng hy (cellB q0 hW) (cellB s0 hW) (cellB s1 hW) (cellB n0 hW)
set_option maxHeartbeats 8000000 in
theorem lawS_pulse (pa sa va : Option Addr) (pc sc vc : Nat) (ps st : List Int) (vs : List ValD) (V : Bool) (w : World) (hm : MaxAt w) (hps : InS w pa ps.length 1 (flat iL ps)) (hwf : ∀ v ∈ ps, (Lit.int .i64 v).wf = true) (hst : InS w sa st.length 1 (flat iL st)) (hin : InS w va vs.length 2 (flat valL vs)) (hV : V = true ↔ ∀ v ∈ vs, fitsB v.k v.n 2 = true) :
    Calls Tryd.prog 4 #[.string ⟨#[112, 117, 108, 115, 101]⟩, .slice pa ps.length pc, .slice sa st.length sc, .slice va vs.length vc] w fun e w' => e = .returned (.bool true) ∧ Below w.heap.size w w' := by
  by_cases he : ∀ v ∈ ps, ¬ (200 < v ∧ v ≤ 86400)
  · by_cases hz : (tmE (form_time ps && poss_pulse (ps.getD 0 0) st) [⟨⟨#[97]⟩, ⟨#[98, 105, 110, 97, 114, 121]⟩⟩] vs V 1) = 0
    · obtain ⟨hFP, hdt, hlen, hV1⟩ := tmE_zero hz
      rw [Bool.and_eq_true] at hFP
      obtain ⟨hF, hPB⟩ := hFP
      obtain ⟨p0, rfl, hrng⟩ := form_time_at hF
      obtain ⟨x, y, rfl⟩ := poss_pulse_at hPB
      have hxy : (inZ 0 x 1 && inZ 0 y p0) = true := hPB
      rw [Bool.and_eq_true] at hxy
      have hx := inZ_le hxy.1
      have hy := inZ_le hxy.2
      obtain ⟨v0, rfl⟩ : ∃ z, vs = [z] := by
        match vs, hlen with
        | [z], _ => exact ⟨_, rfl⟩
      obtain ⟨k0, a⟩ := v0
      have hfa := fits_at (hV.1 hV1 _ (List.mem_of_getElem? (i := 0) rfl))
      simp only at hfa
      have ha : a = 0 ∨ a = 1 := by omega
      have hr2 : 0 ≤ p0 ∧ p0 ≤ 200 := by have := he p0 (by simp); omega
      obtain ⟨N, hN1, hN2, hfx, hne, hP⟩ := pick (fun st => poss_pulse p0 st) (F_pulse p0 a) [x, y] (mu_pulse p0 a) hPB (fun st h => mu_pulse_at p0 a st hr2 ha h)
      obtain ⟨M, hM1, hM2, hMf, hMn, hMs⟩ := late_fix (F_pulse p0 a) (O_pulse p0 a) [x, y] N hN1 hfx hne
      have hzk : ∀ k, tmE (form_time [p0] && poss_pulse p0 (seqS (F_pulse p0 a) [x, y] k)) [⟨⟨#[97]⟩, ⟨#[98, 105, 110, 97, 114, 121]⟩⟩] [⟨k0, a⟩] V 1 = 0 := fun k => by
        have h := hz
        rw [show ((form_time [p0] && poss_pulse ([p0].getD 0 0) [x, y]) : Bool) = (form_time [p0] && poss_pulse p0 [x, y]) from rfl, show poss_pulse p0 [x, y] = true from hPB] at h
        rw [show poss_pulse p0 (seqS (F_pulse p0 a) [x, y] k) = true from hP k]
        exact h
      refine settles_core ⟨#[112, 117, 108, 115, 101]⟩ (by decide +kernel) (by decide +kernel) pa sa va pc sc vc _ _ _ _ 2 (svV (F_pulse p0 a) (O_pulse p0 a) [x, y] N) w hm hps hst.2.1 hin.2.1 (Lib.hid (fun _ W hW => psettle_2 ⟨#[112, 117, 108, 115, 101]⟩ ⟨#[98, 105, 110, 97, 114, 121]⟩ [⟨⟨#[116, 105, 109, 101]⟩, 0, 86400, 0⟩] [⟨⟨#[97]⟩, ⟨#[98, 105, 110, 97, 114, 121]⟩⟩] 2 2 pa sa va _ pc _ sc vc [x, y] [⟨k0, a⟩] (form_time [p0] && poss_pulse p0 [x, y]) V (F_pulse p0 a) (O_pulse p0 a) N W (by decide) (by decide) (by intro p hp; simp at hp; subst hp; exact kindOk_binary) kindOk_binary (by decide) (hin.keep hW) hV ⟨hN1, by omega⟩ hfx hne (fun _ k => poss_pulse_at (hP k)) (Lib.hid (kr_pulse pa sa pc sc _ _ W (hm.keep hW) (hps.keep hW) hwf (hst.keep hW))) (Lib.hid ?_))) (Lib.hid (fun _ W hW => ?_))
      · intro _ _ _ k w5 rb a1 c1 a2 c2 ob hrb hb50 w9 ib io ic' hbw hr hs hc0 hne0
        have hb5 := hW.trans (hb50.mono hW.size)
        have hb9 := hb5.trans (hbw.mono hb5.size)
        have hq := hP k
        obtain ⟨x3, y3, hsk⟩ := poss_pulse_at (hP k)
        rw [show seqS (F_pulse p0 a) [x, y] (k + 1) = (F_pulse p0 a) (seqS (F_pulse p0 a) [x, y] k) from rfl]
        rw [hsk] at hq hs ⊢
        try simp only at hq
        have hxy3 : (inZ 0 x3 1 && inZ 0 y3 p0) = true := hq
        rw [Bool.and_eq_true] at hxy3
        have hx3 := inZ_le hxy3.1
        have hy3 := inZ_le hxy3.2
        obtain ⟨pb, po, rfl, hpl, hpc⟩ := (show InS w pa 1 1 (flat iL [p0]) from hps).at (xs := [p0]) iL_len (by simp)
        have q0 : w.cell? ⟨pb, po, none⟩ = some (.int .i64 p0) := by have h := hpc 0 _ rfl 0 _ rfl; simpa using h
        have i0 := hc0 0 _ rfl
        exact eval_pulse rb w5.heap.size pb po pc ib io ic' _ _ _ _ _ a x3 y3 p0 1 (by omega) ⟨by omega, by omega⟩ ⟨by omega, by omega⟩ w9 hr (cellB q0 hb9) hs i0
      · rw [← hMs]
        refine rsettle_core ⟨#[112, 117, 108, 115, 101]⟩ _ _ _ _ 2 (F_pulse p0 a) (O_pulse p0 a) [x, y] 2 M (by decide) ⟨hM1, by omega⟩ (fun _ => hMf) hMn (fun _ k => by obtain ⟨x3, y3, hsk⟩ := poss_pulse_at (hP k); rw [hsk]; rfl) W (Lib.hid (fun W1 hW1 => ?_)) (Lib.hid (fun _ k hk W1 sb hW1 hrow => ?_))
        · have hb := hW.trans (hW1.mono hW.size)
          rw [show tmE (form_time [p0] && poss_pulse p0 [x, y]) [⟨⟨#[97]⟩, ⟨#[98, 105, 110, 97, 114, 121]⟩⟩] [⟨k0, a⟩] V 1 = 0 from hz]
          refine (rgood_pulse pa sa va pc sc vc [p0] [x, y] [⟨k0, a⟩] V W1 hz (hps.keep hb) (hst.keep hb) (hin.keep hb) hV).mono ?_
          rintro e w' ⟨gr, rfl, h1, h2, h3⟩
          exact ⟨_, _, _, rfl, fun _ => ⟨rfl, rfl, gr, rfl, h1, h2⟩, h3⟩
        · have hb := hW.trans (hW1.mono hW.size)
          obtain ⟨x3, y3, hsk⟩ := poss_pulse_at (hP k)
          have hl3 : (seqS (F_pulse p0 a) [x, y] k).length = 2 := by rw [hsk]; rfl
          have kk := rgood_pulse pa (some ⟨sb, 0, none⟩) va pc 2 vc [p0] (seqS (F_pulse p0 a) [x, y] k) [⟨k0, a⟩] V W1 (hzk k) (hps.keep hb) (inS_row (n := 2) hrow (by omega)) (hin.keep hb) hV
          rw [hl3] at kk
          exact kk
    · have hvac : ∀ {p : Prop}, (form_time ps && poss_pulse (ps.getD 0 0) st) = true → V = true → vs.length = 1 → p := by
        intro p h1 h2 h3
        refine absurd ?_ hz
        unfold tmE
        rw [if_neg, if_neg]
        · rw [h2]; decide
        · intro h
          rcases h with h | h | h
          · rw [h1] at h; cases h
          · exact absurd h (by decide)
          · exact h h3
      refine settles_core ⟨#[112, 117, 108, 115, 101]⟩ (by decide +kernel) (by decide +kernel) pa sa va pc sc vc _ _ _ (tmE (form_time ps && poss_pulse (ps.getD 0 0) st) [⟨⟨#[97]⟩, ⟨#[98, 105, 110, 97, 114, 121]⟩⟩] vs V 1) 2 (0, 0) w hm hps hst.2.1 hin.2.1 (Lib.hid (fun _ W hW => ?_)) (Lib.hid (fun _ W hW => ?_))
      · refine (psettle_2 ⟨#[112, 117, 108, 115, 101]⟩ ⟨#[98, 105, 110, 97, 114, 121]⟩ [⟨⟨#[116, 105, 109, 101]⟩, 0, 86400, 0⟩] [⟨⟨#[97]⟩, ⟨#[98, 105, 110, 97, 114, 121]⟩⟩] 2 2 pa sa va _ pc _ sc vc st vs (form_time ps && poss_pulse (ps.getD 0 0) st) V id (fun _ => 0) 1 W (by decide) (by decide) (by intro p hp; simp at hp; subst hp; exact kindOk_binary) kindOk_binary (by decide) (hin.keep hW) hV ⟨by omega, by omega⟩ rfl (fun k h => by omega) (fun h k => by rw [seqS_id]; rw [Bool.and_eq_true] at h; exact poss_pulse_at h.2) (Lib.hid (kr_pulse pa sa pc sc _ _ W (hm.keep hW) (hps.keep hW) hwf (hst.keep hW))) (Lib.hid (fun h1 h2 h3 => hvac h1 h2 h3))).mono ?_
        rintro e w' ⟨k, n, m, he, hA, hb⟩
        exact ⟨k, n, m, he, ⟨hA.1, fun h => absurd h hz⟩, hb⟩
      · refine (rsettle_core ⟨#[112, 117, 108, 115, 101]⟩ _ _ _ (tmE (form_time ps && poss_pulse (ps.getD 0 0) st) [⟨⟨#[97]⟩, ⟨#[98, 105, 110, 97, 114, 121]⟩⟩] vs V 1) 2 id (fun _ => 0) st 2 2 (by decide) ⟨by omega, by omega⟩ (fun h => absurd h hz) (fun k a b => by omega) (fun h => absurd h hz) W (Lib.hid (fun W1 hW1 => ?_)) (Lib.hid (fun h => absurd h hz))).mono ?_
        · have hb := hW.trans (hW1.mono hW.size)
          refine (rStep_core ⟨#[112, 117, 108, 115, 101]⟩ _ _ _ 1 (tmE (form_time ps && poss_pulse (ps.getD 0 0) st) [⟨⟨#[97]⟩, ⟨#[98, 105, 110, 97, 114, 121]⟩⟩] vs V 1) 2 0 [0, 0] 2 (by decide) rfl W1 (Lib.hid (fun W hW => rcheck_pulse pa sa va pc sc vc ps st vs V 1 W ((hps.keep hb).keep hW) ((hst.keep hb).keep hW) ((hin.keep hb).keep hW) hV)) (Lib.hid (fun h => absurd h hz))).mono ?_
          rintro e w' ⟨v, k, n, he, hA, hb⟩
          exact ⟨v, k, n, he, fun h => absurd h hz, hb⟩
        · rintro e w' ⟨k, n, m, he, hA, hb⟩
          exact ⟨k, n, m, he, ⟨hA.1, fun h => absurd h hz⟩, hb⟩
  · exact settles_core ⟨#[112, 117, 108, 115, 101]⟩ (by decide +kernel) (by decide +kernel) pa sa va pc sc vc _ _ _ 0 0 (0, 0) w hm hps hst.2.1 hin.2.1 (Lib.hid (fun h => absurd h he)) (Lib.hid (fun h => absurd h he))
theorem psettle_other (s : ByteArray) (hs : (timerNames.any fun x => eqS x s) = false) (pa sa va : Option Addr) (pn pc sn sc vn vc : Nat) (w : World) : Calls Tryd.prog 15 #[.string s, .slice pa pn pc, .slice sa sn sc, .slice va vn vc] w fun e w' => ∃ k n m, e = .returned (.tuple #[.agg #[.int .i64 k, .int .i64 n], .int .i64 m, .int .i64 3]) ∧ StA 3 0 (0, 0) k n m ∧ Below w.heap.size w w' := by
  obtain ⟨W0, g, hW0, hg, RG, B0, sz0⟩ := box1 w #[.int .i64 0, .int .i64 0] 26
  have KB := Lib.hid (fun W => resume_other s hs (.slice pa pn pc) (.slice sa sn sc) W)
  have HG0 := Lib.hid RG
  have HB0 := Lib.hid B0
  have HWG := Lib.hid (show w.heap.size ≤ g by omega)
  clear hs RG B0 sz0
  go_enter Tryd.func15, Tryd.ntmps15
  go_upto_region 1 with fail
  rw [← hW0]
  try rw [← hg]
  clear hW0 hg
  go_wp2_with fail
  refine (KB.out W0).mono ?_
  rintro e w1 ⟨rfl, hb⟩
  have HB1 := Lib.hid (HB0.out.trans (hb.mono HB0.out.size))
  have HG1 := Lib.hid (HG0.out.keep hb)
  clear hb
  have g_0 := HG1.out.c 0 _ rfl
  have g_1 := HG1.out.c 1 _ rfl
  have g_z := HG1.out.fz
  go_wp2_with fail
  have hs := HG1.out.setRow [.int .i64 0, .int .i64 0] rfl
  have hB := set_below HB1.out HWG.out [.int .i64 0, .int .i64 0]
  have y0 : ((w1.setCell ⟨g, 0, none⟩ (.int .i64 0)).setCell ⟨g, 1, none⟩ (.int .i64 0)).cell? ⟨g, 0, none⟩ = some (.int .i64 0) := hs.c 0 _ rfl
  have y1 : ((w1.setCell ⟨g, 0, none⟩ (.int .i64 0)).setCell ⟨g, 1, none⟩ (.int .i64 0)).cell? ⟨g, 1, none⟩ = some (.int .i64 0) := hs.c 1 _ rfl
  (try simp only [Exit.inBlock, Exit.then])
  refine bodyPost_ret (by simp [results, Tryd.results15, go_sem, y0, y1]; try rfl) rfl ?_
  exact ⟨_, _, _, rfl, ⟨fun _ => ⟨rfl, rfl, rfl⟩, fun h => absurd h (by decide)⟩, hB⟩
theorem lawS_other (s : ByteArray) (hss : s.size ≤ 9223372036854775807) (hs : (timerNames.any fun x => eqS x s) = false) (hne : ¬ s = ⟨#[104, 121, 115, 116]⟩) (pa sa va : Option Addr) (pc sc vc K V : Nat) (ps : List Int) (k63 : K ≤ 9223372036854775807) (v63 : V ≤ 9223372036854775807) (w : World) (hm : MaxAt w) (hps : InS w pa ps.length 1 (flat iL ps)) :
    Calls Tryd.prog 4 #[.string s, .slice pa ps.length pc, .slice sa K sc, .slice va V vc] w fun e w' => e = .returned (.bool true) ∧ Below w.heap.size w w' := by
  refine settles_core s hne hss pa sa va pc sc vc K V ps 3 0 (0, 0) w hm hps k63 v63 (Lib.hid (fun _ W _ => psettle_other s hs pa sa va _ pc _ sc _ vc W)) (Lib.hid (fun _ W hW => ?_))
  refine (rsettle_core s _ _ _ 3 0 id (fun _ => 0) [] 1 2 (by decide) ⟨by omega, by omega⟩ (fun h => absurd h (by decide)) (fun k a b => by omega) (fun h => absurd h (by decide)) W (Lib.hid (fun W1 hW1 => ?_)) (Lib.hid (fun h => absurd h (by decide)))).mono ?_
  · refine (rStep_core s _ _ _ 1 3 0 0 [0] 1 (by decide) rfl W1 (Lib.hid (fun W _ => rcheck_other s hs _ _ _ 1 W)) (Lib.hid (fun h => absurd h (by decide)))).mono ?_
    rintro e w' ⟨v, k, n, he, hA, hb⟩
    exact ⟨v, k, n, he, fun h => absurd h (by decide), hb⟩
  · rintro e w' ⟨k, n, m, he, hA, hb⟩
    exact ⟨k, n, m, he, ⟨hA.1, fun h => absurd h (by decide)⟩, hb⟩
theorem settles_law (s : ByteArray) (hss : s.size ≤ 9223372036854775807) (pa sa va : Option Addr) (pc sc vc : Nat) (ps st : List Int) (ls : List (Int × Int)) (w : World) (hm : MaxAt w) (hps : InS w pa ps.length 1 (flat iL ps)) (hwf : ∀ v ∈ ps, (Lit.int .i64 v).wf = true) (hst : InS w sa st.length 1 (flat iL st)) (hvs : InS w va ls.length 2 (flat (fun x : Int × Int => [Value.int .i64 x.1, Value.int .i64 x.2]) ls)) :
    Calls Tryd.prog 4 #[.string s, .slice pa ps.length pc, .slice sa st.length sc, .slice va ls.length vc] w fun e w' => e = .returned (.bool true) ∧ Below w.heap.size w w' := by
  classical
  have hl : (ls.map fun x => (⟨x.1, x.2⟩ : ValD)).length = ls.length := List.length_map ..
  have hf : flat valL (ls.map fun x => (⟨x.1, x.2⟩ : ValD)) = flat (fun x : Int × Int => [Value.int .i64 x.1, Value.int .i64 x.2]) ls := by
    unfold flat
    rw [List.flatMap_map]
    rfl
  have hin : InS w va (ls.map fun x => (⟨x.1, x.2⟩ : ValD)).length 2 (flat valL (ls.map fun x => (⟨x.1, x.2⟩ : ValD))) := by rw [hl, hf]; exact hvs
  rw [← hl]
  generalize (ls.map fun x => (⟨x.1, x.2⟩ : ValD)) = vs at hin
  by_cases hn : s = ⟨#[99, 111, 117, 110, 116]⟩ ∨ s = ⟨#[101, 100, 103, 101]⟩ ∨ s = ⟨#[104, 121, 115, 116]⟩ ∨ s = ⟨#[108, 97, 116, 99, 104]⟩ ∨ s = ⟨#[109, 105, 110, 114, 117, 110]⟩ ∨ s = ⟨#[111, 102, 102, 100, 101, 108, 97, 121]⟩ ∨ s = ⟨#[111, 110, 100, 101, 108, 97, 121]⟩ ∨ s = ⟨#[112, 117, 108, 115, 101]⟩
  · rcases hn with rfl | rfl | rfl | rfl | rfl | rfl | rfl | rfl
    · obtain ⟨V, hV⟩ : ∃ F : Bool, F = true ↔ ∀ v ∈ vs, fitsB v.k v.n 2 = true := ⟨decide _, decide_eq_true_iff⟩
      exact lawS_count pa sa va pc sc vc ps st vs V w hm hps hwf hst hin hV
    · obtain ⟨V, hV⟩ : ∃ F : Bool, F = true ↔ ∀ v ∈ vs, fitsB v.k v.n 2 = true := ⟨decide _, decide_eq_true_iff⟩
      exact lawS_edge pa sa va pc sc vc ps st vs V w hm hps hwf hst hin hV
    · obtain ⟨V, hV⟩ : ∃ F : Bool, F = true ↔ ∀ v ∈ vs, fitsB v.k v.n 1 = true := ⟨decide _, decide_eq_true_iff⟩
      exact lawS_hyst pa sa va pc sc vc ps st vs V w hm hps hwf hst hin hV
    · obtain ⟨V, hV⟩ : ∃ F : Bool, F = true ↔ ∀ v ∈ vs, fitsB v.k v.n 2 = true := ⟨decide _, decide_eq_true_iff⟩
      exact lawS_latch pa sa va pc sc vc ps st vs V w hm hps hwf hst hin hV
    · obtain ⟨V, hV⟩ : ∃ F : Bool, F = true ↔ ∀ v ∈ vs, fitsB v.k v.n 2 = true := ⟨decide _, decide_eq_true_iff⟩
      exact lawS_minrun pa sa va pc sc vc ps st vs V w hm hps hwf hst hin hV
    · obtain ⟨V, hV⟩ : ∃ F : Bool, F = true ↔ ∀ v ∈ vs, fitsB v.k v.n 2 = true := ⟨decide _, decide_eq_true_iff⟩
      exact lawS_offdelay pa sa va pc sc vc ps st vs V w hm hps hwf hst hin hV
    · obtain ⟨V, hV⟩ : ∃ F : Bool, F = true ↔ ∀ v ∈ vs, fitsB v.k v.n 2 = true := ⟨decide _, decide_eq_true_iff⟩
      exact lawS_ondelay pa sa va pc sc vc ps st vs V w hm hps hwf hst hin hV
    · obtain ⟨V, hV⟩ : ∃ F : Bool, F = true ↔ ∀ v ∈ vs, fitsB v.k v.n 2 = true := ⟨decide _, decide_eq_true_iff⟩
      exact lawS_pulse pa sa va pc sc vc ps st vs V w hm hps hwf hst hin hV
  · refine lawS_other s hss ?_ (fun h => hn (by rw [h]; simp)) pa sa va pc sc vc _ _ ps hst.2.1 hin.2.1 w hm hps
    cases h : (timerNames.any fun x => eqS x s) with
    | false => rfl
    | true =>
      obtain ⟨x, hx, he⟩ := List.any_eq_true.1 h
      have he2 : x = s := of_decide_eq_true (by unfold eqS at he; exact he)
      subst he2
      refine absurd ?_ hn
      unfold timerNames at hx
      simpa using hx
end Go.Proofs.YtmhfkdnblemfdaaDoor
