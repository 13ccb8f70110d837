/- Contract of Check. -/
import Derived.Test.YtojbhbifbennfaaCh
namespace Go.Proofs.Ytojbhbifbennfaa
open Go.RowKit Go.Shelf

noncomputable def incB (gs : List GrD) : Bool := @decide (IncP gs) (Classical.propDecidable _)
theorem incB_iff (gs : List GrD) : incB gs = true ↔ IncP gs := by unfold incB; exact @decide_eq_true_iff _ (Classical.propDecidable _)
noncomputable def checkV (ps : List PtD) (gs : List GrD) : Int :=
  if (decide (16 < (gs.length : Int)) || gs.any manyB) = true then 7
  else if gs.any unnamedB = true then 4
  else if gs.any undeadB = true then 6
  else if gs.any fewB = true then 1
  else if (!incB gs || !distB (memS gs)) = true then 5
  else memE ps (memS gs)

set_option maxHeartbeats 4000000 in
set_option maxRecDepth 100000 in
theorem checkAll_any (a pa : Option Addr) (cap pcap : Nat) (ps : List PtD) (gs : List GrD) (w : World) (h20 : gs.length ≤ 20) (hsm : ∀ x ∈ gs, x.ns.length ≤ 20) (hpz : ∀ p ∈ ps, p.nm.size ≤ maxLen) (hps : InS w pa ps.length 12 (flat ptL ps)) (hin : InS w a gs.length 3 (flat grL gs)) (hgood : ∀ x ∈ gs, GoodG w x) : Calls Try.prog 14 #[.slice pa ps.length pcap, .slice a gs.length cap] w fun e w' => e = .returned (.int .i64 (checkV ps gs)) ∧ Below w.heap.size w w' := by
  obtain ⟨N, hN⟩ : ∃ N, N = gs.length := ⟨_, rfl⟩
  obtain ⟨M, hM⟩ : ∃ M, M = ps.length := ⟨_, rfl⟩
  have HN := Lib.hid hN
  have HM := Lib.hid hM
  have HI := Lib.hid hin
  have HP := Lib.hid hps
  have HPZ := Lib.hid hpz
  have HG := Lib.hid hgood
  have H20 := Lib.hid h20
  have HSM := Lib.hid hsm
  rw [← hN, ← hM]
  obtain ⟨W, g, hW, hg, R1, B, sz⟩ := box1 w #[.slice a N cap] 23
  have HR := Lib.hid R1
  have HB := Lib.hid B
  clear R1 B sz hN hM hin hps hpz hgood h20 hsm
  have hs2 : ∀ W', Below W.heap.size W W' → Calls Try.prog 36 #[.func (.func 38) #[] #[], .pointer (some ⟨g, 0, none⟩)] W' fun e w' => e = .returned (.bool (gs.any manyB)) ∧ Below W'.heap.size W' w' := fun W' hb => some_any 38 manyB g a cap gs W' eg_many (fun W2 x hx hb2 => many_any x W2) (by have h := (HR.out.keep hb).c 0 _ rfl; rw [HN.out] at h; exact h) (HI.out.keep (HB.out.trans (hb.mono HB.out.size)))
  obtain ⟨A2, hA2⟩ : ∃ A, A = gs.any manyB := ⟨_, rfl⟩
  rw [← hA2] at hs2
  have HS2 := Lib.hid hs2
  have HA2 := Lib.hid hA2
  clear hs2 hA2
  have hs3 : ∀ W', Below W.heap.size W W' → Calls Try.prog 36 #[.func (.func 39) #[] #[], .pointer (some ⟨g, 0, none⟩)] W' fun e w' => e = .returned (.bool (gs.any unnamedB)) ∧ Below W'.heap.size W' w' := fun W' hb => some_any 39 unnamedB g a cap gs W' eg_unnamed (fun W2 x hx hb2 => unnamed_any x W2 ((HG.out x hx).keep ((HB.out.trans (hb.mono HB.out.size)).trans (hb2.mono (HB.out.trans (hb.mono HB.out.size)).size)))) (by have h := (HR.out.keep hb).c 0 _ rfl; rw [HN.out] at h; exact h) (HI.out.keep (HB.out.trans (hb.mono HB.out.size)))
  obtain ⟨A3, hA3⟩ : ∃ A, A = gs.any unnamedB := ⟨_, rfl⟩
  rw [← hA3] at hs3
  have HS3 := Lib.hid hs3
  have HA3 := Lib.hid hA3
  clear hs3 hA3
  have hs4 : ∀ W', Below W.heap.size W W' → Calls Try.prog 36 #[.func (.func 41) #[] #[], .pointer (some ⟨g, 0, none⟩)] W' fun e w' => e = .returned (.bool (gs.any undeadB)) ∧ Below W'.heap.size W' w' := fun W' hb => some_any 41 undeadB g a cap gs W' eg_undead (fun W2 x hx hb2 => undead_any x W2) (by have h := (HR.out.keep hb).c 0 _ rfl; rw [HN.out] at h; exact h) (HI.out.keep (HB.out.trans (hb.mono HB.out.size)))
  obtain ⟨A4, hA4⟩ : ∃ A, A = gs.any undeadB := ⟨_, rfl⟩
  rw [← hA4] at hs4
  have HS4 := Lib.hid hs4
  have HA4 := Lib.hid hA4
  clear hs4 hA4
  have hs5 : ∀ W', Below W.heap.size W W' → Calls Try.prog 36 #[.func (.func 43) #[] #[], .pointer (some ⟨g, 0, none⟩)] W' fun e w' => e = .returned (.bool (gs.any fewB)) ∧ Below W'.heap.size W' w' := fun W' hb => some_any 43 fewB g a cap gs W' eg_few (fun W2 x hx hb2 => few_any x W2) (by have h := (HR.out.keep hb).c 0 _ rfl; rw [HN.out] at h; exact h) (HI.out.keep (HB.out.trans (hb.mono HB.out.size)))
  obtain ⟨A5, hA5⟩ : ∃ A, A = gs.any fewB := ⟨_, rfl⟩
  rw [← hA5] at hs5
  have HS5 := Lib.hid hs5
  have HA5 := Lib.hid hA5
  clear hs5 hA5
  go_enter Try.func14, Try.ntmps14
  go_upto_region 1 with fail
  rw [← hW]
  try rw [← hg]
  clear hW hg
  have HK0 := Lib.hid (Below.refl W.heap.size W)
  have r0 := HR.out.c 0 _ rfl
  by_cases h16 : 16 < (N : Int)
  · have HY := Lib.hid (show checkV ps gs = 7 by unfold checkV; rw [← HN.out, decide_eq_true h16, Bool.true_or, if_pos rfl])
    go_wp2_with fail
    go_ret
    exact ⟨by rw [HY.out]; (first | done | rfl), HB.out⟩
  have H16 := Lib.hid h16
  go_wp2_with fail
  refine (HS2.out _ HK0.out).mono ?_
  rintro e w1 ⟨rfl, hb⟩
  have HK1 := Lib.hid (HK0.out.trans (hb.mono HK0.out.size))
  have r0 := (HR.out.keep HK1.out).c 0 _ rfl
  clear hb
  cases hc2 : A2 with
  | true =>
    have HY := Lib.hid (show checkV ps gs = 7 by unfold checkV; rw [← HA2.out, hc2]; simp [])
    go_wp2_with fail
    go_ret
    exact ⟨by rw [HY.out]; (first | done | rfl), HB.out.trans (HK1.out.mono HB.out.size)⟩
  | false =>
    have HC2 := Lib.hid hc2
    clear hc2
    go_wp2_with fail
    refine (HS3.out _ HK1.out).mono ?_
    rintro e w2 ⟨rfl, hb⟩
    have HK2 := Lib.hid (HK1.out.trans (hb.mono HK1.out.size))
    have r0 := (HR.out.keep HK2.out).c 0 _ rfl
    clear hb
    cases hc3 : A3 with
    | true =>
      have HY := Lib.hid (show checkV ps gs = 4 by unfold checkV; rw [← HA2.out, ← HA3.out, hc3]; simp [← HN.out, H16.out, HC2.out])
      go_wp2_with fail
      go_ret
      exact ⟨by rw [HY.out]; (first | done | rfl), HB.out.trans (HK2.out.mono HB.out.size)⟩
    | false =>
      have HC3 := Lib.hid hc3
      clear hc3
      go_wp2_with fail
      refine (HS4.out _ HK2.out).mono ?_
      rintro e w3 ⟨rfl, hb⟩
      have HK3 := Lib.hid (HK2.out.trans (hb.mono HK2.out.size))
      have r0 := (HR.out.keep HK3.out).c 0 _ rfl
      clear hb
      cases hc4 : A4 with
      | true =>
        have HY := Lib.hid (show checkV ps gs = 6 by unfold checkV; rw [← HA2.out, ← HA3.out, ← HA4.out, hc4]; simp [← HN.out, H16.out, HC2.out, HC3.out])
        go_wp2_with fail
        go_ret
        exact ⟨by rw [HY.out]; (first | done | rfl), HB.out.trans (HK3.out.mono HB.out.size)⟩
      | false =>
        have HC4 := Lib.hid hc4
        clear hc4
        go_wp2_with fail
        refine (HS5.out _ HK3.out).mono ?_
        rintro e w4 ⟨rfl, hb⟩
        have HK4 := Lib.hid (HK3.out.trans (hb.mono HK3.out.size))
        have r0 := (HR.out.keep HK4.out).c 0 _ rfl
        clear hb
        cases hc5 : A5 with
        | true =>
          have HY := Lib.hid (show checkV ps gs = 1 by unfold checkV; rw [← HA2.out, ← HA3.out, ← HA4.out, ← HA5.out, hc5]; simp [← HN.out, H16.out, HC2.out, HC3.out, HC4.out])
          go_wp2_with fail
          go_ret
          exact ⟨by rw [HY.out]; (first | done | rfl), HB.out.trans (HK4.out.mono HB.out.size)⟩
        | false =>
          have HC5 := Lib.hid hc5
          clear hc5
          go_wp2_with fail
          clear r0
          have r0 := (HR.out.keep HK4.out).c 0 _ rfl
          have HL := Lib.hid (show gs.length ≤ 20 from H20.out)
          have HL2 := Lib.hid (show ∀ x ∈ gs, 0 < x.ns.length ∧ x.ns.length ≤ 20 from fun x hx => by
            refine ⟨?_, HSM.out x hx⟩
            have h5 := HC5.out
            rw [HA5.out, List.any_eq_false] at h5
            have h6 := h5 x hx
            unfold fewB at h6
            simp at h6
            omega)
          have HSZ := Lib.hid (show ∀ s ∈ memS gs, s.size ≤ maxLen from fun s hs => by
            obtain ⟨x, hx, hs2⟩ := List.mem_flatMap.1 hs
            exact (HG.out x hx).2.1 s hs2)
          have HLM := Lib.hid (show (memS gs).length ≤ 100000 from by
            have h := memS_len (gs := gs) HSM.out gs.length
            rw [List.take_length] at h
            have := H20.out
            omega)
          have HIN := Lib.hid (fun (W' : World) (hb : Below w.heap.size w W') => increasing_any (incB gs) a cap gs W' (incB_iff gs) H20.out (HI.out.keep hb))
          obtain ⟨F, hF⟩ : ∃ F, F = incB gs := ⟨_, rfl⟩
          obtain ⟨D, hD⟩ : ∃ D, D = distB (memS gs) := ⟨_, rfl⟩
          rw [← hF, ← HN.out] at HIN
          have HF := Lib.hid hF
          have HD := Lib.hid hD
          obtain ⟨L, hL⟩ : ∃ L, L = (memS gs).length := ⟨_, rfl⟩
          have HMB := Lib.hid (show ∀ W' : World, Below w.heap.size w W' → Calls Try.prog 46 #[.slice a N cap] W' fun e w' => ∃ a' c', e = .returned (.slice a' L c') ∧ InS w' a' L 1 (flat stL (memS gs)) ∧ Below W'.heap.size W' w' from fun W' hb => by
            rw [HN.out, hL]
            refine (members_any a cap gs W' HL.out HL2.out (HI.out.keep hb) (fun x hx => (HG.out x hx).keep hb)).mono ?_
            rintro e w' ⟨v, rfl, hown, hb'⟩
            obtain ⟨a', c', rfl, hi⟩ := ins_own hown
            exact ⟨a', c', rfl, hi, hb'⟩)
          have HDI := Lib.hid (show ∀ (W' : World) a' c', InS W' a' L 1 (flat stL (memS gs)) → Calls Try.prog 45 #[.slice a' L c'] W' fun e w' => e = .returned (.bool D) ∧ Below W'.heap.size W' w' from fun W' a' c' hi => by
            rw [hD]; rw [hL] at hi ⊢
            exact distinct_any a' c' (memS gs) W' HLM.out HSZ.out hi)
          have HCM := Lib.hid (show ∀ (W' : World) a' c', Below w.heap.size w W' → InS W' a' L 1 (flat stL (memS gs)) → Calls Try.prog 47 #[.slice pa M pcap, .slice a' L c'] W' fun e w' => e = .returned (.int .i64 (memE ps (memS gs))) ∧ Below W'.heap.size W' w' from fun W' a' c' hb hi => by
            rw [HM.out]; rw [hL] at hi ⊢
            exact checkMembers_any pa a' pcap c' ps (memS gs) W' HPZ.out HSZ.out (HP.out.keep hb) hi)
          clear hF hD hL
          refine (HIN.out w4 (HB.out.trans (HK4.out.mono HB.out.size))).mono ?_
          rintro e w5 ⟨rfl, hb⟩
          have HK5 := Lib.hid (HK4.out.trans (hb.mono HK4.out.size))
          clear hb r0
          have r0 := (HR.out.keep HK5.out).c 0 _ rfl
          cases hcF : F with
          | false =>
            have HY := Lib.hid (show checkV ps gs = 5 by unfold checkV; rw [← HF.out, ← HN.out, decide_eq_false (show ¬ 16 < (N : Int) by have := H16.out; omega), ← HA2.out, ← HA3.out, ← HA4.out, ← HA5.out, HC2.out, HC3.out, HC4.out, HC5.out, hcF]; simp)
            go_wp2_with fail
            go_ret
            exact ⟨by rw [HY.out]; (first | done | rfl), HB.out.trans (HK5.out.mono HB.out.size)⟩
          | true =>
            have HCF := Lib.hid hcF
            clear hcF
            go_wp2_with fail
            refine (HMB.out w5 (HB.out.trans (HK5.out.mono HB.out.size))).mono ?_
            rintro e w6 ⟨av, cv, rfl, hi, hb⟩
            have HK6 := Lib.hid (HK5.out.trans (hb.mono HK5.out.size))
            have HIv := Lib.hid hi
            clear hi hb r0
            have r0 := (HR.out.keep HK6.out).c 0 _ rfl
            go_wp2_with fail
            refine (HDI.out w6 av cv HIv.out).mono ?_
            rintro e w7 ⟨rfl, hb⟩
            have HK7 := Lib.hid (HK6.out.trans (hb.mono HK6.out.size))
            clear hb r0
            have r0 := (HR.out.keep HK7.out).c 0 _ rfl
            cases hcD : D with
            | false =>
              have HY := Lib.hid (show checkV ps gs = 5 by unfold checkV; rw [← HF.out, ← HD.out, ← HN.out, decide_eq_false (show ¬ 16 < (N : Int) by have := H16.out; omega), ← HA2.out, ← HA3.out, ← HA4.out, ← HA5.out, HC2.out, HC3.out, HC4.out, HC5.out, HCF.out, hcD]; simp)
              go_wp2_with fail
              go_ret
              exact ⟨by rw [HY.out]; (first | done | rfl), HB.out.trans (HK7.out.mono HB.out.size)⟩
            | true =>
              have HY := Lib.hid (show checkV ps gs = memE ps (memS gs) by unfold checkV; rw [← HF.out, ← HD.out, ← HN.out, decide_eq_false (show ¬ 16 < (N : Int) by have := H16.out; omega), ← HA2.out, ← HA3.out, ← HA4.out, ← HA5.out, HC2.out, HC3.out, HC4.out, HC5.out, HCF.out, hcD]; simp)
              clear hcD
              go_wp2_with fail
              refine (HMB.out w7 (HB.out.trans (HK7.out.mono HB.out.size))).mono ?_
              rintro e w8 ⟨au, cu, rfl, hi, hb⟩
              have HK8 := Lib.hid (HK7.out.trans (hb.mono HK7.out.size))
              have HIu := Lib.hid hi
              clear hi hb r0
              have r0 := (HR.out.keep HK8.out).c 0 _ rfl
              go_wp2_with fail
              refine (HCM.out w8 au cu (HB.out.trans (HK8.out.mono HB.out.size)) HIu.out).mono ?_
              rintro e w9 ⟨rfl, hb⟩
              have HK9 := Lib.hid (HK8.out.trans (hb.mono HK8.out.size))
              clear hb r0
              go_wp2_with fail
              go_ret
              exact ⟨by rw [HY.out]; (first | done | rfl), HB.out.trans (HK9.out.mono HB.out.size)⟩
end Go.Proofs.Ytojbhbifbennfaa
