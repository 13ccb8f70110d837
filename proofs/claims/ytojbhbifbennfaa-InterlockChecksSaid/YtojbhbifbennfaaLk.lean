/- The law InterlockChecks. -/
import Derived.Test.YtojbhbifbennfaaCk
import Derived.Test.YtojbhbifbennfaaW
namespace Go.Proofs.Ytojbhbifbennfaa
open Go.RowKit Go.Shelf


set_option maxHeartbeats 4000000 in
set_option maxRecDepth 100000 in
theorem checks_law (pa a : Option Addr) (pcap cap : Nat) (ps : List PtD) (gs : List GrD) (nm : ByteArray) (w : World) (hps : InS w pa ps.length 12 (flat ptL ps)) (hpz : ∀ p ∈ ps, p.nm.size ≤ maxLen) (hin : InS w a gs.length 3 (flat grL gs)) (hgood : ∀ x ∈ gs, GoodG w x) : Calls Try.prog 3 #[.slice pa ps.length pcap, .slice a gs.length cap, .string nm] w fun e w' => e = .returned (.bool true) ∧ Below w.heap.size w w' := by
  obtain ⟨N, hN⟩ : ∃ N, N = gs.length := ⟨_, rfl⟩
  obtain ⟨M, hM⟩ : ∃ M, M = ps.length := ⟨_, rfl⟩
  have HAW := Lib.hid awake_yes
  obtain ⟨F1, F2, F3, hF⟩ : ∃ F1 F2 F3 : Int, findV nm gs = .tuple #[.int .i64 F1, .int .i64 F2, .int .i64 F3] := ⟨_, _, _, rfl⟩
  obtain ⟨B, hB⟩ : ∃ B, B = smallB gs := ⟨_, rfl⟩
  obtain ⟨V, hV⟩ : ∃ V, V = checkV ps gs := ⟨_, rfl⟩
  have HSM := Lib.hid (show ∀ (W' : World), Below w.heap.size w W' → Calls Try.prog 11 #[.slice a N cap] W' fun e w' => e = .returned (.bool B) ∧ Below W'.heap.size W' w' from fun W' hb => by
    rw [hB]; rw [hN]; exact rsmall_any a cap gs W' (hin.keep hb))
  have HFI := Lib.hid (show ∀ (W' : World), Below w.heap.size w W' → Calls Try.prog 12 #[.slice a N cap, .string nm] W' fun e w' => e = .returned (.tuple #[.int .i64 F1, .int .i64 F2, .int .i64 F3]) ∧ Below W'.heap.size W' w' from fun W' hb => by
    rw [← hF]; rw [hN]; exact find_any nm a cap gs W' (hin.keep hb) (fun x hx => (hgood x hx).keep hb))
  have HRF := Lib.hid (show ∀ (W' : World), Below w.heap.size w W' → Calls Try.prog 13 #[.slice a N cap, .string nm] W' fun e w' => e = .returned (.tuple #[.int .i64 F1, .int .i64 F2, .int .i64 F3]) ∧ Below W'.heap.size W' w' from fun W' hb => by
    rw [← hF]; rw [hN]; exact rfind_any nm a cap gs W' (hin.keep hb) (fun x hx => (hgood x hx).keep hb))
  have HRC := Lib.hid (show ∀ (W' : World), Below w.heap.size w W' → Calls Try.prog 15 #[.slice pa M pcap, .slice a N cap] W' fun e w' => e = .returned (.int .i64 V) ∧ Below W'.heap.size W' w' from fun W' hb => by
    rw [hV]; rw [hN, hM]; exact rcheckAll_any a pa cap pcap ps gs W' (dist_iff gs) (hps.keep hb) (hin.keep hb) (fun x hx => (hgood x hx).keep hb))
  have HCH := Lib.hid (show B = true → ∀ (W' : World), Below w.heap.size w W' → Calls Try.prog 14 #[.slice pa M pcap, .slice a N cap] W' fun e w' => e = .returned (.int .i64 V) ∧ Below W'.heap.size W' w' from fun hb1 W' hb => by
    rw [hB] at hb1
    unfold smallB at hb1
    rw [Bool.and_eq_true, decide_eq_true_iff, List.all_eq_true] at hb1
    rw [hV, hN, hM]
    exact checkAll_any a pa cap pcap ps gs W' hb1.1 (fun x hx => by have h := hb1.2 x hx; rwa [decide_eq_true_iff] at h) hpz (hps.keep hb) (hin.keep hb) (fun x hx => (hgood x hx).keep hb))
  rw [← hN, ← hM]
  clear hN hM hF hB hV hin hps hgood hpz
  go_enter Try.func3, Try.ntmps3
  go_wp2_with fail
  refine (HAW.out w).mono ?_
  rintro e w0 ⟨rfl, hb⟩
  have HB0 := Lib.hid hb
  clear hb
  go_wp2_with fail
  refine (HSM.out _ HB0.out).mono ?_
  rintro e w1 ⟨rfl, hb⟩
  have HB1 := Lib.hid (HB0.out.trans (hb.mono HB0.out.size))
  clear hb
  cases B with
  | false =>
    go_wp2_with fail
    go_ret
    exact ⟨by (first | done | rfl | simp), HB1.out⟩
  | true =>
    have HCK := Lib.hid (HCH.out rfl)
    by_cases h40 : 40 < (M : Int)
    · go_wp2_with fail
      go_ret
      exact ⟨by (first | done | rfl | simp), HB1.out⟩
    go_wp2_with fail
    refine (HFI.out _ HB1.out).mono ?_
    rintro e w2 ⟨rfl, hb⟩
    have HB2 := Lib.hid (HB1.out.trans (hb.mono HB1.out.size))
    clear hb
    go_wp2_with fail
    refine (HRF.out _ HB2.out).mono ?_
    rintro e w3 ⟨rfl, hb⟩
    have HB3 := Lib.hid (HB2.out.trans (hb.mono HB2.out.size))
    clear hb
    go_wp2_with fail
    refine (HCK.out _ HB3.out).mono ?_
    rintro e w4 ⟨rfl, hb⟩
    have HB4 := Lib.hid (HB3.out.trans (hb.mono HB3.out.size))
    clear hb
    go_wp2_with fail
    refine (HRC.out _ HB4.out).mono ?_
    rintro e w5 ⟨rfl, hb⟩
    have HB5 := Lib.hid (HB4.out.trans (hb.mono HB4.out.size))
    clear hb
    go_wp2_with fail
    go_ret
    exact ⟨by (first | done | rfl | simp), HB5.out⟩
end Go.Proofs.Ytojbhbifbennfaa
