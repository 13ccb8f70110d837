/- timer.Step at each block of the layer. -/
import Derived.Test.YtmhfkdnblemfdaaDoorDd
namespace Go.Proofs.YtmhfkdnblemfdaaDoor
open Go.RowKit Go.Shelf

set_option linter.unusedVariables false
set_option linter.unusedSimpArgs false
def form_none : List Int → Bool
  | [] => true
  | _ => false
def form_time : List Int → Bool
  | [t] => inZ 0 t 86400
  | _ => false
def form_mr : List Int → Bool
  | [a, c] => inZ 0 a 86400 && inZ 0 c 86400
  | _ => false
def form_hyst : List Int → Bool
  | [a, c] => inZ (-1000000000000) a 1000000000000 && inZ (-1000000000000) c 1000000000000 && decide (c < a)
  | _ => false
theorem formed_count (ps : List Int) : form_none ps = (decide (ps.length = ([] : List BndD).length) && decide (prmE [] (zipP [] ps) (fun _ => true) = 0)) := by
  by_cases hl : ps.length = 0
  · rw [decide_eq_true (show ps.length = ([] : List BndD).length from hl), Bool.true_and]
    obtain rfl : ps = [] := by
      match ps, hl with
      | [], _ => exact rfl
    exact (by rw [prmE_count]; rfl)
  · rw [decide_eq_false (show ¬ ps.length = ([] : List BndD).length from hl), Bool.false_and]
    unfold form_none
    split
    · exact absurd rfl hl
    · rfl
theorem formed_edge (ps : List Int) : form_none ps = (decide (ps.length = ([] : List BndD).length) && decide (prmE [] (zipP [] ps) (fun _ => true) = 0)) := by
  by_cases hl : ps.length = 0
  · rw [decide_eq_true (show ps.length = ([] : List BndD).length from hl), Bool.true_and]
    obtain rfl : ps = [] := by
      match ps, hl with
      | [], _ => exact rfl
    exact (by rw [prmE_edge]; rfl)
  · rw [decide_eq_false (show ¬ ps.length = ([] : List BndD).length from hl), Bool.false_and]
    unfold form_none
    split
    · exact absurd rfl hl
    · rfl
theorem formed_hyst (ps : List Int) : form_hyst ps = (decide (ps.length = ([⟨⟨#[111, 110]⟩, (-1000000000000), 1000000000000, 1000⟩, ⟨⟨#[111, 102, 102]⟩, (-1000000000000), 1000000000000, 0⟩] : List BndD).length) && decide (prmE [⟨⟨#[111, 110]⟩, (-1000000000000), 1000000000000, 1000⟩, ⟨⟨#[111, 102, 102]⟩, (-1000000000000), 1000000000000, 0⟩] (zipP [⟨⟨#[111, 110]⟩, (-1000000000000), 1000000000000, 1000⟩, ⟨⟨#[111, 102, 102]⟩, (-1000000000000), 1000000000000, 0⟩] ps) agLt = 0)) := by
  by_cases hl : ps.length = 2
  · rw [decide_eq_true (show ps.length = ([⟨⟨#[111, 110]⟩, (-1000000000000), 1000000000000, 1000⟩, ⟨⟨#[111, 102, 102]⟩, (-1000000000000), 1000000000000, 0⟩] : List BndD).length from hl), Bool.true_and]
    obtain ⟨p0, p1, rfl⟩ : ∃ p0 p1, ps = [p0, p1] := by
      match ps, hl with
      | [p0, p1], _ => exact ⟨_, _, rfl⟩
    rw [prmE_hyst]
    by_cases h : (-1000000000000 ≤ p0 ∧ p0 ≤ 1000000000000) ∧ (-1000000000000 ≤ p1 ∧ p1 ≤ 1000000000000)
    · rw [show form_hyst [p0, p1] = decide (p1 < p0) by show (inZ _ p0 _ && inZ _ p1 _ && decide (p1 < p0)) = _; rw [inZ_yes h.1.1 h.1.2, inZ_yes h.2.1 h.2.2]; rfl, show inB [⟨⟨#[111, 110]⟩, (-1000000000000), 1000000000000, 1000⟩, ⟨⟨#[111, 102, 102]⟩, (-1000000000000), 1000000000000, 0⟩] [p0, p1] = true by simp [inB]; omega]
      by_cases h2 : p1 < p0 <;> simp [agLt, h2]
    · rw [show form_hyst [p0, p1] = false by show (inZ _ p0 _ && inZ _ p1 _ && decide (p1 < p0)) = false; rw [show (inZ (-1000000000000) p0 1000000000000 && inZ (-1000000000000) p1 1000000000000) = false by rw [Bool.and_eq_false_iff]; by_cases h1 : -1000000000000 ≤ p0 ∧ p0 ≤ 1000000000000; exact .inr (inZ_no (fun h2 => h ⟨h1, h2⟩)); exact .inl (inZ_no h1)]; rfl, show inB [⟨⟨#[111, 110]⟩, (-1000000000000), 1000000000000, 1000⟩, ⟨⟨#[111, 102, 102]⟩, (-1000000000000), 1000000000000, 0⟩] [p0, p1] = false by simp [inB]; omega]; simp
  · rw [decide_eq_false (show ¬ ps.length = ([⟨⟨#[111, 110]⟩, (-1000000000000), 1000000000000, 1000⟩, ⟨⟨#[111, 102, 102]⟩, (-1000000000000), 1000000000000, 0⟩] : List BndD).length from hl), Bool.false_and]
    unfold form_hyst
    split
    · exact absurd rfl hl
    · rfl
theorem formed_latch (ps : List Int) : form_none ps = (decide (ps.length = ([] : List BndD).length) && decide (prmE [] (zipP [] ps) (fun _ => true) = 0)) := by
  by_cases hl : ps.length = 0
  · rw [decide_eq_true (show ps.length = ([] : List BndD).length from hl), Bool.true_and]
    obtain rfl : ps = [] := by
      match ps, hl with
      | [], _ => exact rfl
    exact (by rw [prmE_latch]; rfl)
  · rw [decide_eq_false (show ¬ ps.length = ([] : List BndD).length from hl), Bool.false_and]
    unfold form_none
    split
    · exact absurd rfl hl
    · rfl
theorem formed_minrun (ps : List Int) : form_mr ps = (decide (ps.length = ([⟨⟨#[111, 110]⟩, 0, 86400, 0⟩, ⟨⟨#[111, 102, 102]⟩, 0, 86400, 0⟩] : List BndD).length) && decide (prmE [⟨⟨#[111, 110]⟩, 0, 86400, 0⟩, ⟨⟨#[111, 102, 102]⟩, 0, 86400, 0⟩] (zipP [⟨⟨#[111, 110]⟩, 0, 86400, 0⟩, ⟨⟨#[111, 102, 102]⟩, 0, 86400, 0⟩] ps) (fun _ => true) = 0)) := by
  by_cases hl : ps.length = 2
  · rw [decide_eq_true (show ps.length = ([⟨⟨#[111, 110]⟩, 0, 86400, 0⟩, ⟨⟨#[111, 102, 102]⟩, 0, 86400, 0⟩] : List BndD).length from hl), Bool.true_and]
    obtain ⟨p0, p1, rfl⟩ : ∃ p0 p1, ps = [p0, p1] := by
      match ps, hl with
      | [p0, p1], _ => exact ⟨_, _, rfl⟩
    rw [prmE_minrun]
    by_cases h : (0 ≤ p0 ∧ p0 ≤ 86400) ∧ (0 ≤ p1 ∧ p1 ≤ 86400)
    · rw [show form_mr [p0, p1] = true by show (inZ 0 p0 86400 && inZ 0 p1 86400) = true; rw [inZ_yes h.1.1 h.1.2, inZ_yes h.2.1 h.2.2]; rfl, show inB [⟨⟨#[111, 110]⟩, 0, 86400, 0⟩, ⟨⟨#[111, 102, 102]⟩, 0, 86400, 0⟩] [p0, p1] = true by simp [inB]; omega]; simp
    · rw [show form_mr [p0, p1] = false by show (inZ 0 p0 86400 && inZ 0 p1 86400) = false; rw [Bool.and_eq_false_iff]; by_cases h1 : 0 ≤ p0 ∧ p0 ≤ 86400; exact .inr (inZ_no (fun h2 => h ⟨h1, h2⟩)); exact .inl (inZ_no h1), show inB [⟨⟨#[111, 110]⟩, 0, 86400, 0⟩, ⟨⟨#[111, 102, 102]⟩, 0, 86400, 0⟩] [p0, p1] = false by simp [inB]; omega]; simp
  · rw [decide_eq_false (show ¬ ps.length = ([⟨⟨#[111, 110]⟩, 0, 86400, 0⟩, ⟨⟨#[111, 102, 102]⟩, 0, 86400, 0⟩] : List BndD).length from hl), Bool.false_and]
    unfold form_mr
    split
    · exact absurd rfl hl
    · rfl
theorem formed_offdelay (ps : List Int) : form_time ps = (decide (ps.length = ([⟨⟨#[116, 105, 109, 101]⟩, 0, 86400, 0⟩] : List BndD).length) && decide (prmE [⟨⟨#[116, 105, 109, 101]⟩, 0, 86400, 0⟩] (zipP [⟨⟨#[116, 105, 109, 101]⟩, 0, 86400, 0⟩] ps) (fun _ => true) = 0)) := by
  by_cases hl : ps.length = 1
  · rw [decide_eq_true (show ps.length = ([⟨⟨#[116, 105, 109, 101]⟩, 0, 86400, 0⟩] : List BndD).length from hl), Bool.true_and]
    obtain ⟨p0, rfl⟩ : ∃ p0, ps = [p0] := by
      match ps, hl with
      | [p0], _ => exact ⟨_, rfl⟩
    rw [prmE_offdelay]
    by_cases h : 0 ≤ p0 ∧ p0 ≤ 86400
    · rw [show form_time [p0] = true from inZ_yes h.1 h.2, show inB [⟨⟨#[116, 105, 109, 101]⟩, 0, 86400, 0⟩] [p0] = true by simp [inB]; omega]; simp
    · rw [show form_time [p0] = false from inZ_no h, show inB [⟨⟨#[116, 105, 109, 101]⟩, 0, 86400, 0⟩] [p0] = false by simp [inB]; omega]; simp
  · rw [decide_eq_false (show ¬ ps.length = ([⟨⟨#[116, 105, 109, 101]⟩, 0, 86400, 0⟩] : List BndD).length from hl), Bool.false_and]
    unfold form_time
    split
    · exact absurd rfl hl
    · rfl
theorem formed_ondelay (ps : List Int) : form_time ps = (decide (ps.length = ([⟨⟨#[116, 105, 109, 101]⟩, 0, 86400, 0⟩] : List BndD).length) && decide (prmE [⟨⟨#[116, 105, 109, 101]⟩, 0, 86400, 0⟩] (zipP [⟨⟨#[116, 105, 109, 101]⟩, 0, 86400, 0⟩] ps) (fun _ => true) = 0)) := by
  by_cases hl : ps.length = 1
  · rw [decide_eq_true (show ps.length = ([⟨⟨#[116, 105, 109, 101]⟩, 0, 86400, 0⟩] : List BndD).length from hl), Bool.true_and]
    obtain ⟨p0, rfl⟩ : ∃ p0, ps = [p0] := by
      match ps, hl with
      | [p0], _ => exact ⟨_, rfl⟩
    rw [prmE_ondelay]
    by_cases h : 0 ≤ p0 ∧ p0 ≤ 86400
    · rw [show form_time [p0] = true from inZ_yes h.1 h.2, show inB [⟨⟨#[116, 105, 109, 101]⟩, 0, 86400, 0⟩] [p0] = true by simp [inB]; omega]; simp
    · rw [show form_time [p0] = false from inZ_no h, show inB [⟨⟨#[116, 105, 109, 101]⟩, 0, 86400, 0⟩] [p0] = false by simp [inB]; omega]; simp
  · rw [decide_eq_false (show ¬ ps.length = ([⟨⟨#[116, 105, 109, 101]⟩, 0, 86400, 0⟩] : List BndD).length from hl), Bool.false_and]
    unfold form_time
    split
    · exact absurd rfl hl
    · rfl
theorem formed_pulse (ps : List Int) : form_time ps = (decide (ps.length = ([⟨⟨#[116, 105, 109, 101]⟩, 0, 86400, 0⟩] : List BndD).length) && decide (prmE [⟨⟨#[116, 105, 109, 101]⟩, 0, 86400, 0⟩] (zipP [⟨⟨#[116, 105, 109, 101]⟩, 0, 86400, 0⟩] ps) (fun _ => true) = 0)) := by
  by_cases hl : ps.length = 1
  · rw [decide_eq_true (show ps.length = ([⟨⟨#[116, 105, 109, 101]⟩, 0, 86400, 0⟩] : List BndD).length from hl), Bool.true_and]
    obtain ⟨p0, rfl⟩ : ∃ p0, ps = [p0] := by
      match ps, hl with
      | [p0], _ => exact ⟨_, rfl⟩
    rw [prmE_pulse]
    by_cases h : 0 ≤ p0 ∧ p0 ≤ 86400
    · rw [show form_time [p0] = true from inZ_yes h.1 h.2, show inB [⟨⟨#[116, 105, 109, 101]⟩, 0, 86400, 0⟩] [p0] = true by simp [inB]; omega]; simp
    · rw [show form_time [p0] = false from inZ_no h, show inB [⟨⟨#[116, 105, 109, 101]⟩, 0, 86400, 0⟩] [p0] = false by simp [inB]; omega]; simp
  · rw [decide_eq_false (show ¬ ps.length = ([⟨⟨#[116, 105, 109, 101]⟩, 0, 86400, 0⟩] : List BndD).length from hl), Bool.false_and]
    unfold form_time
    split
    · exact absurd rfl hl
    · rfl
theorem form_none_at {ps : List Int} (h : form_none ps = true) : ps = [] ∧ (True) := by
  unfold form_none at h
  split at h
  · exact ⟨rfl, trivial⟩
  · cases h
theorem form_time_at {ps : List Int} (h : form_time ps = true) : ∃ p0 : Int, ps = [p0] ∧ (0 ≤ p0 ∧ p0 ≤ 86400) := by
  unfold form_time at h
  split at h
  · refine ⟨_, rfl, ?_⟩; exact inZ_le h
  · cases h
theorem form_mr_at {ps : List Int} (h : form_mr ps = true) : ∃ p0 p1 : Int, ps = [p0, p1] ∧ ((0 ≤ p0 ∧ p0 ≤ 86400) ∧ (0 ≤ p1 ∧ p1 ≤ 86400)) := by
  unfold form_mr at h
  split at h
  · refine ⟨_, _, rfl, ?_⟩; rw [Bool.and_eq_true] at h; exact ⟨inZ_le h.1, inZ_le h.2⟩
  · cases h
theorem form_hyst_at {ps : List Int} (h : form_hyst ps = true) : ∃ p0 p1 : Int, ps = [p0, p1] ∧ (p1 < p0) := by
  unfold form_hyst at h
  split at h
  · refine ⟨_, _, rfl, ?_⟩; rw [Bool.and_eq_true] at h; exact of_decide_eq_true h.2
  · cases h
theorem poss_count_at {st : List Int} (h : poss_count st = true) : ∃ x y, st = [x, y] := by
  unfold poss_count at h
  split at h
  · exact ⟨_, _, rfl⟩
  · cases h
set_option maxHeartbeats 4000000 in
theorem tstep_count (pa sa va : Option Addr) (pc sc vc : Nat) (ps st : List Int) (vs : List ValD) (V : Bool) (dt : Int) (w : World) (hm : MaxAt w) (hps : InS w pa ps.length 1 (flat iL ps)) (hwf : ∀ v ∈ ps, (Lit.int .i64 v).wf = true) (hst : InS w sa st.length 1 (flat iL st)) (hin : InS w va vs.length 2 (flat valL vs)) (hV : V = true ↔ ∀ v ∈ vs, fitsB v.k v.n 2 = true) :
    Calls Tryd.prog 11 #[.string ⟨#[99, 111, 117, 110, 116]⟩, .slice pa ps.length pc, .slice sa st.length sc, .slice va vs.length vc, .int .i64 dt] w fun e w' => ∃ v k n, e = .returned (.tuple #[v, .agg #[.int .i64 k, .int .i64 n], .int .i64 (tmE (form_none ps && poss_count st) [⟨⟨#[97]⟩, ⟨#[98, 105, 110, 97, 114, 121]⟩⟩, ⟨⟨#[114, 101, 115, 101, 116]⟩, ⟨#[98, 105, 110, 97, 114, 121]⟩⟩] vs V dt)]) ∧ TmA w' (tmE (form_none ps && poss_count st) [⟨⟨#[97]⟩, ⟨#[98, 105, 110, 97, 114, 121]⟩⟩, ⟨⟨#[114, 101, 115, 101, 116]⟩, ⟨#[98, 105, 110, 97, 114, 121]⟩⟩] vs V dt) 1 (1000 * cntS (vs.getD 0 ⟨0, 0⟩).n (vs.getD 1 ⟨0, 0⟩).n (st.getD 0 0) (st.getD 1 0)) [(vs.getD 0 ⟨0, 0⟩).n, cntS (vs.getD 0 ⟨0, 0⟩).n (vs.getD 1 ⟨0, 0⟩).n (st.getD 0 0) (st.getD 1 0)] v k n ∧ Below w.heap.size w w' := by
  refine tstep ⟨#[99, 111, 117, 110, 116]⟩ ⟨#[97, 110, 97, 108, 111, 103]⟩ 1 2 (by decide) [] [⟨⟨#[97]⟩, ⟨#[98, 105, 110, 97, 114, 121]⟩⟩, ⟨⟨#[114, 101, 115, 101, 116]⟩, ⟨#[98, 105, 110, 97, 114, 121]⟩⟩] 2 1 pa sa va ps.length pc st.length sc vc st vs dt (form_none ps && poss_count st) V _ _ w (by decide) (by decide) (by intro p hp; simp at hp; rcases hp with rfl | rfl <;> exact kindOk_binary) kindOk_analog hin hV rfl ?_ ?_
  · refine Lib.hid (fun W hW => resume_2 ⟨#[99, 111, 117, 110, 116]⟩ ⟨#[97, 110, 97, 108, 111, 103]⟩ 1 [] [⟨⟨#[97]⟩, ⟨#[98, 105, 110, 97, 114, 121]⟩⟩, ⟨⟨#[114, 101, 115, 101, 116]⟩, ⟨#[98, 105, 110, 97, 114, 121]⟩⟩] (fun _ => true) (by decide +kernel) find_count (agree_count _) pa pc ps (by decide) hwf (by unfold maxLen; decide +kernel) sa sc st (form_none ps) (poss_count st) W (hm.keep hW) (hps.keep hW) (hst.keep hW) (formed_count ps) (fun h => poss_count_at h) ?_)
    intro hF w1 rb a1 c1 a2 c2 ob w5 hr hbW
    have hb := hW.trans (hbW.mono hW.size)
    obtain ⟨rfl, hrng⟩ := form_none_at hF
    exact poss_count_any rb sc sa st _ _ _ _ _ _ w1 hr (hst.keep hb)
  · refine Lib.hid (fun hFP hV1 hok w5 rb a1 c1 a2 c2 ob hrb hb5 w9 ib io ic' hbw hr hs hc hne => ?_)
    rw [Bool.and_eq_true] at hFP
    obtain ⟨hF, hPB⟩ := hFP
    have hb9 := hb5.trans (hbw.mono hb5.size)
    obtain ⟨hd1, hd2, hlen⟩ := hok
    obtain ⟨rfl, hrng⟩ := form_none_at hF
    obtain ⟨x, y, rfl⟩ := poss_count_at hPB
    have hxy : (inZ 0 x 1 && inZ 0 y 1000000000) = true := hPB
    rw [Bool.and_eq_true] at hxy
    have hx := inZ_le hxy.1
    have hy := inZ_le hxy.2
    obtain ⟨v0, v1, rfl⟩ : ∃ z u, vs = [z, u] := by
      match vs, hlen with
      | [z, u], _ => exact ⟨_, _, rfl⟩
    obtain ⟨k0, a⟩ := v0
    obtain ⟨k1, c⟩ := v1
    have i0 := hc 0 _ rfl
    have i1 := hc 1 _ rfl
    exact eval_count rb w5.heap.size ib io ic' _ _ _ _ _ _ a c x y dt (by omega) ⟨by omega, by omega⟩ w9 hr hs hne i0 i1
theorem poss_edge_at {st : List Int} (h : poss_edge st = true) : ∃ x, st = [x] := by
  unfold poss_edge at h
  split at h
  · exact ⟨_, rfl⟩
  · cases h
set_option maxHeartbeats 4000000 in
theorem tstep_edge (pa sa va : Option Addr) (pc sc vc : Nat) (ps st : List Int) (vs : List ValD) (V : Bool) (dt : Int) (w : World) (hm : MaxAt w) (hps : InS w pa ps.length 1 (flat iL ps)) (hwf : ∀ v ∈ ps, (Lit.int .i64 v).wf = true) (hst : InS w sa st.length 1 (flat iL st)) (hin : InS w va vs.length 2 (flat valL vs)) (hV : V = true ↔ ∀ v ∈ vs, fitsB v.k v.n 2 = true) :
    Calls Tryd.prog 11 #[.string ⟨#[101, 100, 103, 101]⟩, .slice pa ps.length pc, .slice sa st.length sc, .slice va vs.length vc, .int .i64 dt] w fun e w' => ∃ v k n, e = .returned (.tuple #[v, .agg #[.int .i64 k, .int .i64 n], .int .i64 (tmE (form_none ps && poss_edge st) [⟨⟨#[97]⟩, ⟨#[98, 105, 110, 97, 114, 121]⟩⟩] vs V dt)]) ∧ TmA w' (tmE (form_none ps && poss_edge st) [⟨⟨#[97]⟩, ⟨#[98, 105, 110, 97, 114, 121]⟩⟩] vs V dt) 2 (edgeN (vs.getD 0 ⟨0, 0⟩).n (st.getD 0 0)) [(vs.getD 0 ⟨0, 0⟩).n] v k n ∧ Below w.heap.size w w' := by
  refine tstep ⟨#[101, 100, 103, 101]⟩ ⟨#[98, 105, 110, 97, 114, 121]⟩ 1 1 (by decide) [] [⟨⟨#[97]⟩, ⟨#[98, 105, 110, 97, 114, 121]⟩⟩] 2 2 pa sa va ps.length pc st.length sc vc st vs dt (form_none ps && poss_edge st) V _ _ w (by decide) (by decide) (by intro p hp; simp at hp; subst hp; exact kindOk_binary) kindOk_binary hin hV rfl ?_ ?_
  · refine Lib.hid (fun W hW => resume_1 ⟨#[101, 100, 103, 101]⟩ ⟨#[98, 105, 110, 97, 114, 121]⟩ 1 [] [⟨⟨#[97]⟩, ⟨#[98, 105, 110, 97, 114, 121]⟩⟩] (fun _ => true) (by decide +kernel) find_edge (agree_edge _) pa pc ps (by decide) hwf (by unfold maxLen; decide +kernel) sa sc st (form_none ps) (poss_edge st) W (hm.keep hW) (hps.keep hW) (hst.keep hW) (formed_edge ps) (fun h => poss_edge_at h) ?_)
    intro hF w1 rb a1 c1 a2 c2 ob w5 hr hbW
    have hb := hW.trans (hbW.mono hW.size)
    obtain ⟨rfl, hrng⟩ := form_none_at hF
    exact poss_edge_any rb sc sa st _ _ _ _ _ _ w1 hr (hst.keep hb)
  · refine Lib.hid (fun hFP hV1 hok w5 rb a1 c1 a2 c2 ob hrb hb5 w9 ib io ic' hbw hr hs hc hne => ?_)
    rw [Bool.and_eq_true] at hFP
    obtain ⟨hF, hPB⟩ := hFP
    have hb9 := hb5.trans (hbw.mono hb5.size)
    obtain ⟨hd1, hd2, hlen⟩ := hok
    obtain ⟨rfl, hrng⟩ := form_none_at hF
    obtain ⟨x, rfl⟩ := poss_edge_at hPB
    have hx := inZ_le (show inZ 0 x 1 = true from hPB)
    obtain ⟨v0, rfl⟩ : ∃ z, vs = [z] := by
      match vs, hlen with
      | [z], _ => exact ⟨_, rfl⟩
    obtain ⟨k0, a⟩ := v0
    have i0 := hc 0 _ rfl
    exact eval_edge rb w5.heap.size 1 ib io ic' _ _ _ _ _ _ a x dt [] (by decide) (by omega) w9 hr hs i0
theorem poss_hyst_at {st : List Int} {p0 : Int} {p1 : Int} (h : poss_hyst p0 p1 st = true) : ∃ x, st = [x] := by
  unfold poss_hyst at h
  split at h
  · exact ⟨_, rfl⟩
  · cases h
set_option maxHeartbeats 4000000 in
theorem tstep_hyst (pa sa va : Option Addr) (pc sc vc : Nat) (ps st : List Int) (vs : List ValD) (V : Bool) (dt : Int) (w : World) (hm : MaxAt w) (hps : InS w pa ps.length 1 (flat iL ps)) (hwf : ∀ v ∈ ps, (Lit.int .i64 v).wf = true) (hst : InS w sa st.length 1 (flat iL st)) (hin : InS w va vs.length 2 (flat valL vs)) (hV : V = true ↔ ∀ v ∈ vs, fitsB v.k v.n 1 = true) :
    Calls Tryd.prog 11 #[.string ⟨#[104, 121, 115, 116]⟩, .slice pa ps.length pc, .slice sa st.length sc, .slice va vs.length vc, .int .i64 dt] w fun e w' => ∃ v k n, e = .returned (.tuple #[v, .agg #[.int .i64 k, .int .i64 n], .int .i64 (tmE (form_hyst ps && poss_hyst (ps.getD 0 0) (ps.getD 1 0) st) [⟨⟨#[97]⟩, ⟨#[85]⟩⟩] vs V dt)]) ∧ TmA w' (tmE (form_hyst ps && poss_hyst (ps.getD 0 0) (ps.getD 1 0) st) [⟨⟨#[97]⟩, ⟨#[85]⟩⟩] vs V dt) 2 (hystN (ps.getD 1 0) (ps.getD 0 0) (vs.getD 0 ⟨0, 0⟩).n (st.getD 0 0)) [hystN (ps.getD 1 0) (ps.getD 0 0) (vs.getD 0 ⟨0, 0⟩).n (st.getD 0 0)] v k n ∧ Below w.heap.size w w' := by
  refine tstep ⟨#[104, 121, 115, 116]⟩ ⟨#[98, 105, 110, 97, 114, 121]⟩ 1 1 (by decide) [⟨⟨#[111, 110]⟩, (-1000000000000), 1000000000000, 1000⟩, ⟨⟨#[111, 102, 102]⟩, (-1000000000000), 1000000000000, 0⟩] [⟨⟨#[97]⟩, ⟨#[85]⟩⟩] 1 2 pa sa va ps.length pc st.length sc vc st vs dt (form_hyst ps && poss_hyst (ps.getD 0 0) (ps.getD 1 0) st) V _ _ w (by decide) (by decide) (by intro p hp; simp at hp; subst hp; exact kindOk_u) kindOk_binary hin hV rfl ?_ ?_
  · refine Lib.hid (fun W hW => resume_1 ⟨#[104, 121, 115, 116]⟩ ⟨#[98, 105, 110, 97, 114, 121]⟩ 1 [⟨⟨#[111, 110]⟩, (-1000000000000), 1000000000000, 1000⟩, ⟨⟨#[111, 102, 102]⟩, (-1000000000000), 1000000000000, 0⟩] [⟨⟨#[97]⟩, ⟨#[85]⟩⟩] agLt (by decide +kernel) find_hyst agree_hyst pa pc ps (by decide) hwf (by unfold maxLen; decide +kernel) sa sc st (form_hyst ps) (poss_hyst (ps.getD 0 0) (ps.getD 1 0) st) W (hm.keep hW) (hps.keep hW) (hst.keep hW) (formed_hyst ps) (fun h => poss_hyst_at h) ?_)
    intro hF w1 rb a1 c1 a2 c2 ob w5 hr hbW
    have hb := hW.trans (hbW.mono hW.size)
    obtain ⟨p0, p1, rfl, hrng⟩ := form_hyst_at hF
    obtain ⟨pb, po, rfl, hpl, hpc⟩ := (show InS w pa 2 1 (flat iL [p0, p1]) from hps).at (xs := [p0, p1]) iL_len (by simp)
    have q0 : w.cell? ⟨pb, po, none⟩ = some (.int .i64 p0) := by have h := hpc 0 _ rfl 0 _ rfl; simpa using h
    have q1 : w.cell? ⟨pb, po + 1, none⟩ = some (.int .i64 p1) := by have h := hpc 1 _ rfl 0 _ rfl; simpa using h
    exact poss_hyst_any rb pb po pc sc sa p0 p1 st _ _ _ _ _ w1 hr (cellB q0 hb) (cellB q1 hb) (hst.keep hb)
  · refine Lib.hid (fun hFP hV1 hok w5 rb a1 c1 a2 c2 ob hrb hb5 w9 ib io ic' hbw hr hs hc hne => ?_)
    rw [Bool.and_eq_true] at hFP
    obtain ⟨hF, hPB⟩ := hFP
    have hb9 := hb5.trans (hbw.mono hb5.size)
    obtain ⟨hd1, hd2, hlen⟩ := hok
    obtain ⟨p0, p1, rfl, hrng⟩ := form_hyst_at hF
    obtain ⟨x, rfl⟩ := poss_hyst_at hPB
    have hx := inZ_le (show inZ 0 x 1 = true from hPB)
    obtain ⟨pb, po, rfl, hpl, hpc⟩ := (show InS w pa 2 1 (flat iL [p0, p1]) from hps).at (xs := [p0, p1]) iL_len (by simp)
    have q0 : w.cell? ⟨pb, po, none⟩ = some (.int .i64 p0) := by have h := hpc 0 _ rfl 0 _ rfl; simpa using h
    have q1 : w.cell? ⟨pb, po + 1, none⟩ = some (.int .i64 p1) := by have h := hpc 1 _ rfl 0 _ rfl; simpa using h
    obtain ⟨v0, rfl⟩ : ∃ z, vs = [z] := by
      match vs, hlen with
      | [z], _ => exact ⟨_, rfl⟩
    obtain ⟨k0, a⟩ := v0
    have i0 := hc 0 _ rfl
    exact eval_hyst rb w5.heap.size 1 pb po pc ib io ic' _ _ _ _ _ p1 p0 a x dt [] (by decide) w9 hr (cellB q0 hb9) (cellB q1 hb9) hs i0
theorem poss_latch_at {st : List Int} (h : poss_latch st = true) : ∃ x, st = [x] := by
  unfold poss_latch at h
  split at h
  · exact ⟨_, rfl⟩
  · cases h
set_option maxHeartbeats 4000000 in
theorem tstep_latch (pa sa va : Option Addr) (pc sc vc : Nat) (ps st : List Int) (vs : List ValD) (V : Bool) (dt : Int) (w : World) (hm : MaxAt w) (hps : InS w pa ps.length 1 (flat iL ps)) (hwf : ∀ v ∈ ps, (Lit.int .i64 v).wf = true) (hst : InS w sa st.length 1 (flat iL st)) (hin : InS w va vs.length 2 (flat valL vs)) (hV : V = true ↔ ∀ v ∈ vs, fitsB v.k v.n 2 = true) :
    Calls Tryd.prog 11 #[.string ⟨#[108, 97, 116, 99, 104]⟩, .slice pa ps.length pc, .slice sa st.length sc, .slice va vs.length vc, .int .i64 dt] w fun e w' => ∃ v k n, e = .returned (.tuple #[v, .agg #[.int .i64 k, .int .i64 n], .int .i64 (tmE (form_none ps && poss_latch st) [⟨⟨#[115, 101, 116]⟩, ⟨#[98, 105, 110, 97, 114, 121]⟩⟩, ⟨⟨#[114, 101, 115, 101, 116]⟩, ⟨#[98, 105, 110, 97, 114, 121]⟩⟩] vs V dt)]) ∧ TmA w' (tmE (form_none ps && poss_latch st) [⟨⟨#[115, 101, 116]⟩, ⟨#[98, 105, 110, 97, 114, 121]⟩⟩, ⟨⟨#[114, 101, 115, 101, 116]⟩, ⟨#[98, 105, 110, 97, 114, 121]⟩⟩] vs V dt) 2 (latchN (vs.getD 0 ⟨0, 0⟩).n (vs.getD 1 ⟨0, 0⟩).n (st.getD 0 0)) [latchN (vs.getD 0 ⟨0, 0⟩).n (vs.getD 1 ⟨0, 0⟩).n (st.getD 0 0)] v k n ∧ Below w.heap.size w w' := by
  refine tstep ⟨#[108, 97, 116, 99, 104]⟩ ⟨#[98, 105, 110, 97, 114, 121]⟩ 1 1 (by decide) [] [⟨⟨#[115, 101, 116]⟩, ⟨#[98, 105, 110, 97, 114, 121]⟩⟩, ⟨⟨#[114, 101, 115, 101, 116]⟩, ⟨#[98, 105, 110, 97, 114, 121]⟩⟩] 2 2 pa sa va ps.length pc st.length sc vc st vs dt (form_none ps && poss_latch st) V _ _ w (by decide) (by decide) (by intro p hp; simp at hp; rcases hp with rfl | rfl <;> exact kindOk_binary) kindOk_binary hin hV rfl ?_ ?_
  · refine Lib.hid (fun W hW => resume_1 ⟨#[108, 97, 116, 99, 104]⟩ ⟨#[98, 105, 110, 97, 114, 121]⟩ 1 [] [⟨⟨#[115, 101, 116]⟩, ⟨#[98, 105, 110, 97, 114, 121]⟩⟩, ⟨⟨#[114, 101, 115, 101, 116]⟩, ⟨#[98, 105, 110, 97, 114, 121]⟩⟩] (fun _ => true) (by decide +kernel) find_latch (agree_latch _) pa pc ps (by decide) hwf (by unfold maxLen; decide +kernel) sa sc st (form_none ps) (poss_latch st) W (hm.keep hW) (hps.keep hW) (hst.keep hW) (formed_latch ps) (fun h => poss_latch_at h) ?_)
    intro hF w1 rb a1 c1 a2 c2 ob w5 hr hbW
    have hb := hW.trans (hbW.mono hW.size)
    obtain ⟨rfl, hrng⟩ := form_none_at hF
    exact poss_latch_any rb sc sa st _ _ _ _ _ _ w1 hr (hst.keep hb)
  · refine Lib.hid (fun hFP hV1 hok w5 rb a1 c1 a2 c2 ob hrb hb5 w9 ib io ic' hbw hr hs hc hne => ?_)
    rw [Bool.and_eq_true] at hFP
    obtain ⟨hF, hPB⟩ := hFP
    have hb9 := hb5.trans (hbw.mono hb5.size)
    obtain ⟨hd1, hd2, hlen⟩ := hok
    obtain ⟨rfl, hrng⟩ := form_none_at hF
    obtain ⟨x, rfl⟩ := poss_latch_at hPB
    have hx := inZ_le (show inZ 0 x 1 = true from hPB)
    obtain ⟨v0, v1, rfl⟩ : ∃ z u, vs = [z, u] := by
      match vs, hlen with
      | [z, u], _ => exact ⟨_, _, rfl⟩
    obtain ⟨k0, a⟩ := v0
    obtain ⟨k1, c⟩ := v1
    have i0 := hc 0 _ rfl
    have i1 := hc 1 _ rfl
    exact eval_latch rb w5.heap.size 1 ib io ic' _ _ _ _ _ _ a c x dt [] (by decide) w9 hr hs hne i0 i1
theorem poss_minrun_at {st : List Int} {p0 : Int} {p1 : Int} (h : poss_minrun p0 p1 st = true) : ∃ x y, st = [x, y] := by
  unfold poss_minrun at h
  split at h
  · exact ⟨_, _, rfl⟩
  · cases h
set_option maxHeartbeats 4000000 in
theorem tstep_minrun (pa sa va : Option Addr) (pc sc vc : Nat) (ps st : List Int) (vs : List ValD) (V : Bool) (dt : Int) (w : World) (hm : MaxAt w) (hps : InS w pa ps.length 1 (flat iL ps)) (hwf : ∀ v ∈ ps, (Lit.int .i64 v).wf = true) (hst : InS w sa st.length 1 (flat iL st)) (hin : InS w va vs.length 2 (flat valL vs)) (hV : V = true ↔ ∀ v ∈ vs, fitsB v.k v.n 2 = true) :
    Calls Tryd.prog 11 #[.string ⟨#[109, 105, 110, 114, 117, 110]⟩, .slice pa ps.length pc, .slice sa st.length sc, .slice va vs.length vc, .int .i64 dt] w fun e w' => ∃ v k n, e = .returned (.tuple #[v, .agg #[.int .i64 k, .int .i64 n], .int .i64 (tmE (form_mr ps && poss_minrun (ps.getD 0 0) (ps.getD 1 0) st) [⟨⟨#[97]⟩, ⟨#[98, 105, 110, 97, 114, 121]⟩⟩] vs V dt)]) ∧ TmA w' (tmE (form_mr ps && poss_minrun (ps.getD 0 0) (ps.getD 1 0) st) [⟨⟨#[97]⟩, ⟨#[98, 105, 110, 97, 114, 121]⟩⟩] vs V dt) 2 (mrS0 (ps.getD 0 0) (ps.getD 1 0) (vs.getD 0 ⟨0, 0⟩).n (st.getD 0 0) (st.getD 1 0) dt) [mrS0 (ps.getD 0 0) (ps.getD 1 0) (vs.getD 0 ⟨0, 0⟩).n (st.getD 0 0) (st.getD 1 0) dt, mrS1 (ps.getD 0 0) (ps.getD 1 0) (vs.getD 0 ⟨0, 0⟩).n (st.getD 0 0) (st.getD 1 0) dt] v k n ∧ Below w.heap.size w w' := by
  refine tstep ⟨#[109, 105, 110, 114, 117, 110]⟩ ⟨#[98, 105, 110, 97, 114, 121]⟩ 1 2 (by decide) [⟨⟨#[111, 110]⟩, 0, 86400, 0⟩, ⟨⟨#[111, 102, 102]⟩, 0, 86400, 0⟩] [⟨⟨#[97]⟩, ⟨#[98, 105, 110, 97, 114, 121]⟩⟩] 2 2 pa sa va ps.length pc st.length sc vc st vs dt (form_mr ps && poss_minrun (ps.getD 0 0) (ps.getD 1 0) st) V _ _ w (by decide) (by decide) (by intro p hp; simp at hp; subst hp; exact kindOk_binary) kindOk_binary hin hV rfl ?_ ?_
  · refine Lib.hid (fun W hW => resume_2 ⟨#[109, 105, 110, 114, 117, 110]⟩ ⟨#[98, 105, 110, 97, 114, 121]⟩ 1 [⟨⟨#[111, 110]⟩, 0, 86400, 0⟩, ⟨⟨#[111, 102, 102]⟩, 0, 86400, 0⟩] [⟨⟨#[97]⟩, ⟨#[98, 105, 110, 97, 114, 121]⟩⟩] (fun _ => true) (by decide +kernel) find_minrun (agree_minrun _) pa pc ps (by decide) hwf (by unfold maxLen; decide +kernel) sa sc st (form_mr ps) (poss_minrun (ps.getD 0 0) (ps.getD 1 0) st) W (hm.keep hW) (hps.keep hW) (hst.keep hW) (formed_minrun ps) (fun h => poss_minrun_at h) ?_)
    intro hF w1 rb a1 c1 a2 c2 ob w5 hr hbW
    have hb := hW.trans (hbW.mono hW.size)
    obtain ⟨p0, p1, rfl, hrng⟩ := form_mr_at hF
    obtain ⟨pb, po, rfl, hpl, hpc⟩ := (show InS w pa 2 1 (flat iL [p0, p1]) from hps).at (xs := [p0, p1]) iL_len (by simp)
    have q0 : w.cell? ⟨pb, po, none⟩ = some (.int .i64 p0) := by have h := hpc 0 _ rfl 0 _ rfl; simpa using h
    have q1 : w.cell? ⟨pb, po + 1, none⟩ = some (.int .i64 p1) := by have h := hpc 1 _ rfl 0 _ rfl; simpa using h
    exact poss_minrun_any rb pb po pc sc w5.heap.size 2 sa p0 p1 st _ _ _ _ w1 hr (cellB q0 hb) (cellB q1 hb) (hst.keep hb)
  · refine Lib.hid (fun hFP hV1 hok w5 rb a1 c1 a2 c2 ob hrb hb5 w9 ib io ic' hbw hr hs hc hne => ?_)
    rw [Bool.and_eq_true] at hFP
    obtain ⟨hF, hPB⟩ := hFP
    have hb9 := hb5.trans (hbw.mono hb5.size)
    obtain ⟨hd1, hd2, hlen⟩ := hok
    obtain ⟨p0, p1, rfl, hrng⟩ := form_mr_at hF
    obtain ⟨x, y, rfl⟩ := poss_minrun_at hPB
    have hxy : (inZ 0 x 1 && inZ 0 y (leastN p0 p1 x)) = true := hPB
    rw [Bool.and_eq_true] at hxy
    have hx := inZ_le hxy.1
    have hy := inZ_le hxy.2
    have hl : 0 ≤ leastN p0 p1 x ∧ leastN p0 p1 x ≤ 86400 := by unfold leastN; split <;> omega
    obtain ⟨pb, po, rfl, hpl, hpc⟩ := (show InS w pa 2 1 (flat iL [p0, p1]) from hps).at (xs := [p0, p1]) iL_len (by simp)
    have q0 : w.cell? ⟨pb, po, none⟩ = some (.int .i64 p0) := by have h := hpc 0 _ rfl 0 _ rfl; simpa using h
    have q1 : w.cell? ⟨pb, po + 1, none⟩ = some (.int .i64 p1) := by have h := hpc 1 _ rfl 0 _ rfl; simpa using h
    obtain ⟨v0, rfl⟩ : ∃ z, vs = [z] := by
      match vs, hlen with
      | [z], _ => exact ⟨_, rfl⟩
    obtain ⟨k0, a⟩ := v0
    have i0 := hc 0 _ rfl
    exact eval_minrun rb w5.heap.size pb po pc ib io ic' _ _ _ _ _ p0 p1 a x y dt (by omega) (by have := hb5.size; omega) ⟨by omega, by omega⟩ ⟨by omega, by omega⟩ w9 hr (cellB q0 hb9) (cellB q1 hb9) hs i0
theorem poss_offdelay_at {st : List Int} {p0 : Int} (h : poss_offdelay p0 st = true) : ∃ x, st = [x] := by
  unfold poss_offdelay at h
  split at h
  · exact ⟨_, rfl⟩
  · cases h
set_option maxHeartbeats 4000000 in
theorem tstep_offdelay (pa sa va : Option Addr) (pc sc vc : Nat) (ps st : List Int) (vs : List ValD) (V : Bool) (dt : Int) (w : World) (hm : MaxAt w) (hps : InS w pa ps.length 1 (flat iL ps)) (hwf : ∀ v ∈ ps, (Lit.int .i64 v).wf = true) (hst : InS w sa st.length 1 (flat iL st)) (hin : InS w va vs.length 2 (flat valL vs)) (hV : V = true ↔ ∀ v ∈ vs, fitsB v.k v.n 2 = true) :
    Calls Tryd.prog 11 #[.string ⟨#[111, 102, 102, 100, 101, 108, 97, 121]⟩, .slice pa ps.length pc, .slice sa st.length sc, .slice va vs.length vc, .int .i64 dt] w fun e w' => ∃ v k n, e = .returned (.tuple #[v, .agg #[.int .i64 k, .int .i64 n], .int .i64 (tmE (form_time ps && poss_offdelay (ps.getD 0 0) st) [⟨⟨#[97]⟩, ⟨#[98, 105, 110, 97, 114, 121]⟩⟩] vs V dt)]) ∧ TmA w' (tmE (form_time ps && poss_offdelay (ps.getD 0 0) st) [⟨⟨#[97]⟩, ⟨#[98, 105, 110, 97, 114, 121]⟩⟩] vs V dt) 2 (offV (vs.getD 0 ⟨0, 0⟩).n (st.getD 0 0) (ps.getD 0 0) dt) [offS (vs.getD 0 ⟨0, 0⟩).n (st.getD 0 0) (ps.getD 0 0) dt] v k n ∧ Below w.heap.size w w' := by
  refine tstep ⟨#[111, 102, 102, 100, 101, 108, 97, 121]⟩ ⟨#[98, 105, 110, 97, 114, 121]⟩ 1 1 (by decide) [⟨⟨#[116, 105, 109, 101]⟩, 0, 86400, 0⟩] [⟨⟨#[97]⟩, ⟨#[98, 105, 110, 97, 114, 121]⟩⟩] 2 2 pa sa va ps.length pc st.length sc vc st vs dt (form_time ps && poss_offdelay (ps.getD 0 0) st) V _ _ w (by decide) (by decide) (by intro p hp; simp at hp; subst hp; exact kindOk_binary) kindOk_binary hin hV rfl ?_ ?_
  · refine Lib.hid (fun W hW => resume_1 ⟨#[111, 102, 102, 100, 101, 108, 97, 121]⟩ ⟨#[98, 105, 110, 97, 114, 121]⟩ 1 [⟨⟨#[116, 105, 109, 101]⟩, 0, 86400, 0⟩] [⟨⟨#[97]⟩, ⟨#[98, 105, 110, 97, 114, 121]⟩⟩] (fun _ => true) (by decide +kernel) find_offdelay (agree_offdelay _) pa pc ps (by decide) hwf (by unfold maxLen; decide +kernel) sa sc st (form_time ps) (poss_offdelay (ps.getD 0 0) st) W (hm.keep hW) (hps.keep hW) (hst.keep hW) (formed_offdelay ps) (fun h => poss_offdelay_at h) ?_)
    intro hF w1 rb a1 c1 a2 c2 ob w5 hr hbW
    have hb := hW.trans (hbW.mono hW.size)
    obtain ⟨p0, rfl, hrng⟩ := form_time_at hF
    obtain ⟨pb, po, rfl, hpl, hpc⟩ := (show InS w pa 1 1 (flat iL [p0]) from hps).at (xs := [p0]) iL_len (by simp)
    have q0 : w.cell? ⟨pb, po, none⟩ = some (.int .i64 p0) := by have h := hpc 0 _ rfl 0 _ rfl; simpa using h
    exact poss_offdelay_any rb pb po pc sc sa p0 st _ _ _ _ _ w1 hr (cellB q0 hb) (hst.keep hb)
  · refine Lib.hid (fun hFP hV1 hok w5 rb a1 c1 a2 c2 ob hrb hb5 w9 ib io ic' hbw hr hs hc hne => ?_)
    rw [Bool.and_eq_true] at hFP
    obtain ⟨hF, hPB⟩ := hFP
    have hb9 := hb5.trans (hbw.mono hb5.size)
    obtain ⟨hd1, hd2, hlen⟩ := hok
    obtain ⟨p0, rfl, hrng⟩ := form_time_at hF
    obtain ⟨x, rfl⟩ := poss_offdelay_at hPB
    have hx := inZ_le (show inZ (-1) x p0 = true from hPB)
    obtain ⟨pb, po, rfl, hpl, hpc⟩ := (show InS w pa 1 1 (flat iL [p0]) from hps).at (xs := [p0]) iL_len (by simp)
    have q0 : w.cell? ⟨pb, po, none⟩ = some (.int .i64 p0) := by have h := hpc 0 _ rfl 0 _ rfl; simpa using h
    obtain ⟨v0, rfl⟩ : ∃ z, vs = [z] := by
      match vs, hlen with
      | [z], _ => exact ⟨_, rfl⟩
    obtain ⟨k0, a⟩ := v0
    have i0 := hc 0 _ rfl
    exact eval_offdelay rb w5.heap.size 1 pb po pc ib io ic' _ _ _ _ _ a x p0 dt [] (by decide) ⟨by omega, by omega⟩ ⟨by omega, by omega⟩ w9 hr (cellB q0 hb9) hs i0
theorem poss_ondelay_at {st : List Int} {p0 : Int} (h : poss_ondelay p0 st = true) : ∃ x, st = [x] := by
  unfold poss_ondelay at h
  split at h
  · exact ⟨_, rfl⟩
  · cases h
set_option maxHeartbeats 4000000 in
theorem tstep_ondelay (pa sa va : Option Addr) (pc sc vc : Nat) (ps st : List Int) (vs : List ValD) (V : Bool) (dt : Int) (w : World) (hm : MaxAt w) (hps : InS w pa ps.length 1 (flat iL ps)) (hwf : ∀ v ∈ ps, (Lit.int .i64 v).wf = true) (hst : InS w sa st.length 1 (flat iL st)) (hin : InS w va vs.length 2 (flat valL vs)) (hV : V = true ↔ ∀ v ∈ vs, fitsB v.k v.n 2 = true) :
    Calls Tryd.prog 11 #[.string ⟨#[111, 110, 100, 101, 108, 97, 121]⟩, .slice pa ps.length pc, .slice sa st.length sc, .slice va vs.length vc, .int .i64 dt] w fun e w' => ∃ v k n, e = .returned (.tuple #[v, .agg #[.int .i64 k, .int .i64 n], .int .i64 (tmE (form_time ps && poss_ondelay (ps.getD 0 0) st) [⟨⟨#[97]⟩, ⟨#[98, 105, 110, 97, 114, 121]⟩⟩] vs V dt)]) ∧ TmA w' (tmE (form_time ps && poss_ondelay (ps.getD 0 0) st) [⟨⟨#[97]⟩, ⟨#[98, 105, 110, 97, 114, 121]⟩⟩] vs V dt) 2 (onV (vs.getD 0 ⟨0, 0⟩).n (st.getD 0 0) (ps.getD 0 0) dt) [onS (vs.getD 0 ⟨0, 0⟩).n (st.getD 0 0) (ps.getD 0 0) dt] v k n ∧ Below w.heap.size w w' := by
  refine tstep ⟨#[111, 110, 100, 101, 108, 97, 121]⟩ ⟨#[98, 105, 110, 97, 114, 121]⟩ 1 1 (by decide) [⟨⟨#[116, 105, 109, 101]⟩, 0, 86400, 0⟩] [⟨⟨#[97]⟩, ⟨#[98, 105, 110, 97, 114, 121]⟩⟩] 2 2 pa sa va ps.length pc st.length sc vc st vs dt (form_time ps && poss_ondelay (ps.getD 0 0) st) V _ _ w (by decide) (by decide) (by intro p hp; simp at hp; subst hp; exact kindOk_binary) kindOk_binary hin hV rfl ?_ ?_
  · refine Lib.hid (fun W hW => resume_1 ⟨#[111, 110, 100, 101, 108, 97, 121]⟩ ⟨#[98, 105, 110, 97, 114, 121]⟩ 1 [⟨⟨#[116, 105, 109, 101]⟩, 0, 86400, 0⟩] [⟨⟨#[97]⟩, ⟨#[98, 105, 110, 97, 114, 121]⟩⟩] (fun _ => true) (by decide +kernel) find_ondelay (agree_ondelay _) pa pc ps (by decide) hwf (by unfold maxLen; decide +kernel) sa sc st (form_time ps) (poss_ondelay (ps.getD 0 0) st) W (hm.keep hW) (hps.keep hW) (hst.keep hW) (formed_ondelay ps) (fun h => poss_ondelay_at h) ?_)
    intro hF w1 rb a1 c1 a2 c2 ob w5 hr hbW
    have hb := hW.trans (hbW.mono hW.size)
    obtain ⟨p0, rfl, hrng⟩ := form_time_at hF
    obtain ⟨pb, po, rfl, hpl, hpc⟩ := (show InS w pa 1 1 (flat iL [p0]) from hps).at (xs := [p0]) iL_len (by simp)
    have q0 : w.cell? ⟨pb, po, none⟩ = some (.int .i64 p0) := by have h := hpc 0 _ rfl 0 _ rfl; simpa using h
    exact poss_ondelay_any rb pb po pc sc sa p0 st _ _ _ _ _ w1 hr (cellB q0 hb) hrng (hst.keep hb)
  · refine Lib.hid (fun hFP hV1 hok w5 rb a1 c1 a2 c2 ob hrb hb5 w9 ib io ic' hbw hr hs hc hne => ?_)
    rw [Bool.and_eq_true] at hFP
    obtain ⟨hF, hPB⟩ := hFP
    have hb9 := hb5.trans (hbw.mono hb5.size)
    obtain ⟨hd1, hd2, hlen⟩ := hok
    obtain ⟨p0, rfl, hrng⟩ := form_time_at hF
    obtain ⟨x, rfl⟩ := poss_ondelay_at hPB
    have hx := inZ_le (show inZ 0 x (p0 + 1) = true from hPB)
    obtain ⟨pb, po, rfl, hpl, hpc⟩ := (show InS w pa 1 1 (flat iL [p0]) from hps).at (xs := [p0]) iL_len (by simp)
    have q0 : w.cell? ⟨pb, po, none⟩ = some (.int .i64 p0) := by have h := hpc 0 _ rfl 0 _ rfl; simpa using h
    obtain ⟨v0, rfl⟩ : ∃ z, vs = [z] := by
      match vs, hlen with
      | [z], _ => exact ⟨_, rfl⟩
    obtain ⟨k0, a⟩ := v0
    have i0 := hc 0 _ rfl
    exact eval_ondelay rb w5.heap.size 1 pb po pc ib io ic' _ _ _ _ _ a x p0 dt [] (by decide) ⟨by omega, by omega⟩ ⟨by omega, by omega⟩ ⟨by omega, by omega⟩ w9 hr (cellB q0 hb9) hs i0
theorem poss_pulse_at {st : List Int} {p0 : Int} (h : poss_pulse p0 st = true) : ∃ x y, st = [x, y] := by
  unfold poss_pulse at h
  split at h
  · exact ⟨_, _, rfl⟩
  · cases h
set_option maxHeartbeats 4000000 in
theorem tstep_pulse (pa sa va : Option Addr) (pc sc vc : Nat) (ps st : List Int) (vs : List ValD) (V : Bool) (dt : Int) (w : World) (hm : MaxAt w) (hps : InS w pa ps.length 1 (flat iL ps)) (hwf : ∀ v ∈ ps, (Lit.int .i64 v).wf = true) (hst : InS w sa st.length 1 (flat iL st)) (hin : InS w va vs.length 2 (flat valL vs)) (hV : V = true ↔ ∀ v ∈ vs, fitsB v.k v.n 2 = true) :
    Calls Tryd.prog 11 #[.string ⟨#[112, 117, 108, 115, 101]⟩, .slice pa ps.length pc, .slice sa st.length sc, .slice va vs.length vc, .int .i64 dt] w fun e w' => ∃ v k n, e = .returned (.tuple #[v, .agg #[.int .i64 k, .int .i64 n], .int .i64 (tmE (form_time ps && poss_pulse (ps.getD 0 0) st) [⟨⟨#[97]⟩, ⟨#[98, 105, 110, 97, 114, 121]⟩⟩] vs V dt)]) ∧ TmA w' (tmE (form_time ps && poss_pulse (ps.getD 0 0) st) [⟨⟨#[97]⟩, ⟨#[98, 105, 110, 97, 114, 121]⟩⟩] vs V dt) 2 (pulV (vs.getD 0 ⟨0, 0⟩).n (st.getD 0 0) (st.getD 1 0) (ps.getD 0 0) dt) [(vs.getD 0 ⟨0, 0⟩).n, pulS (vs.getD 0 ⟨0, 0⟩).n (st.getD 0 0) (st.getD 1 0) (ps.getD 0 0) dt] v k n ∧ Below w.heap.size w w' := by
  refine tstep ⟨#[112, 117, 108, 115, 101]⟩ ⟨#[98, 105, 110, 97, 114, 121]⟩ 1 2 (by decide) [⟨⟨#[116, 105, 109, 101]⟩, 0, 86400, 0⟩] [⟨⟨#[97]⟩, ⟨#[98, 105, 110, 97, 114, 121]⟩⟩] 2 2 pa sa va ps.length pc st.length sc vc st vs dt (form_time ps && poss_pulse (ps.getD 0 0) st) V _ _ w (by decide) (by decide) (by intro p hp; simp at hp; subst hp; exact kindOk_binary) kindOk_binary hin hV rfl ?_ ?_
  · refine Lib.hid (fun W hW => resume_2 ⟨#[112, 117, 108, 115, 101]⟩ ⟨#[98, 105, 110, 97, 114, 121]⟩ 1 [⟨⟨#[116, 105, 109, 101]⟩, 0, 86400, 0⟩] [⟨⟨#[97]⟩, ⟨#[98, 105, 110, 97, 114, 121]⟩⟩] (fun _ => true) (by decide +kernel) find_pulse (agree_pulse _) pa pc ps (by decide) hwf (by unfold maxLen; decide +kernel) sa sc st (form_time ps) (poss_pulse (ps.getD 0 0) st) W (hm.keep hW) (hps.keep hW) (hst.keep hW) (formed_pulse ps) (fun h => poss_pulse_at h) ?_)
    intro hF w1 rb a1 c1 a2 c2 ob w5 hr hbW
    have hb := hW.trans (hbW.mono hW.size)
    obtain ⟨p0, rfl, hrng⟩ := form_time_at hF
    obtain ⟨pb, po, rfl, hpl, hpc⟩ := (show InS w pa 1 1 (flat iL [p0]) from hps).at (xs := [p0]) iL_len (by simp)
    have q0 : w.cell? ⟨pb, po, none⟩ = some (.int .i64 p0) := by have h := hpc 0 _ rfl 0 _ rfl; simpa using h
    exact poss_pulse_any rb pb po pc sc sa p0 st _ _ _ _ _ w1 hr (cellB q0 hb) (hst.keep hb)
  · refine Lib.hid (fun hFP hV1 hok w5 rb a1 c1 a2 c2 ob hrb hb5 w9 ib io ic' hbw hr hs hc hne => ?_)
    rw [Bool.and_eq_true] at hFP
    obtain ⟨hF, hPB⟩ := hFP
    have hb9 := hb5.trans (hbw.mono hb5.size)
    obtain ⟨hd1, hd2, hlen⟩ := hok
    obtain ⟨p0, rfl, hrng⟩ := form_time_at hF
    obtain ⟨x, y, rfl⟩ := poss_pulse_at hPB
    have hxy : (inZ 0 x 1 && inZ 0 y p0) = true := hPB
    rw [Bool.and_eq_true] at hxy
    have hx := inZ_le hxy.1
    have hy := inZ_le hxy.2
    obtain ⟨pb, po, rfl, hpl, hpc⟩ := (show InS w pa 1 1 (flat iL [p0]) from hps).at (xs := [p0]) iL_len (by simp)
    have q0 : w.cell? ⟨pb, po, none⟩ = some (.int .i64 p0) := by have h := hpc 0 _ rfl 0 _ rfl; simpa using h
    obtain ⟨v0, rfl⟩ : ∃ z, vs = [z] := by
      match vs, hlen with
      | [z], _ => exact ⟨_, rfl⟩
    obtain ⟨k0, a⟩ := v0
    have i0 := hc 0 _ rfl
    exact eval_pulse rb w5.heap.size pb po pc ib io ic' _ _ _ _ _ a x y p0 dt (by omega) ⟨by omega, by omega⟩ ⟨by omega, by omega⟩ w9 hr (cellB q0 hb9) hs i0
end Go.Proofs.YtmhfkdnblemfdaaDoor
