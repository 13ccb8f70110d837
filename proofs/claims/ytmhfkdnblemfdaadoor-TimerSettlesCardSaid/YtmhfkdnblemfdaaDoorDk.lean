/- The law Steps of timer. Asked: MaxLen's cell holds some number. -/
import Derived.Test.YtmhfkdnblemfdaaDoorDh
import Derived.Test.YtmhfkdnblemfdaaDoorDi
import Derived.Test.YtmhfkdnblemfdaaDoorDj
namespace Go.Proofs.YtmhfkdnblemfdaaDoor
open Go.RowKit Go.Shelf

set_option linter.unusedVariables false
set_option linter.unusedSimpArgs false
theorem tmE_zero {FP V : Bool} {il : List PortD} {vs : List ValD} {dt : Int} (h : tmE FP il vs V dt = 0) : FP = true ∧ (1 ≤ dt ∧ dt ≤ 86400) ∧ vs.length = il.length ∧ V = true := by
  unfold tmE at h
  split at h
  · omega
  · rename_i h1
    split at h
    · omega
    · rename_i h2
      refine ⟨?_, ?_, ?_, ?_⟩
      · cases FP with
        | true => rfl
        | false => exact absurd (.inl rfl) h1
      · cases hx : inZ 1 dt 86400 with
        | true => exact inZ_le hx
        | false => exact absurd (.inr (.inl hx)) h1
      · by_cases hx : vs.length = il.length
        · exact hx
        · exact absurd (.inr (.inr hx)) h1
      · cases V with
        | true => rfl
        | false => exact absurd rfl h2
theorem fits_at {k n K : Int} (h : fitsB k n K = true) : k = K ∧ (K = 1 ∨ n = 0 ∨ n = 1) := of_decide_eq_true h
set_option maxHeartbeats 2000000 in
theorem possN_count (x y a c dt : Int) (hdt : 1 ≤ dt ∧ dt ≤ 86400) (hx : 0 ≤ x ∧ x ≤ 1) (hy : 0 ≤ y ∧ y ≤ 1000000000) (ha : a = 0 ∨ a = 1) (hc : c = 0 ∨ c = 1) : poss_count [a, cntS a c x y] = true := by
  show (inZ 0 (a) 1 && inZ 0 (cntS a c x y) 1000000000) = true
  rw [Bool.and_eq_true]
  exact ⟨inZ_yes (by ((try unfold cntS at *); (repeat' split) <;> omega)) (by ((try unfold cntS at *); (repeat' split) <;> omega)), inZ_yes (by ((try unfold cntS at *); (repeat' split) <;> omega)) (by ((try unfold cntS at *); (repeat' split) <;> omega))⟩
set_option maxHeartbeats 4000000 in
theorem law_count (pa sa va : Option Addr) (pc sc vc : Nat) (ps st : List Int) (vs : List ValD) (V : Bool) (dt : Int) (w : World) (hm : MaxAt w) (hps : InS w pa ps.length 1 (flat iL ps)) (hwf : ∀ v ∈ ps, (Lit.int .i64 v).wf = true) (hst : InS w sa st.length 1 (flat iL st)) (hin : InS w va vs.length 2 (flat valL vs)) (hV : V = true ↔ ∀ v ∈ vs, fitsB v.k v.n 2 = true) :
    Calls Tryd.prog 3 #[.string ⟨#[99, 111, 117, 110, 116]⟩, .slice pa ps.length pc, .slice sa st.length sc, .slice va vs.length vc, .int .i64 dt] w fun e w' => e = .returned (.bool true) ∧ Below w.heap.size w w' := by
  refine steps_core ⟨#[99, 111, 117, 110, 116]⟩ pa sa va pc sc vc _ _ _ dt (tmE (form_none ps && poss_count st) [⟨⟨#[97]⟩, ⟨#[98, 105, 110, 97, 114, 121]⟩⟩, ⟨⟨#[114, 101, 115, 101, 116]⟩, ⟨#[98, 105, 110, 97, 114, 121]⟩⟩] vs V dt) 1 (1000 * cntS (vs.getD 0 ⟨0, 0⟩).n (vs.getD 1 ⟨0, 0⟩).n (st.getD 0 0) (st.getD 1 0)) [(vs.getD 0 ⟨0, 0⟩).n, cntS (vs.getD 0 ⟨0, 0⟩).n (vs.getD 1 ⟨0, 0⟩).n (st.getD 0 0) (st.getD 1 0)] w hm (by decide +kernel) hps.2.1 hst.2.1 hin.2.1 (Lib.hid (fun W hW => tstep_count pa sa va pc sc vc ps st vs V dt W (hm.keep hW) (hps.keep hW) hwf (hst.keep hW) (hin.keep hW) hV)) (Lib.hid (fun W0 hW0 => rStep_core ⟨#[99, 111, 117, 110, 116]⟩ _ _ _ dt (tmE (form_none ps && poss_count st) [⟨⟨#[97]⟩, ⟨#[98, 105, 110, 97, 114, 121]⟩⟩, ⟨⟨#[114, 101, 115, 101, 116]⟩, ⟨#[98, 105, 110, 97, 114, 121]⟩⟩] vs V dt) 1 (1000 * cntS (vs.getD 0 ⟨0, 0⟩).n (vs.getD 1 ⟨0, 0⟩).n (st.getD 0 0) (st.getD 1 0)) [(vs.getD 0 ⟨0, 0⟩).n, cntS (vs.getD 0 ⟨0, 0⟩).n (vs.getD 1 ⟨0, 0⟩).n (st.getD 0 0) (st.getD 1 0)] 2 (by decide) rfl W0 (Lib.hid (fun W hW => rcheck_count pa sa va pc sc vc ps st vs V dt W ((hps.keep hW0).keep hW) ((hst.keep hW0).keep hW) ((hin.keep hW0).keep hW) hV)) (Lib.hid (fun hz W hW => ?_)))) (Lib.hid (fun hz W v hW hv => ?_))
  · have hW := hW0.trans (hW.mono hW0.size)
    obtain ⟨hFP, hdt, hlen, hV1⟩ := tmE_zero hz
    rw [Bool.and_eq_true] at hFP
    obtain ⟨hF, hPB⟩ := hFP
    obtain ⟨rfl, hrng⟩ := form_none_at hF
    obtain ⟨x, y, rfl⟩ := poss_count_at hPB
    have hxy : (inZ 0 x 1 && inZ 0 y 1000000000) = true := hPB
    rw [Bool.and_eq_true] at hxy
    have hx := inZ_le hxy.1
    have hy := inZ_le hxy.2
    obtain ⟨v0, v1, rfl⟩ : ∃ z u, vs = [z, u] := by
      match vs, hlen with
      | [z, u], _ => exact ⟨_, _, rfl⟩
    obtain ⟨k0, a⟩ := v0
    obtain ⟨k1, c⟩ := v1
    have hfa := fits_at (hV.1 hV1 _ (List.mem_of_getElem? (i := 0) rfl))
    have hfc := fits_at (hV.1 hV1 _ (List.mem_of_getElem? (i := 1) rfl))
    simp only at hfa hfc
    have ha : a = 0 ∨ a = 1 := by omega
    have hc : c = 0 ∨ c = 1 := by omega
    obtain ⟨sb, so, rfl, hsl, hsc⟩ := (show InS w sa 2 1 (flat iL [x, y]) from hst).at (xs := [x, y]) iL_len (by simp)
    have s0 : w.cell? ⟨sb, so, none⟩ = some (.int .i64 x) := by have h := hsc 0 _ rfl 0 _ rfl; simpa using h
    have s1 : w.cell? ⟨sb, so + 1, none⟩ = some (.int .i64 y) := by have h := hsc 1 _ rfl 0 _ rfl; simpa using h
    obtain ⟨vb, vo, rfl, hvl, hvc⟩ := (show InS w va 2 2 (flat valL [⟨k0, a⟩, ⟨k1, c⟩]) from hin).at (xs := [⟨k0, a⟩, ⟨k1, c⟩]) valL_len (by simp)
    have n0 : w.cell? ⟨vb, vo + 1, none⟩ = some (.int .i64 a) := by have h := hvc 0 _ rfl 1 _ rfl; simpa using h
    have n1 : w.cell? ⟨vb, vo + 3, none⟩ = some (.int .i64 c) := by have h := hvc 1 _ rfl 1 _ rfl; simpa using h
    exact rstep_count sb so sc vb vo vc _ x y a c dt W hdt hy  (cellB s0 hW) (cellB s1 hW) (cellB n0 hW) (cellB n1 hW)
  · obtain ⟨a9, c9, rfl, hi9⟩ := hv
    obtain ⟨hFP, hdt, hlen, hV1⟩ := tmE_zero hz
    rw [Bool.and_eq_true] at hFP
    obtain ⟨hF, hPB⟩ := hFP
    obtain ⟨rfl, hrng⟩ := form_none_at hF
    obtain ⟨x, y, rfl⟩ := poss_count_at hPB
    have hxy : (inZ 0 x 1 && inZ 0 y 1000000000) = true := hPB
    rw [Bool.and_eq_true] at hxy
    have hx := inZ_le hxy.1
    have hy := inZ_le hxy.2
    obtain ⟨v0, v1, rfl⟩ : ∃ z u, vs = [z, u] := by
      match vs, hlen with
      | [z, u], _ => exact ⟨_, _, rfl⟩
    obtain ⟨k0, a⟩ := v0
    obtain ⟨k1, c⟩ := v1
    have hfa := fits_at (hV.1 hV1 _ (List.mem_of_getElem? (i := 0) rfl))
    have hfc := fits_at (hV.1 hV1 _ (List.mem_of_getElem? (i := 1) rfl))
    simp only at hfa hfc
    have ha : a = 0 ∨ a = 1 := by omega
    have hc : c = 0 ∨ c = 1 := by omega
    have hq := rposs_count (.slice pa 0 pc) a9 c9 [a, cntS a c x y] W  hi9
    rw [show poss_count [a, cntS a c x y] = true from possN_count x y a c dt hdt hx hy ha hc] at hq
    exact hq
set_option maxHeartbeats 2000000 in
theorem possN_edge (x a dt : Int) (hdt : 1 ≤ dt ∧ dt ≤ 86400) (hx : 0 ≤ x ∧ x ≤ 1) (ha : a = 0 ∨ a = 1) : poss_edge [a] = true := by
  show inZ 0 (a) 1 = true
  exact inZ_yes (by ((repeat' split) <;> omega)) (by ((repeat' split) <;> omega))
set_option maxHeartbeats 4000000 in
theorem law_edge (pa sa va : Option Addr) (pc sc vc : Nat) (ps st : List Int) (vs : List ValD) (V : Bool) (dt : Int) (w : World) (hm : MaxAt w) (hps : InS w pa ps.length 1 (flat iL ps)) (hwf : ∀ v ∈ ps, (Lit.int .i64 v).wf = true) (hst : InS w sa st.length 1 (flat iL st)) (hin : InS w va vs.length 2 (flat valL vs)) (hV : V = true ↔ ∀ v ∈ vs, fitsB v.k v.n 2 = true) :
    Calls Tryd.prog 3 #[.string ⟨#[101, 100, 103, 101]⟩, .slice pa ps.length pc, .slice sa st.length sc, .slice va vs.length vc, .int .i64 dt] w fun e w' => e = .returned (.bool true) ∧ Below w.heap.size w w' := by
  refine steps_core ⟨#[101, 100, 103, 101]⟩ pa sa va pc sc vc _ _ _ dt (tmE (form_none ps && poss_edge st) [⟨⟨#[97]⟩, ⟨#[98, 105, 110, 97, 114, 121]⟩⟩] vs V dt) 2 (edgeN (vs.getD 0 ⟨0, 0⟩).n (st.getD 0 0)) [(vs.getD 0 ⟨0, 0⟩).n] w hm (by decide +kernel) hps.2.1 hst.2.1 hin.2.1 (Lib.hid (fun W hW => tstep_edge pa sa va pc sc vc ps st vs V dt W (hm.keep hW) (hps.keep hW) hwf (hst.keep hW) (hin.keep hW) hV)) (Lib.hid (fun W0 hW0 => rStep_core ⟨#[101, 100, 103, 101]⟩ _ _ _ dt (tmE (form_none ps && poss_edge st) [⟨⟨#[97]⟩, ⟨#[98, 105, 110, 97, 114, 121]⟩⟩] vs V dt) 2 (edgeN (vs.getD 0 ⟨0, 0⟩).n (st.getD 0 0)) [(vs.getD 0 ⟨0, 0⟩).n] 1 (by decide) rfl W0 (Lib.hid (fun W hW => rcheck_edge pa sa va pc sc vc ps st vs V dt W ((hps.keep hW0).keep hW) ((hst.keep hW0).keep hW) ((hin.keep hW0).keep hW) hV)) (Lib.hid (fun hz W hW => ?_)))) (Lib.hid (fun hz W v hW hv => ?_))
  · have hW := hW0.trans (hW.mono hW0.size)
    obtain ⟨hFP, hdt, hlen, hV1⟩ := tmE_zero hz
    rw [Bool.and_eq_true] at hFP
    obtain ⟨hF, hPB⟩ := hFP
    obtain ⟨rfl, hrng⟩ := form_none_at hF
    obtain ⟨x, rfl⟩ := poss_edge_at hPB
    have hx := inZ_le (show inZ 0 x 1 = true from hPB)
    obtain ⟨v0, rfl⟩ : ∃ z, vs = [z] := by
      match vs, hlen with
      | [z], _ => exact ⟨_, rfl⟩
    obtain ⟨k0, a⟩ := v0
    have hfa := fits_at (hV.1 hV1 _ (List.mem_of_getElem? (i := 0) rfl))
    simp only at hfa
    have ha : a = 0 ∨ a = 1 := by omega
    obtain ⟨sb, so, rfl, hsl, hsc⟩ := (show InS w sa 1 1 (flat iL [x]) from hst).at (xs := [x]) iL_len (by simp)
    have s0 : w.cell? ⟨sb, so, none⟩ = some (.int .i64 x) := by have h := hsc 0 _ rfl 0 _ rfl; simpa using h
    obtain ⟨vb, vo, rfl, hvl, hvc⟩ := (show InS w va 1 2 (flat valL [⟨k0, a⟩]) from hin).at (xs := [⟨k0, a⟩]) valL_len (by simp)
    have n0 : w.cell? ⟨vb, vo + 1, none⟩ = some (.int .i64 a) := by have h := hvc 0 _ rfl 1 _ rfl; simpa using h
    exact rstep_edge sb so sc vb vo vc _ x a dt W hdt   (cellB s0 hW) (cellB n0 hW)
  · obtain ⟨a9, c9, rfl, hi9⟩ := hv
    obtain ⟨hFP, hdt, hlen, hV1⟩ := tmE_zero hz
    rw [Bool.and_eq_true] at hFP
    obtain ⟨hF, hPB⟩ := hFP
    obtain ⟨rfl, hrng⟩ := form_none_at hF
    obtain ⟨x, rfl⟩ := poss_edge_at hPB
    have hx := inZ_le (show inZ 0 x 1 = true from hPB)
    obtain ⟨v0, rfl⟩ : ∃ z, vs = [z] := by
      match vs, hlen with
      | [z], _ => exact ⟨_, rfl⟩
    obtain ⟨k0, a⟩ := v0
    have hfa := fits_at (hV.1 hV1 _ (List.mem_of_getElem? (i := 0) rfl))
    simp only at hfa
    have ha : a = 0 ∨ a = 1 := by omega
    have hq := rposs_edge (.slice pa 0 pc) a9 c9 [a] W  hi9
    rw [show poss_edge [a] = true from possN_edge x a dt hdt hx ha] at hq
    exact hq
set_option maxHeartbeats 2000000 in
theorem possN_hyst (p0 p1 x a dt : Int) (hdt : 1 ≤ dt ∧ dt ≤ 86400) (hx : 0 ≤ x ∧ x ≤ 1) : poss_hyst p0 p1 [hystN p1 p0 a x] = true := by
  show inZ 0 (hystN p1 p0 a x) 1 = true
  exact inZ_yes (by ((try unfold hystN at *); (repeat' split) <;> omega)) (by ((try unfold hystN at *); (repeat' split) <;> omega))
set_option maxHeartbeats 4000000 in
theorem law_hyst (pa sa va : Option Addr) (pc sc vc : Nat) (ps st : List Int) (vs : List ValD) (V : Bool) (dt : Int) (w : World) (hm : MaxAt w) (hps : InS w pa ps.length 1 (flat iL ps)) (hwf : ∀ v ∈ ps, (Lit.int .i64 v).wf = true) (hst : InS w sa st.length 1 (flat iL st)) (hin : InS w va vs.length 2 (flat valL vs)) (hV : V = true ↔ ∀ v ∈ vs, fitsB v.k v.n 1 = true) :
    Calls Tryd.prog 3 #[.string ⟨#[104, 121, 115, 116]⟩, .slice pa ps.length pc, .slice sa st.length sc, .slice va vs.length vc, .int .i64 dt] w fun e w' => e = .returned (.bool true) ∧ Below w.heap.size w w' := by
  refine steps_core ⟨#[104, 121, 115, 116]⟩ pa sa va pc sc vc _ _ _ dt (tmE (form_hyst ps && poss_hyst (ps.getD 0 0) (ps.getD 1 0) st) [⟨⟨#[97]⟩, ⟨#[85]⟩⟩] vs V dt) 2 (hystN (ps.getD 1 0) (ps.getD 0 0) (vs.getD 0 ⟨0, 0⟩).n (st.getD 0 0)) [hystN (ps.getD 1 0) (ps.getD 0 0) (vs.getD 0 ⟨0, 0⟩).n (st.getD 0 0)] w hm (by decide +kernel) hps.2.1 hst.2.1 hin.2.1 (Lib.hid (fun W hW => tstep_hyst pa sa va pc sc vc ps st vs V dt W (hm.keep hW) (hps.keep hW) hwf (hst.keep hW) (hin.keep hW) hV)) (Lib.hid (fun W0 hW0 => rStep_core ⟨#[104, 121, 115, 116]⟩ _ _ _ dt (tmE (form_hyst ps && poss_hyst (ps.getD 0 0) (ps.getD 1 0) st) [⟨⟨#[97]⟩, ⟨#[85]⟩⟩] vs V dt) 2 (hystN (ps.getD 1 0) (ps.getD 0 0) (vs.getD 0 ⟨0, 0⟩).n (st.getD 0 0)) [hystN (ps.getD 1 0) (ps.getD 0 0) (vs.getD 0 ⟨0, 0⟩).n (st.getD 0 0)] 1 (by decide) rfl W0 (Lib.hid (fun W hW => rcheck_hyst pa sa va pc sc vc ps st vs V dt W ((hps.keep hW0).keep hW) ((hst.keep hW0).keep hW) ((hin.keep hW0).keep hW) hV)) (Lib.hid (fun hz W hW => ?_)))) (Lib.hid (fun hz W v hW hv => ?_))
  · have hW := hW0.trans (hW.mono hW0.size)
    obtain ⟨hFP, hdt, hlen, hV1⟩ := tmE_zero hz
    rw [Bool.and_eq_true] at hFP
    obtain ⟨hF, hPB⟩ := hFP
    obtain ⟨p0, p1, rfl, hrng⟩ := form_hyst_at hF
    obtain ⟨x, rfl⟩ := poss_hyst_at hPB
    have hx := inZ_le (show inZ 0 x 1 = true from hPB)
    obtain ⟨v0, rfl⟩ : ∃ z, vs = [z] := by
      match vs, hlen with
      | [z], _ => exact ⟨_, rfl⟩
    obtain ⟨k0, a⟩ := v0
    have hfa := fits_at (hV.1 hV1 _ (List.mem_of_getElem? (i := 0) rfl))
    simp only at hfa
    obtain ⟨pb, po, rfl, hpl, hpc⟩ := (show InS w pa 2 1 (flat iL [p0, p1]) from hps).at (xs := [p0, p1]) iL_len (by simp)
    have q0 : w.cell? ⟨pb, po, none⟩ = some (.int .i64 p0) := by have h := hpc 0 _ rfl 0 _ rfl; simpa using h
    have q1 : w.cell? ⟨pb, po + 1, none⟩ = some (.int .i64 p1) := by have h := hpc 1 _ rfl 0 _ rfl; simpa using h
    obtain ⟨sb, so, rfl, hsl, hsc⟩ := (show InS w sa 1 1 (flat iL [x]) from hst).at (xs := [x]) iL_len (by simp)
    have s0 : w.cell? ⟨sb, so, none⟩ = some (.int .i64 x) := by have h := hsc 0 _ rfl 0 _ rfl; simpa using h
    obtain ⟨vb, vo, rfl, hvl, hvc⟩ := (show InS w va 1 2 (flat valL [⟨k0, a⟩]) from hin).at (xs := [⟨k0, a⟩]) valL_len (by simp)
    have n0 : w.cell? ⟨vb, vo + 1, none⟩ = some (.int .i64 a) := by have h := hvc 0 _ rfl 1 _ rfl; simpa using h
    exact rstep_hyst pb po pc sb so sc vb vo vc p0 p1 x a dt W hdt  (cellB q0 hW) (cellB q1 hW) (cellB s0 hW) (cellB n0 hW)
  · obtain ⟨a9, c9, rfl, hi9⟩ := hv
    obtain ⟨hFP, hdt, hlen, hV1⟩ := tmE_zero hz
    rw [Bool.and_eq_true] at hFP
    obtain ⟨hF, hPB⟩ := hFP
    obtain ⟨p0, p1, rfl, hrng⟩ := form_hyst_at hF
    obtain ⟨x, rfl⟩ := poss_hyst_at hPB
    have hx := inZ_le (show inZ 0 x 1 = true from hPB)
    obtain ⟨v0, rfl⟩ : ∃ z, vs = [z] := by
      match vs, hlen with
      | [z], _ => exact ⟨_, rfl⟩
    obtain ⟨k0, a⟩ := v0
    have hfa := fits_at (hV.1 hV1 _ (List.mem_of_getElem? (i := 0) rfl))
    simp only at hfa
    obtain ⟨pb, po, rfl, hpl, hpc⟩ := (show InS w pa 2 1 (flat iL [p0, p1]) from hps).at (xs := [p0, p1]) iL_len (by simp)
    have q0 : w.cell? ⟨pb, po, none⟩ = some (.int .i64 p0) := by have h := hpc 0 _ rfl 0 _ rfl; simpa using h
    have q1 : w.cell? ⟨pb, po + 1, none⟩ = some (.int .i64 p1) := by have h := hpc 1 _ rfl 0 _ rfl; simpa using h
    have hq := rposs_hyst pb po pc p0 p1 a9 c9 [hystN p1 p0 a x] W (cellB q0 hW) (cellB q1 hW) hi9
    rw [show poss_hyst p0 p1 [hystN p1 p0 a x] = true from possN_hyst p0 p1 x a dt hdt hx] at hq
    exact hq
set_option maxHeartbeats 2000000 in
theorem possN_latch (x a c dt : Int) (hdt : 1 ≤ dt ∧ dt ≤ 86400) (hx : 0 ≤ x ∧ x ≤ 1) (ha : a = 0 ∨ a = 1) (hc : c = 0 ∨ c = 1) : poss_latch [latchN a c x] = true := by
  show inZ 0 (latchN a c x) 1 = true
  exact inZ_yes (by ((try unfold latchN at *); (repeat' split) <;> omega)) (by ((try unfold latchN at *); (repeat' split) <;> omega))
set_option maxHeartbeats 4000000 in
theorem law_latch (pa sa va : Option Addr) (pc sc vc : Nat) (ps st : List Int) (vs : List ValD) (V : Bool) (dt : Int) (w : World) (hm : MaxAt w) (hps : InS w pa ps.length 1 (flat iL ps)) (hwf : ∀ v ∈ ps, (Lit.int .i64 v).wf = true) (hst : InS w sa st.length 1 (flat iL st)) (hin : InS w va vs.length 2 (flat valL vs)) (hV : V = true ↔ ∀ v ∈ vs, fitsB v.k v.n 2 = true) :
    Calls Tryd.prog 3 #[.string ⟨#[108, 97, 116, 99, 104]⟩, .slice pa ps.length pc, .slice sa st.length sc, .slice va vs.length vc, .int .i64 dt] w fun e w' => e = .returned (.bool true) ∧ Below w.heap.size w w' := by
  refine steps_core ⟨#[108, 97, 116, 99, 104]⟩ pa sa va pc sc vc _ _ _ dt (tmE (form_none ps && poss_latch st) [⟨⟨#[115, 101, 116]⟩, ⟨#[98, 105, 110, 97, 114, 121]⟩⟩, ⟨⟨#[114, 101, 115, 101, 116]⟩, ⟨#[98, 105, 110, 97, 114, 121]⟩⟩] vs V dt) 2 (latchN (vs.getD 0 ⟨0, 0⟩).n (vs.getD 1 ⟨0, 0⟩).n (st.getD 0 0)) [latchN (vs.getD 0 ⟨0, 0⟩).n (vs.getD 1 ⟨0, 0⟩).n (st.getD 0 0)] w hm (by decide +kernel) hps.2.1 hst.2.1 hin.2.1 (Lib.hid (fun W hW => tstep_latch pa sa va pc sc vc ps st vs V dt W (hm.keep hW) (hps.keep hW) hwf (hst.keep hW) (hin.keep hW) hV)) (Lib.hid (fun W0 hW0 => rStep_core ⟨#[108, 97, 116, 99, 104]⟩ _ _ _ dt (tmE (form_none ps && poss_latch st) [⟨⟨#[115, 101, 116]⟩, ⟨#[98, 105, 110, 97, 114, 121]⟩⟩, ⟨⟨#[114, 101, 115, 101, 116]⟩, ⟨#[98, 105, 110, 97, 114, 121]⟩⟩] vs V dt) 2 (latchN (vs.getD 0 ⟨0, 0⟩).n (vs.getD 1 ⟨0, 0⟩).n (st.getD 0 0)) [latchN (vs.getD 0 ⟨0, 0⟩).n (vs.getD 1 ⟨0, 0⟩).n (st.getD 0 0)] 1 (by decide) rfl W0 (Lib.hid (fun W hW => rcheck_latch pa sa va pc sc vc ps st vs V dt W ((hps.keep hW0).keep hW) ((hst.keep hW0).keep hW) ((hin.keep hW0).keep hW) hV)) (Lib.hid (fun hz W hW => ?_)))) (Lib.hid (fun hz W v hW hv => ?_))
  · have hW := hW0.trans (hW.mono hW0.size)
    obtain ⟨hFP, hdt, hlen, hV1⟩ := tmE_zero hz
    rw [Bool.and_eq_true] at hFP
    obtain ⟨hF, hPB⟩ := hFP
    obtain ⟨rfl, hrng⟩ := form_none_at hF
    obtain ⟨x, rfl⟩ := poss_latch_at hPB
    have hx := inZ_le (show inZ 0 x 1 = true from hPB)
    obtain ⟨v0, v1, rfl⟩ : ∃ z u, vs = [z, u] := by
      match vs, hlen with
      | [z, u], _ => exact ⟨_, _, rfl⟩
    obtain ⟨k0, a⟩ := v0
    obtain ⟨k1, c⟩ := v1
    have hfa := fits_at (hV.1 hV1 _ (List.mem_of_getElem? (i := 0) rfl))
    have hfc := fits_at (hV.1 hV1 _ (List.mem_of_getElem? (i := 1) rfl))
    simp only at hfa hfc
    have ha : a = 0 ∨ a = 1 := by omega
    have hc : c = 0 ∨ c = 1 := by omega
    obtain ⟨sb, so, rfl, hsl, hsc⟩ := (show InS w sa 1 1 (flat iL [x]) from hst).at (xs := [x]) iL_len (by simp)
    have s0 : w.cell? ⟨sb, so, none⟩ = some (.int .i64 x) := by have h := hsc 0 _ rfl 0 _ rfl; simpa using h
    obtain ⟨vb, vo, rfl, hvl, hvc⟩ := (show InS w va 2 2 (flat valL [⟨k0, a⟩, ⟨k1, c⟩]) from hin).at (xs := [⟨k0, a⟩, ⟨k1, c⟩]) valL_len (by simp)
    have n0 : w.cell? ⟨vb, vo + 1, none⟩ = some (.int .i64 a) := by have h := hvc 0 _ rfl 1 _ rfl; simpa using h
    have n1 : w.cell? ⟨vb, vo + 3, none⟩ = some (.int .i64 c) := by have h := hvc 1 _ rfl 1 _ rfl; simpa using h
    exact rstep_latch sb so sc vb vo vc _ x a c dt W hdt   (cellB s0 hW) (cellB n0 hW) (cellB n1 hW)
  · obtain ⟨a9, c9, rfl, hi9⟩ := hv
    obtain ⟨hFP, hdt, hlen, hV1⟩ := tmE_zero hz
    rw [Bool.and_eq_true] at hFP
    obtain ⟨hF, hPB⟩ := hFP
    obtain ⟨rfl, hrng⟩ := form_none_at hF
    obtain ⟨x, rfl⟩ := poss_latch_at hPB
    have hx := inZ_le (show inZ 0 x 1 = true from hPB)
    obtain ⟨v0, v1, rfl⟩ : ∃ z u, vs = [z, u] := by
      match vs, hlen with
      | [z, u], _ => exact ⟨_, _, rfl⟩
    obtain ⟨k0, a⟩ := v0
    obtain ⟨k1, c⟩ := v1
    have hfa := fits_at (hV.1 hV1 _ (List.mem_of_getElem? (i := 0) rfl))
    have hfc := fits_at (hV.1 hV1 _ (List.mem_of_getElem? (i := 1) rfl))
    simp only at hfa hfc
    have ha : a = 0 ∨ a = 1 := by omega
    have hc : c = 0 ∨ c = 1 := by omega
    have hq := rposs_latch (.slice pa 0 pc) a9 c9 [latchN a c x] W  hi9
    rw [show poss_latch [latchN a c x] = true from possN_latch x a c dt hdt hx ha hc] at hq
    exact hq
set_option maxHeartbeats 2000000 in
theorem possN_minrun (p0 p1 x y a dt : Int) (hdt : 1 ≤ dt ∧ dt ≤ 86400) (hr : (0 ≤ p0 ∧ p0 ≤ 86400) ∧ (0 ≤ p1 ∧ p1 ≤ 86400)) (hx : 0 ≤ x ∧ x ≤ 1) (hy : 0 ≤ y ∧ y ≤ leastN p0 p1 x) (ha : a = 0 ∨ a = 1) : poss_minrun p0 p1 [mrS0 p0 p1 a x y dt, mrS1 p0 p1 a x y dt] = true := by
  show (inZ 0 (mrS0 p0 p1 a x y dt) 1 && inZ 0 (mrS1 p0 p1 a x y dt) (leastN p0 p1 (mrS0 p0 p1 a x y dt))) = true
  rw [Bool.and_eq_true]
  exact ⟨inZ_yes (by ((try unfold mrS0 at *); (try unfold mrS1 at *); (try unfold lastsN at *); (try unfold leastN at *); (repeat' split at hy) <;> (repeat' split) <;> omega)) (by ((try unfold mrS0 at *); (try unfold mrS1 at *); (try unfold lastsN at *); (try unfold leastN at *); (repeat' split at hy) <;> (repeat' split) <;> omega)), inZ_yes (by ((try unfold mrS0 at *); (try unfold mrS1 at *); (try unfold lastsN at *); (try unfold leastN at *); (repeat' split at hy) <;> (repeat' split) <;> omega)) (by ((try unfold mrS0 at *); (try unfold mrS1 at *); (try unfold lastsN at *); (try unfold leastN at *); (repeat' split at hy) <;> (repeat' split) <;> omega))⟩
set_option maxHeartbeats 4000000 in
theorem law_minrun (pa sa va : Option Addr) (pc sc vc : Nat) (ps st : List Int) (vs : List ValD) (V : Bool) (dt : Int) (w : World) (hm : MaxAt w) (hps : InS w pa ps.length 1 (flat iL ps)) (hwf : ∀ v ∈ ps, (Lit.int .i64 v).wf = true) (hst : InS w sa st.length 1 (flat iL st)) (hin : InS w va vs.length 2 (flat valL vs)) (hV : V = true ↔ ∀ v ∈ vs, fitsB v.k v.n 2 = true) :
    Calls Tryd.prog 3 #[.string ⟨#[109, 105, 110, 114, 117, 110]⟩, .slice pa ps.length pc, .slice sa st.length sc, .slice va vs.length vc, .int .i64 dt] w fun e w' => e = .returned (.bool true) ∧ Below w.heap.size w w' := by
  refine steps_core ⟨#[109, 105, 110, 114, 117, 110]⟩ pa sa va pc sc vc _ _ _ dt (tmE (form_mr ps && poss_minrun (ps.getD 0 0) (ps.getD 1 0) st) [⟨⟨#[97]⟩, ⟨#[98, 105, 110, 97, 114, 121]⟩⟩] vs V dt) 2 (mrS0 (ps.getD 0 0) (ps.getD 1 0) (vs.getD 0 ⟨0, 0⟩).n (st.getD 0 0) (st.getD 1 0) dt) [mrS0 (ps.getD 0 0) (ps.getD 1 0) (vs.getD 0 ⟨0, 0⟩).n (st.getD 0 0) (st.getD 1 0) dt, mrS1 (ps.getD 0 0) (ps.getD 1 0) (vs.getD 0 ⟨0, 0⟩).n (st.getD 0 0) (st.getD 1 0) dt] w hm (by decide +kernel) hps.2.1 hst.2.1 hin.2.1 (Lib.hid (fun W hW => tstep_minrun pa sa va pc sc vc ps st vs V dt W (hm.keep hW) (hps.keep hW) hwf (hst.keep hW) (hin.keep hW) hV)) (Lib.hid (fun W0 hW0 => rStep_core ⟨#[109, 105, 110, 114, 117, 110]⟩ _ _ _ dt (tmE (form_mr ps && poss_minrun (ps.getD 0 0) (ps.getD 1 0) st) [⟨⟨#[97]⟩, ⟨#[98, 105, 110, 97, 114, 121]⟩⟩] vs V dt) 2 (mrS0 (ps.getD 0 0) (ps.getD 1 0) (vs.getD 0 ⟨0, 0⟩).n (st.getD 0 0) (st.getD 1 0) dt) [mrS0 (ps.getD 0 0) (ps.getD 1 0) (vs.getD 0 ⟨0, 0⟩).n (st.getD 0 0) (st.getD 1 0) dt, mrS1 (ps.getD 0 0) (ps.getD 1 0) (vs.getD 0 ⟨0, 0⟩).n (st.getD 0 0) (st.getD 1 0) dt] 2 (by decide) rfl W0 (Lib.hid (fun W hW => rcheck_minrun pa sa va pc sc vc ps st vs V dt W ((hps.keep hW0).keep hW) ((hst.keep hW0).keep hW) ((hin.keep hW0).keep hW) hV)) (Lib.hid (fun hz W hW => ?_)))) (Lib.hid (fun hz W v hW hv => ?_))
  · have hW := hW0.trans (hW.mono hW0.size)
    obtain ⟨hFP, hdt, hlen, hV1⟩ := tmE_zero hz
    rw [Bool.and_eq_true] at hFP
    obtain ⟨hF, hPB⟩ := hFP
    obtain ⟨p0, p1, rfl, hrng⟩ := form_mr_at hF
    obtain ⟨x, y, rfl⟩ := poss_minrun_at hPB
    have hxy : (inZ 0 x 1 && inZ 0 y (leastN p0 p1 x)) = true := hPB
    rw [Bool.and_eq_true] at hxy
    have hx := inZ_le hxy.1
    have hy := inZ_le hxy.2
    obtain ⟨v0, rfl⟩ : ∃ z, vs = [z] := by
      match vs, hlen with
      | [z], _ => exact ⟨_, rfl⟩
    obtain ⟨k0, a⟩ := v0
    have hfa := fits_at (hV.1 hV1 _ (List.mem_of_getElem? (i := 0) rfl))
    simp only at hfa
    have ha : a = 0 ∨ a = 1 := by omega
    obtain ⟨pb, po, rfl, hpl, hpc⟩ := (show InS w pa 2 1 (flat iL [p0, p1]) from hps).at (xs := [p0, p1]) iL_len (by simp)
    have q0 : w.cell? ⟨pb, po, none⟩ = some (.int .i64 p0) := by have h := hpc 0 _ rfl 0 _ rfl; simpa using h
    have q1 : w.cell? ⟨pb, po + 1, none⟩ = some (.int .i64 p1) := by have h := hpc 1 _ rfl 0 _ rfl; simpa using h
    obtain ⟨sb, so, rfl, hsl, hsc⟩ := (show InS w sa 2 1 (flat iL [x, y]) from hst).at (xs := [x, y]) iL_len (by simp)
    have s0 : w.cell? ⟨sb, so, none⟩ = some (.int .i64 x) := by have h := hsc 0 _ rfl 0 _ rfl; simpa using h
    have s1 : w.cell? ⟨sb, so + 1, none⟩ = some (.int .i64 y) := by have h := hsc 1 _ rfl 0 _ rfl; simpa using h
    obtain ⟨vb, vo, rfl, hvl, hvc⟩ := (show InS w va 1 2 (flat valL [⟨k0, a⟩]) from hin).at (xs := [⟨k0, a⟩]) valL_len (by simp)
    have n0 : w.cell? ⟨vb, vo + 1, none⟩ = some (.int .i64 a) := by have h := hvc 0 _ rfl 1 _ rfl; simpa using h
    exact rstep_minrun pb po pc sb so sc vb vo vc p0 p1 x y a dt W hdt hrng hy (cellB q0 hW) (cellB q1 hW) (cellB s0 hW) (cellB s1 hW) (cellB n0 hW)
  · obtain ⟨a9, c9, rfl, hi9⟩ := hv
    obtain ⟨hFP, hdt, hlen, hV1⟩ := tmE_zero hz
    rw [Bool.and_eq_true] at hFP
    obtain ⟨hF, hPB⟩ := hFP
    obtain ⟨p0, p1, rfl, hrng⟩ := form_mr_at hF
    obtain ⟨x, y, rfl⟩ := poss_minrun_at hPB
    have hxy : (inZ 0 x 1 && inZ 0 y (leastN p0 p1 x)) = true := hPB
    rw [Bool.and_eq_true] at hxy
    have hx := inZ_le hxy.1
    have hy := inZ_le hxy.2
    obtain ⟨v0, rfl⟩ : ∃ z, vs = [z] := by
      match vs, hlen with
      | [z], _ => exact ⟨_, rfl⟩
    obtain ⟨k0, a⟩ := v0
    have hfa := fits_at (hV.1 hV1 _ (List.mem_of_getElem? (i := 0) rfl))
    simp only at hfa
    have ha : a = 0 ∨ a = 1 := by omega
    obtain ⟨pb, po, rfl, hpl, hpc⟩ := (show InS w pa 2 1 (flat iL [p0, p1]) from hps).at (xs := [p0, p1]) iL_len (by simp)
    have q0 : w.cell? ⟨pb, po, none⟩ = some (.int .i64 p0) := by have h := hpc 0 _ rfl 0 _ rfl; simpa using h
    have q1 : w.cell? ⟨pb, po + 1, none⟩ = some (.int .i64 p1) := by have h := hpc 1 _ rfl 0 _ rfl; simpa using h
    have hq := rposs_minrun pb po pc p0 p1 a9 c9 [mrS0 p0 p1 a x y dt, mrS1 p0 p1 a x y dt] W (cellB q0 hW) (cellB q1 hW) hi9
    rw [show poss_minrun p0 p1 [mrS0 p0 p1 a x y dt, mrS1 p0 p1 a x y dt] = true from possN_minrun p0 p1 x y a dt hdt hrng hx hy ha] at hq
    exact hq
set_option maxHeartbeats 2000000 in
theorem possN_offdelay (p0 x a dt : Int) (hdt : 1 ≤ dt ∧ dt ≤ 86400) (hr : 0 ≤ p0 ∧ p0 ≤ 86400) (hx : -1 ≤ x ∧ x ≤ p0) (ha : a = 0 ∨ a = 1) : poss_offdelay p0 [offS a x p0 dt] = true := by
  show inZ (-1) (offS a x p0 dt) p0 = true
  exact inZ_yes (by ((try unfold offS at *); (try unfold lastsN at *); (repeat' split) <;> omega)) (by ((try unfold offS at *); (try unfold lastsN at *); (repeat' split) <;> omega))
set_option maxHeartbeats 4000000 in
theorem law_offdelay (pa sa va : Option Addr) (pc sc vc : Nat) (ps st : List Int) (vs : List ValD) (V : Bool) (dt : Int) (w : World) (hm : MaxAt w) (hps : InS w pa ps.length 1 (flat iL ps)) (hwf : ∀ v ∈ ps, (Lit.int .i64 v).wf = true) (hst : InS w sa st.length 1 (flat iL st)) (hin : InS w va vs.length 2 (flat valL vs)) (hV : V = true ↔ ∀ v ∈ vs, fitsB v.k v.n 2 = true) :
    Calls Tryd.prog 3 #[.string ⟨#[111, 102, 102, 100, 101, 108, 97, 121]⟩, .slice pa ps.length pc, .slice sa st.length sc, .slice va vs.length vc, .int .i64 dt] w fun e w' => e = .returned (.bool true) ∧ Below w.heap.size w w' := by
  refine steps_core ⟨#[111, 102, 102, 100, 101, 108, 97, 121]⟩ pa sa va pc sc vc _ _ _ dt (tmE (form_time ps && poss_offdelay (ps.getD 0 0) st) [⟨⟨#[97]⟩, ⟨#[98, 105, 110, 97, 114, 121]⟩⟩] vs V dt) 2 (offV (vs.getD 0 ⟨0, 0⟩).n (st.getD 0 0) (ps.getD 0 0) dt) [offS (vs.getD 0 ⟨0, 0⟩).n (st.getD 0 0) (ps.getD 0 0) dt] w hm (by decide +kernel) hps.2.1 hst.2.1 hin.2.1 (Lib.hid (fun W hW => tstep_offdelay pa sa va pc sc vc ps st vs V dt W (hm.keep hW) (hps.keep hW) hwf (hst.keep hW) (hin.keep hW) hV)) (Lib.hid (fun W0 hW0 => rStep_core ⟨#[111, 102, 102, 100, 101, 108, 97, 121]⟩ _ _ _ dt (tmE (form_time ps && poss_offdelay (ps.getD 0 0) st) [⟨⟨#[97]⟩, ⟨#[98, 105, 110, 97, 114, 121]⟩⟩] vs V dt) 2 (offV (vs.getD 0 ⟨0, 0⟩).n (st.getD 0 0) (ps.getD 0 0) dt) [offS (vs.getD 0 ⟨0, 0⟩).n (st.getD 0 0) (ps.getD 0 0) dt] 1 (by decide) rfl W0 (Lib.hid (fun W hW => rcheck_offdelay pa sa va pc sc vc ps st vs V dt W ((hps.keep hW0).keep hW) ((hst.keep hW0).keep hW) ((hin.keep hW0).keep hW) hV)) (Lib.hid (fun hz W hW => ?_)))) (Lib.hid (fun hz W v hW hv => ?_))
  · have hW := hW0.trans (hW.mono hW0.size)
    obtain ⟨hFP, hdt, hlen, hV1⟩ := tmE_zero hz
    rw [Bool.and_eq_true] at hFP
    obtain ⟨hF, hPB⟩ := hFP
    obtain ⟨p0, rfl, hrng⟩ := form_time_at hF
    obtain ⟨x, rfl⟩ := poss_offdelay_at hPB
    have hx := inZ_le (show inZ (-1) x p0 = true from hPB)
    obtain ⟨v0, rfl⟩ : ∃ z, vs = [z] := by
      match vs, hlen with
      | [z], _ => exact ⟨_, rfl⟩
    obtain ⟨k0, a⟩ := v0
    have hfa := fits_at (hV.1 hV1 _ (List.mem_of_getElem? (i := 0) rfl))
    simp only at hfa
    have ha : a = 0 ∨ a = 1 := by omega
    obtain ⟨pb, po, rfl, hpl, hpc⟩ := (show InS w pa 1 1 (flat iL [p0]) from hps).at (xs := [p0]) iL_len (by simp)
    have q0 : w.cell? ⟨pb, po, none⟩ = some (.int .i64 p0) := by have h := hpc 0 _ rfl 0 _ rfl; simpa using h
    obtain ⟨sb, so, rfl, hsl, hsc⟩ := (show InS w sa 1 1 (flat iL [x]) from hst).at (xs := [x]) iL_len (by simp)
    have s0 : w.cell? ⟨sb, so, none⟩ = some (.int .i64 x) := by have h := hsc 0 _ rfl 0 _ rfl; simpa using h
    obtain ⟨vb, vo, rfl, hvl, hvc⟩ := (show InS w va 1 2 (flat valL [⟨k0, a⟩]) from hin).at (xs := [⟨k0, a⟩]) valL_len (by simp)
    have n0 : w.cell? ⟨vb, vo + 1, none⟩ = some (.int .i64 a) := by have h := hvc 0 _ rfl 1 _ rfl; simpa using h
    exact rstep_offdelay pb po pc sb so sc vb vo vc p0 x a dt W hdt hrng hx (cellB q0 hW) (cellB s0 hW) (cellB n0 hW)
  · obtain ⟨a9, c9, rfl, hi9⟩ := hv
    obtain ⟨hFP, hdt, hlen, hV1⟩ := tmE_zero hz
    rw [Bool.and_eq_true] at hFP
    obtain ⟨hF, hPB⟩ := hFP
    obtain ⟨p0, rfl, hrng⟩ := form_time_at hF
    obtain ⟨x, rfl⟩ := poss_offdelay_at hPB
    have hx := inZ_le (show inZ (-1) x p0 = true from hPB)
    obtain ⟨v0, rfl⟩ : ∃ z, vs = [z] := by
      match vs, hlen with
      | [z], _ => exact ⟨_, rfl⟩
    obtain ⟨k0, a⟩ := v0
    have hfa := fits_at (hV.1 hV1 _ (List.mem_of_getElem? (i := 0) rfl))
    simp only at hfa
    have ha : a = 0 ∨ a = 1 := by omega
    obtain ⟨pb, po, rfl, hpl, hpc⟩ := (show InS w pa 1 1 (flat iL [p0]) from hps).at (xs := [p0]) iL_len (by simp)
    have q0 : w.cell? ⟨pb, po, none⟩ = some (.int .i64 p0) := by have h := hpc 0 _ rfl 0 _ rfl; simpa using h
    have hq := rposs_offdelay pb po pc p0 a9 c9 [offS a x p0 dt] W (cellB q0 hW) hi9
    rw [show poss_offdelay p0 [offS a x p0 dt] = true from possN_offdelay p0 x a dt hdt hrng hx ha] at hq
    exact hq
set_option maxHeartbeats 2000000 in
theorem possN_ondelay (p0 x a dt : Int) (hdt : 1 ≤ dt ∧ dt ≤ 86400) (hr : 0 ≤ p0 ∧ p0 ≤ 86400) (hx : 0 ≤ x ∧ x ≤ p0 + 1) (ha : a = 0 ∨ a = 1) : poss_ondelay p0 [onS a x p0 dt] = true := by
  show inZ 0 (onS a x p0 dt) (p0 + 1) = true
  exact inZ_yes (by ((try unfold onS at *); (repeat' split) <;> omega)) (by ((try unfold onS at *); (repeat' split) <;> omega))
set_option maxHeartbeats 4000000 in
theorem law_ondelay (pa sa va : Option Addr) (pc sc vc : Nat) (ps st : List Int) (vs : List ValD) (V : Bool) (dt : Int) (w : World) (hm : MaxAt w) (hps : InS w pa ps.length 1 (flat iL ps)) (hwf : ∀ v ∈ ps, (Lit.int .i64 v).wf = true) (hst : InS w sa st.length 1 (flat iL st)) (hin : InS w va vs.length 2 (flat valL vs)) (hV : V = true ↔ ∀ v ∈ vs, fitsB v.k v.n 2 = true) :
    Calls Tryd.prog 3 #[.string ⟨#[111, 110, 100, 101, 108, 97, 121]⟩, .slice pa ps.length pc, .slice sa st.length sc, .slice va vs.length vc, .int .i64 dt] w fun e w' => e = .returned (.bool true) ∧ Below w.heap.size w w' := by
  refine steps_core ⟨#[111, 110, 100, 101, 108, 97, 121]⟩ pa sa va pc sc vc _ _ _ dt (tmE (form_time ps && poss_ondelay (ps.getD 0 0) st) [⟨⟨#[97]⟩, ⟨#[98, 105, 110, 97, 114, 121]⟩⟩] vs V dt) 2 (onV (vs.getD 0 ⟨0, 0⟩).n (st.getD 0 0) (ps.getD 0 0) dt) [onS (vs.getD 0 ⟨0, 0⟩).n (st.getD 0 0) (ps.getD 0 0) dt] w hm (by decide +kernel) hps.2.1 hst.2.1 hin.2.1 (Lib.hid (fun W hW => tstep_ondelay pa sa va pc sc vc ps st vs V dt W (hm.keep hW) (hps.keep hW) hwf (hst.keep hW) (hin.keep hW) hV)) (Lib.hid (fun W0 hW0 => rStep_core ⟨#[111, 110, 100, 101, 108, 97, 121]⟩ _ _ _ dt (tmE (form_time ps && poss_ondelay (ps.getD 0 0) st) [⟨⟨#[97]⟩, ⟨#[98, 105, 110, 97, 114, 121]⟩⟩] vs V dt) 2 (onV (vs.getD 0 ⟨0, 0⟩).n (st.getD 0 0) (ps.getD 0 0) dt) [onS (vs.getD 0 ⟨0, 0⟩).n (st.getD 0 0) (ps.getD 0 0) dt] 1 (by decide) rfl W0 (Lib.hid (fun W hW => rcheck_ondelay pa sa va pc sc vc ps st vs V dt W ((hps.keep hW0).keep hW) ((hst.keep hW0).keep hW) ((hin.keep hW0).keep hW) hV)) (Lib.hid (fun hz W hW => ?_)))) (Lib.hid (fun hz W v hW hv => ?_))
  · have hW := hW0.trans (hW.mono hW0.size)
    obtain ⟨hFP, hdt, hlen, hV1⟩ := tmE_zero hz
    rw [Bool.and_eq_true] at hFP
    obtain ⟨hF, hPB⟩ := hFP
    obtain ⟨p0, rfl, hrng⟩ := form_time_at hF
    obtain ⟨x, rfl⟩ := poss_ondelay_at hPB
    have hx := inZ_le (show inZ 0 x (p0 + 1) = true from hPB)
    obtain ⟨v0, rfl⟩ : ∃ z, vs = [z] := by
      match vs, hlen with
      | [z], _ => exact ⟨_, rfl⟩
    obtain ⟨k0, a⟩ := v0
    have hfa := fits_at (hV.1 hV1 _ (List.mem_of_getElem? (i := 0) rfl))
    simp only at hfa
    have ha : a = 0 ∨ a = 1 := by omega
    obtain ⟨pb, po, rfl, hpl, hpc⟩ := (show InS w pa 1 1 (flat iL [p0]) from hps).at (xs := [p0]) iL_len (by simp)
    have q0 : w.cell? ⟨pb, po, none⟩ = some (.int .i64 p0) := by have h := hpc 0 _ rfl 0 _ rfl; simpa using h
    obtain ⟨sb, so, rfl, hsl, hsc⟩ := (show InS w sa 1 1 (flat iL [x]) from hst).at (xs := [x]) iL_len (by simp)
    have s0 : w.cell? ⟨sb, so, none⟩ = some (.int .i64 x) := by have h := hsc 0 _ rfl 0 _ rfl; simpa using h
    obtain ⟨vb, vo, rfl, hvl, hvc⟩ := (show InS w va 1 2 (flat valL [⟨k0, a⟩]) from hin).at (xs := [⟨k0, a⟩]) valL_len (by simp)
    have n0 : w.cell? ⟨vb, vo + 1, none⟩ = some (.int .i64 a) := by have h := hvc 0 _ rfl 1 _ rfl; simpa using h
    exact rstep_ondelay pb po pc sb so sc vb vo vc p0 x a dt W hdt hrng hx ha (cellB q0 hW) (cellB s0 hW) (cellB n0 hW)
  · obtain ⟨a9, c9, rfl, hi9⟩ := hv
    obtain ⟨hFP, hdt, hlen, hV1⟩ := tmE_zero hz
    rw [Bool.and_eq_true] at hFP
    obtain ⟨hF, hPB⟩ := hFP
    obtain ⟨p0, rfl, hrng⟩ := form_time_at hF
    obtain ⟨x, rfl⟩ := poss_ondelay_at hPB
    have hx := inZ_le (show inZ 0 x (p0 + 1) = true from hPB)
    obtain ⟨v0, rfl⟩ : ∃ z, vs = [z] := by
      match vs, hlen with
      | [z], _ => exact ⟨_, rfl⟩
    obtain ⟨k0, a⟩ := v0
    have hfa := fits_at (hV.1 hV1 _ (List.mem_of_getElem? (i := 0) rfl))
    simp only at hfa
    have ha : a = 0 ∨ a = 1 := by omega
    obtain ⟨pb, po, rfl, hpl, hpc⟩ := (show InS w pa 1 1 (flat iL [p0]) from hps).at (xs := [p0]) iL_len (by simp)
    have q0 : w.cell? ⟨pb, po, none⟩ = some (.int .i64 p0) := by have h := hpc 0 _ rfl 0 _ rfl; simpa using h
    have hq := rposs_ondelay pb po pc p0 a9 c9 [onS a x p0 dt] W (cellB q0 hW) hrng hi9
    rw [show poss_ondelay p0 [onS a x p0 dt] = true from possN_ondelay p0 x a dt hdt hrng hx ha] at hq
    exact hq
set_option maxHeartbeats 2000000 in
theorem possN_pulse (p0 x y a dt : Int) (hdt : 1 ≤ dt ∧ dt ≤ 86400) (hr : 0 ≤ p0 ∧ p0 ≤ 86400) (hx : 0 ≤ x ∧ x ≤ 1) (hy : 0 ≤ y ∧ y ≤ p0) (ha : a = 0 ∨ a = 1) : poss_pulse p0 [a, pulS a x y p0 dt] = true := by
  show (inZ 0 (a) 1 && inZ 0 (pulS a x y p0 dt) p0) = true
  rw [Bool.and_eq_true]
  exact ⟨inZ_yes (by ((try unfold pulS at *); (try unfold lastsN at *); (repeat' split) <;> omega)) (by ((try unfold pulS at *); (try unfold lastsN at *); (repeat' split) <;> omega)), inZ_yes (by ((try unfold pulS at *); (try unfold lastsN at *); (repeat' split) <;> omega)) (by ((try unfold pulS at *); (try unfold lastsN at *); (repeat' split) <;> omega))⟩
set_option maxHeartbeats 4000000 in
theorem law_pulse (pa sa va : Option Addr) (pc sc vc : Nat) (ps st : List Int) (vs : List ValD) (V : Bool) (dt : Int) (w : World) (hm : MaxAt w) (hps : InS w pa ps.length 1 (flat iL ps)) (hwf : ∀ v ∈ ps, (Lit.int .i64 v).wf = true) (hst : InS w sa st.length 1 (flat iL st)) (hin : InS w va vs.length 2 (flat valL vs)) (hV : V = true ↔ ∀ v ∈ vs, fitsB v.k v.n 2 = true) :
    Calls Tryd.prog 3 #[.string ⟨#[112, 117, 108, 115, 101]⟩, .slice pa ps.length pc, .slice sa st.length sc, .slice va vs.length vc, .int .i64 dt] w fun e w' => e = .returned (.bool true) ∧ Below w.heap.size w w' := by
  refine steps_core ⟨#[112, 117, 108, 115, 101]⟩ pa sa va pc sc vc _ _ _ dt (tmE (form_time ps && poss_pulse (ps.getD 0 0) st) [⟨⟨#[97]⟩, ⟨#[98, 105, 110, 97, 114, 121]⟩⟩] vs V dt) 2 (pulV (vs.getD 0 ⟨0, 0⟩).n (st.getD 0 0) (st.getD 1 0) (ps.getD 0 0) dt) [(vs.getD 0 ⟨0, 0⟩).n, pulS (vs.getD 0 ⟨0, 0⟩).n (st.getD 0 0) (st.getD 1 0) (ps.getD 0 0) dt] w hm (by decide +kernel) hps.2.1 hst.2.1 hin.2.1 (Lib.hid (fun W hW => tstep_pulse pa sa va pc sc vc ps st vs V dt W (hm.keep hW) (hps.keep hW) hwf (hst.keep hW) (hin.keep hW) hV)) (Lib.hid (fun W0 hW0 => rStep_core ⟨#[112, 117, 108, 115, 101]⟩ _ _ _ dt (tmE (form_time ps && poss_pulse (ps.getD 0 0) st) [⟨⟨#[97]⟩, ⟨#[98, 105, 110, 97, 114, 121]⟩⟩] vs V dt) 2 (pulV (vs.getD 0 ⟨0, 0⟩).n (st.getD 0 0) (st.getD 1 0) (ps.getD 0 0) dt) [(vs.getD 0 ⟨0, 0⟩).n, pulS (vs.getD 0 ⟨0, 0⟩).n (st.getD 0 0) (st.getD 1 0) (ps.getD 0 0) dt] 2 (by decide) rfl W0 (Lib.hid (fun W hW => rcheck_pulse pa sa va pc sc vc ps st vs V dt W ((hps.keep hW0).keep hW) ((hst.keep hW0).keep hW) ((hin.keep hW0).keep hW) hV)) (Lib.hid (fun hz W hW => ?_)))) (Lib.hid (fun hz W v hW hv => ?_))
  · have hW := hW0.trans (hW.mono hW0.size)
    obtain ⟨hFP, hdt, hlen, hV1⟩ := tmE_zero hz
    rw [Bool.and_eq_true] at hFP
    obtain ⟨hF, hPB⟩ := hFP
    obtain ⟨p0, rfl, hrng⟩ := form_time_at hF
    obtain ⟨x, y, rfl⟩ := poss_pulse_at hPB
    have hxy : (inZ 0 x 1 && inZ 0 y p0) = true := hPB
    rw [Bool.and_eq_true] at hxy
    have hx := inZ_le hxy.1
    have hy := inZ_le hxy.2
    obtain ⟨v0, rfl⟩ : ∃ z, vs = [z] := by
      match vs, hlen with
      | [z], _ => exact ⟨_, rfl⟩
    obtain ⟨k0, a⟩ := v0
    have hfa := fits_at (hV.1 hV1 _ (List.mem_of_getElem? (i := 0) rfl))
    simp only at hfa
    have ha : a = 0 ∨ a = 1 := by omega
    obtain ⟨pb, po, rfl, hpl, hpc⟩ := (show InS w pa 1 1 (flat iL [p0]) from hps).at (xs := [p0]) iL_len (by simp)
    have q0 : w.cell? ⟨pb, po, none⟩ = some (.int .i64 p0) := by have h := hpc 0 _ rfl 0 _ rfl; simpa using h
    obtain ⟨sb, so, rfl, hsl, hsc⟩ := (show InS w sa 2 1 (flat iL [x, y]) from hst).at (xs := [x, y]) iL_len (by simp)
    have s0 : w.cell? ⟨sb, so, none⟩ = some (.int .i64 x) := by have h := hsc 0 _ rfl 0 _ rfl; simpa using h
    have s1 : w.cell? ⟨sb, so + 1, none⟩ = some (.int .i64 y) := by have h := hsc 1 _ rfl 0 _ rfl; simpa using h
    obtain ⟨vb, vo, rfl, hvl, hvc⟩ := (show InS w va 1 2 (flat valL [⟨k0, a⟩]) from hin).at (xs := [⟨k0, a⟩]) valL_len (by simp)
    have n0 : w.cell? ⟨vb, vo + 1, none⟩ = some (.int .i64 a) := by have h := hvc 0 _ rfl 1 _ rfl; simpa using h
    exact rstep_pulse pb po pc sb so sc vb vo vc p0 x y a dt W hdt hrng hy (cellB q0 hW) (cellB s0 hW) (cellB s1 hW) (cellB n0 hW)
  · obtain ⟨a9, c9, rfl, hi9⟩ := hv
    obtain ⟨hFP, hdt, hlen, hV1⟩ := tmE_zero hz
    rw [Bool.and_eq_true] at hFP
    obtain ⟨hF, hPB⟩ := hFP
    obtain ⟨p0, rfl, hrng⟩ := form_time_at hF
    obtain ⟨x, y, rfl⟩ := poss_pulse_at hPB
    have hxy : (inZ 0 x 1 && inZ 0 y p0) = true := hPB
    rw [Bool.and_eq_true] at hxy
    have hx := inZ_le hxy.1
    have hy := inZ_le hxy.2
    obtain ⟨v0, rfl⟩ : ∃ z, vs = [z] := by
      match vs, hlen with
      | [z], _ => exact ⟨_, rfl⟩
    obtain ⟨k0, a⟩ := v0
    have hfa := fits_at (hV.1 hV1 _ (List.mem_of_getElem? (i := 0) rfl))
    simp only at hfa
    have ha : a = 0 ∨ a = 1 := by omega
    obtain ⟨pb, po, rfl, hpl, hpc⟩ := (show InS w pa 1 1 (flat iL [p0]) from hps).at (xs := [p0]) iL_len (by simp)
    have q0 : w.cell? ⟨pb, po, none⟩ = some (.int .i64 p0) := by have h := hpc 0 _ rfl 0 _ rfl; simpa using h
    have hq := rposs_pulse pb po pc p0 a9 c9 [a, pulS a x y p0 dt] W (cellB q0 hW) hi9
    rw [show poss_pulse p0 [a, pulS a x y p0 dt] = true from possN_pulse p0 x y a dt hdt hrng hx hy ha] at hq
    exact hq
theorem begin_other (s : ByteArray) (hs : (timerNames.any fun x => eqS x s) = false) (v : Value) (w : World) : Calls Tryd.prog 29 #[.string s, v] w fun e w' => e = .returned (.tuple #[.pointer none, .int .i64 3]) ∧ Below w.heap.size w w' := by
  go_enter Tryd.func29, Tryd.ntmps29
  go_wp2_with fail
  refine (names_any w).mono ?_
  rintro e w1 ⟨a, c, rfl, hi, hb⟩
  have HB1 := Lib.hid hb
  have kc := contains_any s a c timerNames w1 hi
  rw [hs] at kc
  have KC := Lib.hid (show Calls Tryd.prog 39 #[.slice a 8 c, .string s] w1 fun e w' => e = .returned (.bool false) ∧ Below w1.heap.size w1 w' from kc)
  clear hi hb kc
  go_wp2_with fail
  refine KC.out.mono ?_
  rintro e w2 ⟨rfl, hb⟩
  have HB2 := Lib.hid (HB1.out.trans (hb.mono HB1.out.size))
  clear hb
  go_wp2_with fail
  go_ret2
  exact ⟨rfl, HB2.out⟩
theorem resume_other (s : ByteArray) (hs : (timerNames.any fun x => eqS x s) = false) (v u : Value) (w : World) : Calls Tryd.prog 21 #[.string s, v, u] w fun e w' => e = .returned (.tuple #[.pointer none, .int .i64 3]) ∧ Below w.heap.size w w' := by
  have KB := Lib.hid (begin_other s hs v w)
  clear hs
  go_enter Tryd.func21, Tryd.ntmps21
  go_wp2_with fail
  refine KB.out.mono ?_
  rintro e w2 ⟨rfl, hb⟩
  have HB2 := Lib.hid hb
  clear hb
  go_wp2_with fail
  go_ret2
  exact ⟨rfl, HB2.out⟩
theorem tstep_other (s : ByteArray) (hs : (timerNames.any fun x => eqS x s) = false) (pa sa va : Option Addr) (pn pc sn sc vn vc : Nat) (dt : Int) (w : World) : Calls Tryd.prog 11 #[.string s, .slice pa pn pc, .slice sa sn sc, .slice va vn vc, .int .i64 dt] w fun e w' => ∃ v k n, e = .returned (.tuple #[v, .agg #[.int .i64 k, .int .i64 n], .int .i64 3]) ∧ TmA w' 3 0 0 [0] v k n ∧ Below w.heap.size w w' := by
  obtain ⟨W1, g, hW1, hg, RG, B1, sz1⟩ := box1 w #[.int .i64 0, .int .i64 0] 26
  have KB := Lib.hid (fun W => resume_other s hs (.slice pa pn pc) (.slice sa sn sc) W)
  have HG1 := Lib.hid RG
  have HB1 := Lib.hid B1
  have HWG := Lib.hid (show w.heap.size ≤ g by omega)
  clear hs RG B1 sz1
  go_enter Tryd.func11, Tryd.ntmps11
  go_upto_region 1 with fail
  rw [← hW1]
  try rw [← hg]
  clear hW1 hg
  go_wp2_with fail
  refine (KB.out W1).mono ?_
  rintro e w2 ⟨rfl, hb⟩
  have HB2 := Lib.hid (HB1.out.trans (hb.mono HB1.out.size))
  have HG2 := Lib.hid (HG1.out.keep hb)
  clear hb
  have g_0 := HG2.out.c 0 _ rfl
  have g_1 := HG2.out.c 1 _ rfl
  have g_z := HG2.out.fz
  go_wp2_with fail
  have hs := HG2.out.setRow [.int .i64 0, .int .i64 0] rfl
  have hB := set_below HB2.out HWG.out [.int .i64 0, .int .i64 0]
  have y0 : ((w2.setCell ⟨g, 0, none⟩ (.int .i64 0)).setCell ⟨g, 1, none⟩ (.int .i64 0)).cell? ⟨g, 0, none⟩ = some (.int .i64 0) := hs.c 0 _ rfl
  have y1 : ((w2.setCell ⟨g, 0, none⟩ (.int .i64 0)).setCell ⟨g, 1, none⟩ (.int .i64 0)).cell? ⟨g, 1, none⟩ = some (.int .i64 0) := hs.c 1 _ rfl
  (try simp only [Exit.inBlock, Exit.then])
  refine bodyPost_ret (by simp [results, Tryd.results11, go_sem, y0, y1]; try rfl) rfl ?_
  exact ⟨_, _, _, rfl, ⟨fun _ => ⟨rfl, rfl, rfl⟩, fun h => absurd h (by decide)⟩, hB⟩
theorem rcheck_other (s : ByteArray) (hs : (timerNames.any fun x => eqS x s) = false) (v u z : Value) (dt : Int) (w : World) : Calls Tryd.prog 23 #[.string s, v, u, z, .int .i64 dt] w fun e w' => e = .returned (.int .i64 3) ∧ Below w.heap.size w w' := by
  have kk := rknown_any s w
  rw [hs] at kk
  have KK := Lib.hid kk
  clear kk hs
  go_enter Tryd.func23, Tryd.ntmps23
  go_wp2_with fail
  refine KK.out.mono ?_
  rintro e w1 ⟨rfl, hb⟩
  have HB1 := Lib.hid hb
  clear hb
  go_wp2_with fail
  go_ret
  exact ⟨rfl, HB1.out⟩
theorem law_other (s : ByteArray) (hss : s.size ≤ 9223372036854775807) (hs : (timerNames.any fun x => eqS x s) = false) (pa sa va : Option Addr) (pc sc vc M K V : Nat) (m63 : M ≤ 9223372036854775807) (k63 : K ≤ 9223372036854775807) (v63 : V ≤ 9223372036854775807) (dt : Int) (w : World) (hm : MaxAt w) :
    Calls Tryd.prog 3 #[.string s, .slice pa M pc, .slice sa K sc, .slice va V vc, .int .i64 dt] w fun e w' => e = .returned (.bool true) ∧ Below w.heap.size w w' :=
  steps_core s pa sa va pc sc vc M K V dt 3 0 0 [0] w hm hss m63 k63 v63 (Lib.hid (fun W _ => tstep_other s hs pa sa va M pc K sc V vc dt W)) (Lib.hid (fun W _ => rStep_core s _ _ _ dt 3 0 0 [0] 1 (by decide) rfl W (Lib.hid (fun W _ => rcheck_other s hs _ _ _ dt W)) (Lib.hid (fun h => absurd h (by decide))))) (Lib.hid (fun h => absurd h (by decide)))
theorem steps_law (s : ByteArray) (hss : s.size ≤ 9223372036854775807) (pa sa va : Option Addr) (pc sc vc : Nat) (ps st : List Int) (ls : List (Int × Int)) (dt : Int) (w : World) (hm : MaxAt w) (hps : InS w pa ps.length 1 (flat iL ps)) (hwf : ∀ v ∈ ps, (Lit.int .i64 v).wf = true) (hst : InS w sa st.length 1 (flat iL st)) (hvs : InS w va ls.length 2 (flat (fun x : Int × Int => [Value.int .i64 x.1, Value.int .i64 x.2]) ls)) :
    Calls Tryd.prog 3 #[.string s, .slice pa ps.length pc, .slice sa st.length sc, .slice va ls.length vc, .int .i64 dt] w fun e w' => e = .returned (.bool true) ∧ Below w.heap.size w w' := by
  classical
  have hl : (ls.map fun x => (⟨x.1, x.2⟩ : ValD)).length = ls.length := List.length_map ..
  have hf : flat valL (ls.map fun x => (⟨x.1, x.2⟩ : ValD)) = flat (fun x : Int × Int => [Value.int .i64 x.1, Value.int .i64 x.2]) ls := by
    unfold flat
    rw [List.flatMap_map]
    rfl
  have hin : InS w va (ls.map fun x => (⟨x.1, x.2⟩ : ValD)).length 2 (flat valL (ls.map fun x => (⟨x.1, x.2⟩ : ValD))) := by rw [hl, hf]; exact hvs
  rw [← hl]
  generalize (ls.map fun x => (⟨x.1, x.2⟩ : ValD)) = vs at hin
  by_cases hn : s = ⟨#[99, 111, 117, 110, 116]⟩ ∨ s = ⟨#[101, 100, 103, 101]⟩ ∨ s = ⟨#[104, 121, 115, 116]⟩ ∨ s = ⟨#[108, 97, 116, 99, 104]⟩ ∨ s = ⟨#[109, 105, 110, 114, 117, 110]⟩ ∨ s = ⟨#[111, 102, 102, 100, 101, 108, 97, 121]⟩ ∨ s = ⟨#[111, 110, 100, 101, 108, 97, 121]⟩ ∨ s = ⟨#[112, 117, 108, 115, 101]⟩
  · rcases hn with rfl | rfl | rfl | rfl | rfl | rfl | rfl | rfl
    · obtain ⟨V, hV⟩ : ∃ F : Bool, F = true ↔ ∀ v ∈ vs, fitsB v.k v.n 2 = true := ⟨decide _, decide_eq_true_iff⟩
      exact law_count pa sa va pc sc vc ps st vs V dt w hm hps hwf hst hin hV
    · obtain ⟨V, hV⟩ : ∃ F : Bool, F = true ↔ ∀ v ∈ vs, fitsB v.k v.n 2 = true := ⟨decide _, decide_eq_true_iff⟩
      exact law_edge pa sa va pc sc vc ps st vs V dt w hm hps hwf hst hin hV
    · obtain ⟨V, hV⟩ : ∃ F : Bool, F = true ↔ ∀ v ∈ vs, fitsB v.k v.n 1 = true := ⟨decide _, decide_eq_true_iff⟩
      exact law_hyst pa sa va pc sc vc ps st vs V dt w hm hps hwf hst hin hV
    · obtain ⟨V, hV⟩ : ∃ F : Bool, F = true ↔ ∀ v ∈ vs, fitsB v.k v.n 2 = true := ⟨decide _, decide_eq_true_iff⟩
      exact law_latch pa sa va pc sc vc ps st vs V dt w hm hps hwf hst hin hV
    · obtain ⟨V, hV⟩ : ∃ F : Bool, F = true ↔ ∀ v ∈ vs, fitsB v.k v.n 2 = true := ⟨decide _, decide_eq_true_iff⟩
      exact law_minrun pa sa va pc sc vc ps st vs V dt w hm hps hwf hst hin hV
    · obtain ⟨V, hV⟩ : ∃ F : Bool, F = true ↔ ∀ v ∈ vs, fitsB v.k v.n 2 = true := ⟨decide _, decide_eq_true_iff⟩
      exact law_offdelay pa sa va pc sc vc ps st vs V dt w hm hps hwf hst hin hV
    · obtain ⟨V, hV⟩ : ∃ F : Bool, F = true ↔ ∀ v ∈ vs, fitsB v.k v.n 2 = true := ⟨decide _, decide_eq_true_iff⟩
      exact law_ondelay pa sa va pc sc vc ps st vs V dt w hm hps hwf hst hin hV
    · obtain ⟨V, hV⟩ : ∃ F : Bool, F = true ↔ ∀ v ∈ vs, fitsB v.k v.n 2 = true := ⟨decide _, decide_eq_true_iff⟩
      exact law_pulse pa sa va pc sc vc ps st vs V dt w hm hps hwf hst hin hV
  · refine law_other s hss ?_ pa sa va pc sc vc _ _ _ hps.2.1 hst.2.1 hin.2.1 dt w hm
    cases h : (timerNames.any fun x => eqS x s) with
    | false => rfl
    | true =>
      obtain ⟨x, hx, he⟩ := List.any_eq_true.1 h
      have he2 : x = s := of_decide_eq_true (by unfold eqS at he; exact he)
      subst he2
      refine absurd ?_ hn
      unfold timerNames at hx
      simpa using hx
end Go.Proofs.YtmhfkdnblemfdaaDoor
