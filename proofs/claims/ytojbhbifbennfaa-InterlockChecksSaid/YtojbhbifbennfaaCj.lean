/- Contract of the specification's Check. -/
import Derived.Test.YtojbhbifbennfaaCi
import Derived.BigQuiet
namespace Go.Proofs.Ytojbhbifbennfaa
open Go.RowKit Go.Shelf

theorem any_take_succ {α : Type} {p : α → Bool} {l : List α} {j : Nat} {x : α} (hx : l[j]? = some x) : (l.take (j + 1)).any p = ((l.take j).any p || p x) := by
  rw [List.take_add_one, hx, List.any_append]; simp
theorem any_take_all {α : Type} {p : α → Bool} {l : List α} {j : Nat} (hj : l.length ≤ j) (h : (l.take j).any p = false) : l.any p = false := by
  rw [List.take_of_length_le hj] at h; exact h
theorem ahit {α : Type} {p : α → Bool} {l : List α} {j : Nat} {x : α} (hx : l[j]? = some x) (h : p x = true) : l.any p = true := List.any_eq_true.2 ⟨x, List.mem_of_getElem? hx, h⟩
theorem known_point {ps : List PtD} (s : ByteArray) : ∀ i : Nat, (knownB ps s = false ∧ firstP (fun p => decide (p.nm = s)) ps i = -1) ∨ (∃ (j : Nat) (p : PtD), knownB ps s = true ∧ firstP (fun p => decide (p.nm = s)) ps i = ((i + j : Nat) : Int) ∧ ps[j]? = some p ∧ fitB ps s = okP p) := by
  induction ps with
  | nil => intro i; exact .inl ⟨rfl, rfl⟩
  | cons y r ih =>
    intro i
    by_cases hs : y.nm = s
    · refine .inr ⟨0, y, by simp [knownB, hs], ?_, rfl, by simp [fitB, hs]⟩
      unfold firstP; rw [if_pos (decide_eq_true hs)]; rfl
    · have h1 : knownB (y :: r) s = knownB r s := by simp [knownB, hs]
      have h2 : fitB (y :: r) s = fitB r s := by simp [fitB, hs]
      have h3 : firstP (fun p => decide (p.nm = s)) (y :: r) i = firstP (fun p => decide (p.nm = s)) r (i + 1) := by
        rw [firstP, if_neg (by simp [hs])]
      rw [h1, h2, h3]
      rcases ih (i + 1) with h | ⟨j, p, ha, hb, hc, hd⟩
      · exact .inl h
      · exact .inr ⟨j + 1, p, ha, by rw [hb]; congr 1; omega, by simpa using hc, hd⟩
theorem pt_no {ps : List PtD} {s : ByteArray} (h : pointI s ps < 0) : knownB ps s = false := by
  rcases known_point (ps := ps) s 0 with h1 | ⟨j, p, _, hb, _⟩
  · exact h1.1
  · unfold pointI at h; rw [hb] at h; omega
theorem pt_yes {ps : List PtD} {s : ByteArray} (h : ¬ pointI s ps < 0) : knownB ps s = true := by
  rcases known_point (ps := ps) s 0 with h1 | ⟨j, p, ha, _⟩
  · unfold pointI at h; rw [h1.2] at h; omega
  · exact ha
theorem pt_at {ps : List PtD} {s : ByteArray} (h : knownB ps s = true) : ∃ (j : Nat) (p : PtD), pointI s ps = (j : Int) ∧ ps[j]? = some p ∧ fitB ps s = okP p := by
  rcases known_point (ps := ps) s 0 with h1 | ⟨j, p, _, hb, hc, hd⟩
  · rw [h1.1] at h; cases h
  · exact ⟨j, p, by unfold pointI; rw [hb, Nat.zero_add], hc, hd⟩
theorem bel_drewN {B : Nat} {a w : World} (h : Below B a w) (n : Nat) : Below B a (w.drewN n) := h.trans ⟨rfl, rfl, rfl, Nat.le_refl _, fun _ _ => rfl⟩
theorem mem_memS {gs : List GrD} {j k : Nat} {x : GrD} {y : ByteArray} (hx : gs[j]? = some x) (hy : x.ns[k]? = some y) : y ∈ memS gs := List.mem_flatMap.2 ⟨x, List.mem_of_getElem? hx, List.mem_of_getElem? hy⟩
theorem memS_all {gs : List GrD} {p : ByteArray → Bool} {j : Nat} (hj : gs.length ≤ j) (h : (memS (gs.take j)).any p = false) : (memS gs).any p = false := by
  rw [List.take_of_length_le hj] at h; exact h
theorem memE_3 {ps : List PtD} {ns : List ByteArray} {y : ByteArray} (hy : y ∈ ns) (h : knownB ps y = false) : memE ps ns = 3 := by
  unfold memE; rw [if_pos (List.any_eq_true.2 ⟨y, hy, by rw [h]; rfl⟩)]
theorem memE_11 {ps : List PtD} {ns : List ByteArray} {y : ByteArray} (h0 : (ns.any fun s => !knownB ps s) = false) (hy : y ∈ ns) (h : fitB ps y = false) : memE ps ns = 11 := by
  unfold memE; rw [h0, if_neg (by simp), if_pos (List.any_eq_true.2 ⟨y, hy, by rw [h]; rfl⟩)]
theorem memE_0 {ps : List PtD} {ns : List ByteArray} (h0 : (ns.any fun s => !knownB ps s) = false) (h1 : (ns.any fun s => !fitB ps s) = false) : memE ps ns = 0 := by
  unfold memE; rw [h0, h1]; rfl
theorem known_of {ps : List PtD} {ns : List ByteArray} {y : ByteArray} (h0 : (ns.any fun s => !knownB ps s) = false) (hy : y ∈ ns) : knownB ps y = true := by
  rw [List.any_eq_false] at h0
  have := h0 y hy
  simpa using this
def IncT (gs : List GrD) (j : Nat) : Prop := ∀ (k : Nat) (x y : GrD), k + 1 < j → gs[k]? = some x → gs[k + 1]? = some y → ltS x.nm y.nm = true
def DistT (gs : List GrD) (j : Nat) : Prop := ∀ (i : Nat) (x : GrD) (k : Nat) (s : ByteArray), i < j → gs[i]? = some x → x.ns[k]? = some s → (findG s gs 0).1 = i ∧ (findG s gs 0).2.1 = k
def RowT (gs : List GrD) (j : Nat) (ns : List ByteArray) (n : Nat) : Prop := ∀ (k : Nat) (s : ByteArray), k < n → ns[k]? = some s → (findG s gs 0).1 = j ∧ (findG s gs 0).2.1 = k
theorem IncT.step {gs : List GrD} {j : Nat} (h : IncT gs j) (hq : ∀ (q : Nat) (x y : GrD), q + 1 = j → gs[q]? = some x → gs[j]? = some y → ltS x.nm y.nm = true) : IncT gs (j + 1) := by
  intro k x y hk hx hy
  by_cases hj : k + 1 < j
  · exact h k x y hj hx hy
  · have : k + 1 = j := by omega
    rw [this] at hy
    exact hq k x y this hx hy
theorem DistT.step {gs : List GrD} {j : Nat} {x : GrD} {n : Nat} (h : DistT gs j) (hx : gs[j]? = some x) (hr : RowT gs j x.ns n) (hn : x.ns.length ≤ n) : DistT gs (j + 1) := by
  intro i y k s hi hy hs
  by_cases hij : i < j
  · exact h i y k s hij hy hs
  · have : i = j := by omega
    subst this
    rw [hx] at hy; cases hy
    exact hr k s (by have := (List.getElem?_eq_some_iff.1 hs).1; omega) hs
theorem RowT.step {gs : List GrD} {j : Nat} {ns : List ByteArray} {n : Nat} {s : ByteArray} (h : RowT gs j ns n) (hs : ns[n]? = some s) (h1 : (findG s gs 0).1 = j) (h2 : (findG s gs 0).2.1 = n) : RowT gs j ns (n + 1) := by
  intro k t hk ht
  by_cases hkn : k < n
  · exact h k t hkn ht
  · have : k = n := by omega
    subst this
    rw [hs] at ht; cases ht
    exact ⟨h1, h2⟩
def DistP (gs : List GrD) : Prop := ∀ (i : Nat) (x : GrD) (k : Nat) (s : ByteArray), gs[i]? = some x → x.ns[k]? = some s → (findG s gs 0).1 = i ∧ (findG s gs 0).2.1 = k

set_option maxHeartbeats 8000000 in
set_option maxRecDepth 100000 in
theorem rcheckAll_any (a pa : Option Addr) (cap pcap : Nat) (ps : List PtD) (gs : List GrD) (w : World) (hdd : distB (memS gs) = true ↔ DistP gs) (hps : InS w pa ps.length 12 (flat ptL ps)) (hin : InS w a gs.length 3 (flat grL gs)) (hgood : ∀ x ∈ gs, GoodG w x) : Calls Try.prog 15 #[.slice pa ps.length pcap, .slice a gs.length cap] w fun e w' => e = .returned (.int .i64 (checkV ps gs)) ∧ Below w.heap.size w w' := by
  obtain ⟨N, hN⟩ : ∃ N, N = gs.length := ⟨_, rfl⟩
  obtain ⟨M0, hM0⟩ : ∃ M, M = ps.length := ⟨_, rfl⟩
  have HN := Lib.hid hN
  have HM0 := Lib.hid hM0
  have HI := Lib.hid hin
  have HP := Lib.hid hps
  have HG := Lib.hid hgood
  have HDD := Lib.hid hdd
  have hmx : N ≤ 9223372036854775807 := by have := hin.2.1; omega
  have hmp : M0 ≤ 9223372036854775807 := by have := hps.2.1; omega
  have HFI := Lib.hid (show ∀ (s : ByteArray) (W' : World), Below w.heap.size w W' → Calls Try.prog 13 #[.slice a N cap, .string s] W' fun e w' => e = .returned (findV s gs) ∧ Below W'.heap.size W' w' from fun s W' hb => by
    rw [hN]; exact rfind_any s a cap gs W' (hin.keep hb) (fun x hx => (hgood x hx).keep hb))
  have HPI := Lib.hid (show ∀ (s : ByteArray) (W' : World), Below w.heap.size w W' → Calls Try.prog 49 #[.slice pa M0 pcap, .string s] W' fun e w' => e = .returned (.int .i64 (pointI s ps)) ∧ Below W'.heap.size W' w' from fun s W' hb => by
    rw [hM0]; exact rpoint_any s pa pcap ps W' (hps.keep hb))
  rw [← hN, ← hM0]
  clear hN hM0 hin hps hgood hdd
  by_cases h16 : 16 < (N : Int)
  · have HY := Lib.hid (show checkV ps gs = 7 by unfold checkV; rw [← HN.out, decide_eq_true h16, Bool.true_or, if_pos rfl])
    go_enter Try.func15, Try.ntmps15
    go_wp2_with fail
    go_ret
    exact ⟨by rw [HY.out]; (first | done | rfl), Below.refl _ _⟩
  have H16 : Hid (N ≤ 16) := Lib.hid (by omega)
  go_enter Try.func15, Try.ntmps15
  go_wp2_with fail
  go_loopw [5] (fun i wr => ∃ j : Nat, j ≤ N ∧ i = .int .i64 j ∧ Hid ((gs.take j).any manyB = false ∧ Below w.heap.size w wr)) (fun i _ => N - (intOf i).toNat)
  case atStart => exact ⟨0, by omega, rfl, Lib.hid ⟨rfl, Below.refl _ _⟩⟩
  case round =>
    obtain ⟨j, hj, rfl, hH⟩ := hrel
    obtain ⟨wo, rfl⟩ : ∃ x : World, x = wr := ⟨_, rfl⟩
    have HQ := Lib.hid hH.out.1
    have HBO := Lib.hid hH.out.2
    clear hH
    by_cases hlt : j < N
    · obtain ⟨b, o, rfl, hbl, hcell⟩ := HI.out.at grL_len (by have := HN.out; omega)
      obtain ⟨x, hx⟩ : ∃ x, gs[j]? = some x := ⟨_, List.getElem?_eq_getElem (by rw [← HN.out]; exact hlt)⟩
      have HD0 := Lib.hid (hcell j _ hx 0 _ rfl)
      have HD1 := Lib.hid (hcell j _ hx 1 _ rfl)
      have HD2 := Lib.hid (hcell j _ hx 2 _ rfl)
      have HBL := Lib.hid hbl
      have k1 : (0 : Int) ≤ (j : Int) := by omega
      have k2 : (j : Int) < (N : Int) := by omega
      have HX := Lib.hid hx
      clear hcell hbl hx
      have c1 := (HBO.out.cell (p := ⟨b, o + j * 3 + 1, none⟩) HBL.out).trans HD1.out
      by_cases hc : 16 < (x.ns.length : Int)
      · have HY := Lib.hid (show checkV ps gs = 7 by
          have hp := ahit (p := manyB) HX.out (by exact decide_eq_true hc)
          unfold checkV; rw [← HN.out, decide_eq_false (show ¬ 16 < (N : Int) by have := H16.out; omega), hp]; first | rfl | simp)
        go_wp2_with fail
        go_ret
        exact ⟨by rw [HY.out]; (first | done | rfl), HBO.out⟩
      · have HM := Lib.hid (show (gs.take (j + 1)).any manyB = false by rw [any_take_succ HX.out, HQ.out, Bool.false_or]; exact decide_eq_false hc)
        go_wp2_with fail
        go_roundw
        case rel => exact ⟨j + 1, by omega, by go_num, Lib.hid ⟨HM.out, HBO.out⟩⟩
        case measure => (simp [intOf]) <;> omega
    · have HX2 := Lib.hid (any_take_all (p := manyB) (by have := HN.out; omega) HQ.out)
      have HB2 := Lib.hid HBO.out
      have k2 : ¬ ((j : Int) < (N : Int)) := by omega
      clear HQ HBO hlt
      go_wp2_with fail
      go_loopw [6] (fun i wr => ∃ j : Nat, j ≤ N ∧ i = .int .i64 j ∧ Hid ((gs.take j).any unnamedB = false ∧ Below w.heap.size w wr)) (fun i _ => N - (intOf i).toNat)
      case atStart => exact ⟨0, by omega, rfl, Lib.hid ⟨rfl, HB2.out⟩⟩
      case round =>
        obtain ⟨j, hj, rfl, hH⟩ := hrel
        obtain ⟨wo, rfl⟩ : ∃ x : World, x = wr := ⟨_, rfl⟩
        have HQ := Lib.hid hH.out.1
        have HBO := Lib.hid hH.out.2
        clear hH
        by_cases hlt : j < N
        · obtain ⟨b, o, rfl, hbl, hcell⟩ := HI.out.at grL_len (by have := HN.out; omega)
          obtain ⟨x, hx⟩ : ∃ x, gs[j]? = some x := ⟨_, List.getElem?_eq_getElem (by rw [← HN.out]; exact hlt)⟩
          have HD0 := Lib.hid (hcell j _ hx 0 _ rfl)
          have HD1 := Lib.hid (hcell j _ hx 1 _ rfl)
          have HD2 := Lib.hid (hcell j _ hx 2 _ rfl)
          have HBL := Lib.hid hbl
          have k1 : (0 : Int) ≤ (j : Int) := by omega
          have k2 : (j : Int) < (N : Int) := by omega
          have HX := Lib.hid hx
          clear hcell hbl hx
          obtain ⟨nm, xa, xc, ns, dd⟩ := x
          obtain ⟨M, hM⟩ : ∃ M, M = ns.length := ⟨_, rfl⟩
          have HMM := Lib.hid hM
          have HD1' := Lib.hid (show w.cell? ⟨b, o + j * 3 + 1, none⟩ = some (.slice xa M xc) by rw [hM]; exact HD1.out)
          have HGX := Lib.hid (show InS w xa M 1 (flat stL ns) by rw [hM]; exact (HG.out _ (List.mem_of_getElem? HX.out)).1)
          have hmm : M ≤ 9223372036854775807 := HGX.out.2.1
          clear HD1 hM
          have c0 := (HBO.out.cell (p := ⟨b, o + j * 3 + 0, none⟩) HBL.out).trans HD0.out
          rw [Nat.add_zero] at c0
          go_wp2_with fail
          refine (rname_any nm _).mono ?_
          rintro e w1 ⟨rfl, hb⟩
          have HB1 := Lib.hid (HBO.out.trans (hb.mono HBO.out.size))
          clear hb c0
          cases hnn : nameB nm with
          | false =>
            have HY := Lib.hid (show checkV ps gs = 4 by
              have hp := ahit (p := unnamedB) HX.out (by unfold unnamedB hasNamesB; show (!(nameB nm && !ns.any noNameB)) = true; rw [hnn]; rfl)
              unfold checkV; rw [← HN.out, decide_eq_false (show ¬ 16 < (N : Int) by have := H16.out; omega), HX2.out, hp]; first | rfl | simp)
            clear hnn
            go_wp2_with fail
            go_ret
            exact ⟨by rw [HY.out]; (first | done | rfl), HB1.out⟩
          | true =>
            have HNT := Lib.hid hnn
            clear hnn
            go_wp2_with fail
            go_loopw [7] (fun i wr => ∃ k : Nat, k ≤ M ∧ i = .int .i64 k ∧ Hid ((ns.take k).any noNameB = false ∧ Below w.heap.size w wr)) (fun i _ => M - (intOf i).toNat)
            case atStart => exact ⟨0, by omega, rfl, Lib.hid ⟨rfl, HB1.out⟩⟩
            case round =>
              obtain ⟨k, hk, rfl, hK⟩ := hrel
              have HQ2 := Lib.hid hK.out.1
              have HBR := Lib.hid hK.out.2
              have c1 := (HBR.out.cell (p := ⟨b, o + j * 3 + 1, none⟩) HBL.out).trans HD1'.out
              clear hK
              by_cases hkl : k < M
              · obtain ⟨b2, o2, rfl, hb2, hc2⟩ := InS.at (f := stL) (xs := ns) stL_len (by rw [← HMM.out]; exact HGX.out.keep HBR.out) (by have := HMM.out; omega)
                obtain ⟨y, hy⟩ : ∃ y, ns[k]? = some y := ⟨_, List.getElem?_eq_getElem (by rw [← HMM.out]; exact hkl)⟩
                have c3 := hc2 k _ hy 0 _ rfl
                rw [Nat.add_zero, Nat.mul_one] at c3
                have HY1 := Lib.hid hy
                have k3 : (0 : Int) ≤ (k : Int) := by omega
                have k4 : (k : Int) < (M : Int) := by omega
                clear hb2 hc2 hy
                go_wp2_with fail
                refine (rname_any y _).mono ?_
                rintro e w2 ⟨rfl, hb⟩
                have HB2 := Lib.hid (HBR.out.trans (hb.mono HBR.out.size))
                clear hb c1 c3
                cases hny : nameB y with
                | false =>
                  have HY := Lib.hid (show checkV ps gs = 4 by
                    have hp := ahit (p := unnamedB) HX.out (by unfold unnamedB hasNamesB; show (!(nameB nm && !ns.any noNameB)) = true; rw [ahit (p := noNameB) HY1.out (by unfold noNameB; rw [hny]; rfl)]; simp)
                    unfold checkV; rw [← HN.out, decide_eq_false (show ¬ 16 < (N : Int) by have := H16.out; omega), HX2.out, hp]; first | rfl | simp)
                  clear hny
                  go_wp2_with fail
                  go_ret
                  exact ⟨by rw [HY.out]; (first | done | rfl), HB2.out⟩
                | true =>
                  have HM2 := Lib.hid (show (ns.take (k + 1)).any noNameB = false by rw [any_take_succ HY1.out, HQ2.out, Bool.false_or]; unfold noNameB; rw [hny]; rfl)
                  clear hny
                  go_wp2_with fail
                  go_roundw
                  case rel => exact ⟨k + 1, by omega, by go_num, Lib.hid ⟨HM2.out, HB2.out⟩⟩
                  case measure => (simp [intOf]) <;> omega
              · have HAL := Lib.hid (any_take_all (p := noNameB) (by have := HMM.out; omega) HQ2.out)
                have k4 : ¬ ((k : Int) < (M : Int)) := by omega
                have HM := Lib.hid (show (gs.take (j + 1)).any unnamedB = false by rw [any_take_succ HX.out, HQ.out, Bool.false_or]; unfold unnamedB hasNamesB; show (!(nameB nm && !ns.any noNameB)) = false; rw [HNT.out, HAL.out]; rfl)
                go_wp2_with fail
                go_roundw
                case rel => exact ⟨j + 1, by omega, by go_num, Lib.hid ⟨HM.out, HBR.out⟩⟩
                case measure => (simp [intOf]) <;> omega
        · have HX3 := Lib.hid (any_take_all (p := unnamedB) (by have := HN.out; omega) HQ.out)
          have HB3 := Lib.hid HBO.out
          have k2 : ¬ ((j : Int) < (N : Int)) := by omega
          clear HQ HBO hlt
          go_wp2_with fail
          go_loopw [8] (fun i wr => ∃ j : Nat, j ≤ N ∧ i = .int .i64 j ∧ Hid ((gs.take j).any undeadB = false ∧ Below w.heap.size w wr)) (fun i _ => N - (intOf i).toNat)
          case atStart => exact ⟨0, by omega, rfl, Lib.hid ⟨rfl, HB3.out⟩⟩
          case round =>
            obtain ⟨j, hj, rfl, hH⟩ := hrel
            obtain ⟨wo, rfl⟩ : ∃ x : World, x = wr := ⟨_, rfl⟩
            have HQ := Lib.hid hH.out.1
            have HBO := Lib.hid hH.out.2
            clear hH
            by_cases hlt : j < N
            · obtain ⟨b, o, rfl, hbl, hcell⟩ := HI.out.at grL_len (by have := HN.out; omega)
              obtain ⟨x, hx⟩ : ∃ x, gs[j]? = some x := ⟨_, List.getElem?_eq_getElem (by rw [← HN.out]; exact hlt)⟩
              have HD0 := Lib.hid (hcell j _ hx 0 _ rfl)
              have HD1 := Lib.hid (hcell j _ hx 1 _ rfl)
              have HD2 := Lib.hid (hcell j _ hx 2 _ rfl)
              have HBL := Lib.hid hbl
              have k1 : (0 : Int) ≤ (j : Int) := by omega
              have k2 : (j : Int) < (N : Int) := by omega
              have HX := Lib.hid hx
              clear hcell hbl hx
              have c2 := (HBO.out.cell (p := ⟨b, o + j * 3 + 2, none⟩) HBL.out).trans HD2.out
              by_cases hc : x.dd < 0
              · have HY := Lib.hid (show checkV ps gs = 6 by
                  have hp := ahit (p := undeadB) HX.out (by unfold undeadB dB; rw [decide_eq_false (show ¬ 0 ≤ x.dd by omega)]; rfl)
                  unfold checkV; rw [← HN.out, decide_eq_false (show ¬ 16 < (N : Int) by have := H16.out; omega), HX2.out, HX3.out, hp]; first | rfl | simp)
                go_wp2_with fail
                go_ret
                exact ⟨by rw [HY.out]; (first | done | rfl), HBO.out⟩
              · by_cases hc2 : 3600 < x.dd
                · have HY := Lib.hid (show checkV ps gs = 6 by
                    have hp := ahit (p := undeadB) HX.out (by unfold undeadB dB; rw [decide_eq_false (show ¬ x.dd ≤ 3600 by omega), Bool.and_false]; rfl)
                    unfold checkV; rw [← HN.out, decide_eq_false (show ¬ 16 < (N : Int) by have := H16.out; omega), HX2.out, HX3.out, hp]; first | rfl | simp)
                  go_wp2_with fail
                  go_ret
                  exact ⟨by rw [HY.out]; (first | done | rfl), HBO.out⟩
                · have HM := Lib.hid (show (gs.take (j + 1)).any undeadB = false by rw [any_take_succ HX.out, HQ.out, Bool.false_or]; unfold undeadB dB; rw [decide_eq_true (show 0 ≤ x.dd by omega), decide_eq_true (show x.dd ≤ 3600 by omega)]; rfl)
                  go_wp2_with fail
                  go_roundw
                  case rel => exact ⟨j + 1, by omega, by go_num, Lib.hid ⟨HM.out, HBO.out⟩⟩
                  case measure => (simp [intOf]) <;> omega
            · have HX4 := Lib.hid (any_take_all (p := undeadB) (by have := HN.out; omega) HQ.out)
              have HB4 := Lib.hid HBO.out
              have k2 : ¬ ((j : Int) < (N : Int)) := by omega
              clear HQ HBO hlt
              go_wp2_with fail
              go_loopw [9] (fun i wr => ∃ j : Nat, j ≤ N ∧ i = .int .i64 j ∧ Hid ((gs.take j).any fewB = false ∧ Below w.heap.size w wr)) (fun i _ => N - (intOf i).toNat)
              case atStart => exact ⟨0, by omega, rfl, Lib.hid ⟨rfl, HB4.out⟩⟩
              case round =>
                obtain ⟨j, hj, rfl, hH⟩ := hrel
                obtain ⟨wo, rfl⟩ : ∃ x : World, x = wr := ⟨_, rfl⟩
                have HQ := Lib.hid hH.out.1
                have HBO := Lib.hid hH.out.2
                clear hH
                by_cases hlt : j < N
                · obtain ⟨b, o, rfl, hbl, hcell⟩ := HI.out.at grL_len (by have := HN.out; omega)
                  obtain ⟨x, hx⟩ : ∃ x, gs[j]? = some x := ⟨_, List.getElem?_eq_getElem (by rw [← HN.out]; exact hlt)⟩
                  have HD0 := Lib.hid (hcell j _ hx 0 _ rfl)
                  have HD1 := Lib.hid (hcell j _ hx 1 _ rfl)
                  have HD2 := Lib.hid (hcell j _ hx 2 _ rfl)
                  have HBL := Lib.hid hbl
                  have k1 : (0 : Int) ≤ (j : Int) := by omega
                  have k2 : (j : Int) < (N : Int) := by omega
                  have HX := Lib.hid hx
                  clear hcell hbl hx
                  have c1 := (HBO.out.cell (p := ⟨b, o + j * 3 + 1, none⟩) HBL.out).trans HD1.out
                  by_cases hc : (x.ns.length : Int) < 2
                  · have HY := Lib.hid (show checkV ps gs = 1 by
                      have hp := ahit (p := fewB) HX.out (by exact decide_eq_true hc)
                      unfold checkV; rw [← HN.out, decide_eq_false (show ¬ 16 < (N : Int) by have := H16.out; omega), HX2.out, HX3.out, HX4.out, hp]; first | rfl | simp)
                    go_wp2_with fail
                    go_ret
                    exact ⟨by rw [HY.out]; (first | done | rfl), HBO.out⟩
                  · have HM := Lib.hid (show (gs.take (j + 1)).any fewB = false by rw [any_take_succ HX.out, HQ.out, Bool.false_or]; exact decide_eq_false hc)
                    go_wp2_with fail
                    go_roundw
                    case rel => exact ⟨j + 1, by omega, by go_num, Lib.hid ⟨HM.out, HBO.out⟩⟩
                    case measure => (simp [intOf]) <;> omega
                · have HX5 := Lib.hid (any_take_all (p := fewB) (by have := HN.out; omega) HQ.out)
                  have HB5 := Lib.hid HBO.out
                  have k2 : ¬ ((j : Int) < (N : Int)) := by omega
                  clear HQ HBO hlt
                  go_wp2_with fail
                  go_loopw [10] (fun i wr => ∃ j : Nat, j ≤ N ∧ i = .int .i64 j ∧ Hid ((IncT gs j ∧ DistT gs j) ∧ Below w.heap.size w wr)) (fun i _ => N - (intOf i).toNat)
                  case atStart => exact ⟨0, by omega, rfl, Lib.hid ⟨⟨fun k x y h => absurd h (by omega), fun i x k s h => absurd h (by omega)⟩, HB5.out⟩⟩
                  case round =>
                    obtain ⟨j, hj, rfl, hH⟩ := hrel
                    obtain ⟨wo, rfl⟩ : ∃ x : World, x = wr := ⟨_, rfl⟩
                    have HQ := Lib.hid hH.out.1
                    have HBO := Lib.hid hH.out.2
                    clear hH
                    by_cases hlt : j < N
                    · obtain ⟨b, o, rfl, hbl, hcell⟩ := HI.out.at grL_len (by have := HN.out; omega)
                      obtain ⟨x, hx⟩ : ∃ x, gs[j]? = some x := ⟨_, List.getElem?_eq_getElem (by rw [← HN.out]; exact hlt)⟩
                      have HD0 := Lib.hid (hcell j _ hx 0 _ rfl)
                      have HD1 := Lib.hid (hcell j _ hx 1 _ rfl)
                      have HD2 := Lib.hid (hcell j _ hx 2 _ rfl)
                      have HBL := Lib.hid hbl
                      have k1 : (0 : Int) ≤ (j : Int) := by omega
                      have k2 : (j : Int) < (N : Int) := by omega
                      have HX := Lib.hid hx
                      have HCL := Lib.hid hcell
                      clear hcell hbl hx
                      obtain ⟨nm, xa, xc, ns, dd⟩ := x
                      obtain ⟨M, hM⟩ : ∃ M, M = ns.length := ⟨_, rfl⟩
                      have HMM := Lib.hid hM
                      have HD1' := Lib.hid (show w.cell? ⟨b, o + j * 3 + 1, none⟩ = some (.slice xa M xc) by rw [hM]; exact HD1.out)
                      have HGX := Lib.hid (show InS w xa M 1 (flat stL ns) by rw [hM]; exact (HG.out _ (List.mem_of_getElem? HX.out)).1)
                      have hmm : M ≤ 9223372036854775807 := HGX.out.2.1
                      clear HD1 hM
                      have HQI := Lib.hid HQ.out.1
                      have HQD := Lib.hid HQ.out.2
                      have c0 := (HBO.out.cell (p := ⟨b, o + j * 3 + 0, none⟩) HBL.out).trans HD0.out
                      rw [Nat.add_zero] at c0
                      by_cases h0 : 0 < (j : Int)
                      · obtain ⟨q, hq⟩ : ∃ q, q + 1 = j := ⟨j - 1, by omega⟩
                        obtain ⟨x2, hx2⟩ : ∃ x, gs[q]? = some x := ⟨_, List.getElem?_eq_getElem (by rw [← HN.out]; omega)⟩
                        have cq : w.cell? ⟨b, o + q * 3 + 0, none⟩ = some (.string x2.nm) := HCL.out q _ hx2 0 _ rfl
                        have c2 := (HBO.out.cell (p := ⟨b, o + q * 3 + 0, none⟩) HBL.out).trans cq
                        rw [Nat.add_zero] at c2
                        obtain ⟨nq, hnq⟩ : ∃ nq, nq = x2.nm := ⟨_, rfl⟩
                        have HNQ := Lib.hid hnq
                        rw [← hnq] at c2
                        have w1' : IntKind.i64.wrap ((j : Int) - 1) = (q : Int) := by rw [← hq, IntWalk.i64_in _ ⟨by omega, by omega⟩]; omega
                        have k3 : (0 : Int) ≤ (q : Int) := by omega
                        have k4 : (q : Int) < (N : Int) := by omega
                        have HXQ := Lib.hid hx2
                        have HQJ := Lib.hid hq
                        clear hx2 hq cq hnq
                        have h0' : decide (0 < (j : Int)) = true := decide_eq_true h0
                        have h0'' : decide (0 < j) = true := decide_eq_true (by omega)
                        clear h0
                        cases t1 : Op.bytesLess nq.toList nm.toList with
                        | false =>
                          have HY := Lib.hid (show checkV ps gs = 5 by
                            have hp : incB gs = false := by
                              cases hf : incB gs with
                              | false => rfl
                              | true => exact absurd ((incB_iff gs).1 hf) (fun hi => by have h := hi q _ _ HXQ.out (by rw [HQJ.out]; exact HX.out); unfold ltS at h; rw [← HNQ.out, t1] at h; cases h)
                            unfold checkV; rw [← HN.out, decide_eq_false (show ¬ 16 < (N : Int) by have := H16.out; omega), HX2.out, HX3.out, HX4.out, HX5.out, hp]; simp)
                          go_wp2_with fail
                          go_quiet (fail)
                          go_wp2_with fail
                          go_ret
                          exact ⟨by rw [HY.out]; (first | done | rfl), by first | exact HBO.out | exact bel_drewN HBO.out _⟩
                        | true =>
                          have HIS := Lib.hid (HQI.out.step (fun q' x' y' h1 h2 h3 => by
                            have hqq : q' = q := by have := HQJ.out; omega
                            subst hqq
                            rw [HXQ.out] at h2; rw [HX.out] at h3
                            cases h2; cases h3
                            unfold ltS; rw [← HNQ.out]; exact t1))
                          go_wp2_with fail
                          go_quiet (fail)
                          go_wp2_with fail
                          clear t1 c0 c2 h0' h0''
                          go_loopw [11] (fun i wr => ∃ k : Nat, k ≤ M ∧ i = .int .i64 k ∧ Hid (RowT gs j ns k ∧ Below w.heap.size w wr)) (fun i _ => M - (intOf i).toNat)
                          case atStart => exact ⟨0, by omega, rfl, Lib.hid ⟨fun k' s h => absurd h (by omega), by first | exact HBO.out | exact bel_drewN HBO.out _⟩⟩
                          case round =>
                            obtain ⟨k, hk, rfl, hK⟩ := hrel
                            have HQ2 := Lib.hid hK.out.1
                            have HBR := Lib.hid hK.out.2
                            have c1 := (HBR.out.cell (p := ⟨b, o + j * 3 + 1, none⟩) HBL.out).trans HD1'.out
                            clear hK
                            by_cases hkl : k < M
                            · obtain ⟨b2, o2, rfl, hb2, hc2⟩ := InS.at (f := stL) (xs := ns) stL_len (by rw [← HMM.out]; exact HGX.out.keep HBR.out) (by have := HMM.out; omega)
                              obtain ⟨y, hy⟩ : ∃ y, ns[k]? = some y := ⟨_, List.getElem?_eq_getElem (by rw [← HMM.out]; exact hkl)⟩
                              have c3 := hc2 k _ hy 0 _ rfl
                              rw [Nat.add_zero, Nat.mul_one] at c3
                              have HY1 := Lib.hid hy
                              have k3 : (0 : Int) ≤ (k : Int) := by omega
                              have k4 : (k : Int) < (M : Int) := by omega
                              clear hb2 hc2 hy
                              obtain ⟨G, hG⟩ : ∃ G, G = findG y gs 0 := ⟨_, rfl⟩
                              have HG0 := Lib.hid hG
                              obtain ⟨G1, G2, G3⟩ := G
                              have hfi : Calls Try.prog 13 #[.slice (some ⟨b, o, none⟩) N cap, .string y] wr fun e w' => e = .returned (.tuple #[.int .i64 G1, .int .i64 G2, .int .i64 G3]) ∧ Below wr.heap.size wr w' := by
                                have h := HFI.out y wr HBR.out
                                unfold findV at h
                                rw [← hG] at h
                                exact h
                              have HFY := Lib.hid hfi
                              clear hfi hG
                              go_wp2_with fail
                              refine HFY.out.mono ?_
                              rintro e w2 ⟨rfl, hb⟩
                              have HB2 := Lib.hid (HBR.out.trans (hb.mono HBR.out.size))
                              clear hb c1 c3
                              by_cases g1 : G1 = (j : Int)
                              · by_cases g2 : G2 = (k : Int)
                                · subst g1 g2
                                  have HM2 := Lib.hid (HQ2.out.step HY1.out (by rw [← HG0.out]) (by rw [← HG0.out]))
                                  go_wp2_with fail
                                  go_roundw
                                  case rel => exact ⟨k + 1, by omega, by go_num, Lib.hid ⟨HM2.out, HB2.out⟩⟩
                                  case measure => (simp [intOf]) <;> omega
                                · have HY := Lib.hid (show checkV ps gs = 5 by
                                    have hp : distB (memS gs) = false := by
                                      cases hf : distB (memS gs) with
                                      | false => rfl
                                      | true => exact absurd (HDD.out.1 hf) (fun hd => g2 (by have h := (hd j _ k y HX.out HY1.out).2; rw [← HG0.out] at h; exact h))
                                    unfold checkV; rw [← HN.out, decide_eq_false (show ¬ 16 < (N : Int) by have := H16.out; omega), HX2.out, HX3.out, HX4.out, HX5.out, hp]; simp)
                                  subst g1
                                  go_wp2_with fail
                                  go_ret
                                  exact ⟨by rw [HY.out]; (first | done | rfl), HB2.out⟩
                              · have HY := Lib.hid (show checkV ps gs = 5 by
                                  have hp : distB (memS gs) = false := by
                                    cases hf : distB (memS gs) with
                                    | false => rfl
                                    | true => exact absurd (HDD.out.1 hf) (fun hd => g1 (by have h := (hd j _ k y HX.out HY1.out).1; rw [← HG0.out] at h; exact h))
                                  unfold checkV; rw [← HN.out, decide_eq_false (show ¬ 16 < (N : Int) by have := H16.out; omega), HX2.out, HX3.out, HX4.out, HX5.out, hp]; simp)
                                go_wp2_with fail
                                go_ret
                                exact ⟨by rw [HY.out]; (first | done | rfl), HB2.out⟩
                            · have HM := Lib.hid (HQD.out.step HX.out HQ2.out (by have := HMM.out; show ns.length ≤ k; omega))
                              have k4 : ¬ ((k : Int) < (M : Int)) := by omega
                              go_wp2_with fail
                              go_roundw
                              case rel => exact ⟨j + 1, by omega, by go_num, Lib.hid ⟨⟨HIS.out, HM.out⟩, HBR.out⟩⟩
                              case measure => (simp [intOf]) <;> omega
                      · have HIS := Lib.hid (HQI.out.step (fun q' x' y' h1 h2 h3 => absurd h1 (by omega)))
                        have h0' : decide (0 < (j : Int)) = false := decide_eq_false h0
                        have h0'' : decide (0 < j) = false := decide_eq_false (by omega)
                        clear h0
                        go_wp2_with fail
                        go_quiet (fail)
                        go_wp2_with fail
                        clear c0 h0' h0''
                        go_loopw [11] (fun i wr => ∃ k : Nat, k ≤ M ∧ i = .int .i64 k ∧ Hid (RowT gs j ns k ∧ Below w.heap.size w wr)) (fun i _ => M - (intOf i).toNat)
                        case atStart => exact ⟨0, by omega, rfl, Lib.hid ⟨fun k' s h => absurd h (by omega), by first | exact HBO.out | exact bel_drewN HBO.out _⟩⟩
                        case round =>
                          obtain ⟨k, hk, rfl, hK⟩ := hrel
                          have HQ2 := Lib.hid hK.out.1
                          have HBR := Lib.hid hK.out.2
                          have c1 := (HBR.out.cell (p := ⟨b, o + j * 3 + 1, none⟩) HBL.out).trans HD1'.out
                          clear hK
                          by_cases hkl : k < M
                          · obtain ⟨b2, o2, rfl, hb2, hc2⟩ := InS.at (f := stL) (xs := ns) stL_len (by rw [← HMM.out]; exact HGX.out.keep HBR.out) (by have := HMM.out; omega)
                            obtain ⟨y, hy⟩ : ∃ y, ns[k]? = some y := ⟨_, List.getElem?_eq_getElem (by rw [← HMM.out]; exact hkl)⟩
                            have c3 := hc2 k _ hy 0 _ rfl
                            rw [Nat.add_zero, Nat.mul_one] at c3
                            have HY1 := Lib.hid hy
                            have k3 : (0 : Int) ≤ (k : Int) := by omega
                            have k4 : (k : Int) < (M : Int) := by omega
                            clear hb2 hc2 hy
                            obtain ⟨G, hG⟩ : ∃ G, G = findG y gs 0 := ⟨_, rfl⟩
                            have HG0 := Lib.hid hG
                            obtain ⟨G1, G2, G3⟩ := G
                            have hfi : Calls Try.prog 13 #[.slice (some ⟨b, o, none⟩) N cap, .string y] wr fun e w' => e = .returned (.tuple #[.int .i64 G1, .int .i64 G2, .int .i64 G3]) ∧ Below wr.heap.size wr w' := by
                              have h := HFI.out y wr HBR.out
                              unfold findV at h
                              rw [← hG] at h
                              exact h
                            have HFY := Lib.hid hfi
                            clear hfi hG
                            go_wp2_with fail
                            refine HFY.out.mono ?_
                            rintro e w2 ⟨rfl, hb⟩
                            have HB2 := Lib.hid (HBR.out.trans (hb.mono HBR.out.size))
                            clear hb c1 c3
                            by_cases g1 : G1 = (j : Int)
                            · by_cases g2 : G2 = (k : Int)
                              · subst g1 g2
                                have HM2 := Lib.hid (HQ2.out.step HY1.out (by rw [← HG0.out]) (by rw [← HG0.out]))
                                go_wp2_with fail
                                go_roundw
                                case rel => exact ⟨k + 1, by omega, by go_num, Lib.hid ⟨HM2.out, HB2.out⟩⟩
                                case measure => (simp [intOf]) <;> omega
                              · have HY := Lib.hid (show checkV ps gs = 5 by
                                  have hp : distB (memS gs) = false := by
                                    cases hf : distB (memS gs) with
                                    | false => rfl
                                    | true => exact absurd (HDD.out.1 hf) (fun hd => g2 (by have h := (hd j _ k y HX.out HY1.out).2; rw [← HG0.out] at h; exact h))
                                  unfold checkV; rw [← HN.out, decide_eq_false (show ¬ 16 < (N : Int) by have := H16.out; omega), HX2.out, HX3.out, HX4.out, HX5.out, hp]; simp)
                                subst g1
                                go_wp2_with fail
                                go_ret
                                exact ⟨by rw [HY.out]; (first | done | rfl), HB2.out⟩
                            · have HY := Lib.hid (show checkV ps gs = 5 by
                                have hp : distB (memS gs) = false := by
                                  cases hf : distB (memS gs) with
                                  | false => rfl
                                  | true => exact absurd (HDD.out.1 hf) (fun hd => g1 (by have h := (hd j _ k y HX.out HY1.out).1; rw [← HG0.out] at h; exact h))
                                unfold checkV; rw [← HN.out, decide_eq_false (show ¬ 16 < (N : Int) by have := H16.out; omega), HX2.out, HX3.out, HX4.out, HX5.out, hp]; simp)
                              go_wp2_with fail
                              go_ret
                              exact ⟨by rw [HY.out]; (first | done | rfl), HB2.out⟩
                          · have HM := Lib.hid (HQD.out.step HX.out HQ2.out (by have := HMM.out; show ns.length ≤ k; omega))
                            have k4 : ¬ ((k : Int) < (M : Int)) := by omega
                            go_wp2_with fail
                            go_roundw
                            case rel => exact ⟨j + 1, by omega, by go_num, Lib.hid ⟨⟨HIS.out, HM.out⟩, HBR.out⟩⟩
                            case measure => (simp [intOf]) <;> omega
                    · have HCV := Lib.hid (show checkV ps gs = memE ps (memS gs) by
                        have hp : incB gs = true := (incB_iff gs).2 (fun k x y hx hy => HQ.out.1 k x y (by have := HN.out; have := (List.getElem?_eq_some_iff.1 hy).1; omega) hx hy)
                        have hp2 : distB (memS gs) = true := HDD.out.2 (fun i x k s hx hs => HQ.out.2 i x k s (by have := HN.out; have := (List.getElem?_eq_some_iff.1 hx).1; omega) hx hs)
                        unfold checkV; rw [← HN.out, decide_eq_false (show ¬ 16 < (N : Int) by have := H16.out; omega), HX2.out, HX3.out, HX4.out, HX5.out, hp, hp2]; simp)
                      have HB6 := Lib.hid HBO.out
                      have k2 : ¬ ((j : Int) < (N : Int)) := by omega
                      clear HQ HBO hlt
                      go_wp2_with fail
                      go_loopw [15] (fun i wr => ∃ j : Nat, j ≤ N ∧ i = .int .i64 j ∧ Hid ((memS (gs.take j)).any (fun s => !knownB ps s) = false ∧ Below w.heap.size w wr)) (fun i _ => N - (intOf i).toNat)
                      case atStart => exact ⟨0, by omega, rfl, Lib.hid ⟨rfl, HB6.out⟩⟩
                      case round =>
                        obtain ⟨j, hj, rfl, hH⟩ := hrel
                        obtain ⟨wo, rfl⟩ : ∃ x : World, x = wr := ⟨_, rfl⟩
                        have HQ := Lib.hid hH.out.1
                        have HBO := Lib.hid hH.out.2
                        clear hH
                        by_cases hlt : j < N
                        · obtain ⟨b, o, rfl, hbl, hcell⟩ := HI.out.at grL_len (by have := HN.out; omega)
                          obtain ⟨x, hx⟩ : ∃ x, gs[j]? = some x := ⟨_, List.getElem?_eq_getElem (by rw [← HN.out]; exact hlt)⟩
                          have HD0 := Lib.hid (hcell j _ hx 0 _ rfl)
                          have HD1 := Lib.hid (hcell j _ hx 1 _ rfl)
                          have HD2 := Lib.hid (hcell j _ hx 2 _ rfl)
                          have HBL := Lib.hid hbl
                          have k1 : (0 : Int) ≤ (j : Int) := by omega
                          have k2 : (j : Int) < (N : Int) := by omega
                          have HX := Lib.hid hx
                          clear hcell hbl hx
                          obtain ⟨nm, xa, xc, ns, dd⟩ := x
                          obtain ⟨M, hM⟩ : ∃ M, M = ns.length := ⟨_, rfl⟩
                          have HMM := Lib.hid hM
                          have HD1' := Lib.hid (show w.cell? ⟨b, o + j * 3 + 1, none⟩ = some (.slice xa M xc) by rw [hM]; exact HD1.out)
                          have HGX := Lib.hid (show InS w xa M 1 (flat stL ns) by rw [hM]; exact (HG.out _ (List.mem_of_getElem? HX.out)).1)
                          have hmm : M ≤ 9223372036854775807 := HGX.out.2.1
                          clear HD1 hM
                          go_wp2_with fail
                          go_loopw [16] (fun i wr => ∃ k : Nat, k ≤ M ∧ i = .int .i64 k ∧ Hid ((ns.take k).any (fun s => !knownB ps s) = false ∧ Below w.heap.size w wr)) (fun i _ => M - (intOf i).toNat)
                          case atStart => exact ⟨0, by omega, rfl, Lib.hid ⟨rfl, HBO.out⟩⟩
                          case round =>
                            obtain ⟨k, hk, rfl, hK⟩ := hrel
                            have HQ2 := Lib.hid hK.out.1
                            have HBR := Lib.hid hK.out.2
                            have c1 := (HBR.out.cell (p := ⟨b, o + j * 3 + 1, none⟩) HBL.out).trans HD1'.out
                            clear hK
                            by_cases hkl : k < M
                            · obtain ⟨b2, o2, rfl, hb2, hc2⟩ := InS.at (f := stL) (xs := ns) stL_len (by rw [← HMM.out]; exact HGX.out.keep HBR.out) (by have := HMM.out; omega)
                              obtain ⟨y, hy⟩ : ∃ y, ns[k]? = some y := ⟨_, List.getElem?_eq_getElem (by rw [← HMM.out]; exact hkl)⟩
                              have c3 := hc2 k _ hy 0 _ rfl
                              rw [Nat.add_zero, Nat.mul_one] at c3
                              have HY1 := Lib.hid hy
                              have k3 : (0 : Int) ≤ (k : Int) := by omega
                              have k4 : (k : Int) < (M : Int) := by omega
                              clear hb2 hc2 hy
                              obtain ⟨P, hP⟩ : ∃ P, P = pointI y ps := ⟨_, rfl⟩
                              have HPP := Lib.hid hP
                              have hpi := HPI.out y wr HBR.out
                              rw [← hP] at hpi
                              have HPY := Lib.hid hpi
                              clear hpi hP
                              go_wp2_with fail
                              refine HPY.out.mono ?_
                              rintro e w2 ⟨rfl, hb⟩
                              have HB2 := Lib.hid (HBR.out.trans (hb.mono HBR.out.size))
                              clear hb c1 c3
                              by_cases hp0 : P < 0
                              · have HY := Lib.hid (HCV.out.trans (memE_3 (mem_memS HX.out HY1.out) (pt_no (by rw [← HPP.out]; exact hp0))))
                                go_wp2_with fail
                                go_ret
                                exact ⟨by rw [HY.out]; (first | done | rfl), HB2.out⟩
                              · have HM2 := Lib.hid (show (ns.take (k + 1)).any (fun s => !knownB ps s) = false by rw [any_take_succ HY1.out, HQ2.out, Bool.false_or, pt_yes (by rw [← HPP.out]; exact hp0)]; rfl)
                                go_wp2_with fail
                                go_roundw
                                case rel => exact ⟨k + 1, by omega, by go_num, Lib.hid ⟨HM2.out, HB2.out⟩⟩
                                case measure => (simp [intOf]) <;> omega
                            · have HM := Lib.hid (show (memS (gs.take (j + 1))).any (fun s => !knownB ps s) = false by rw [memS_step HX.out, List.any_append, HQ.out, Bool.false_or]; exact any_take_all (p := (fun s => !knownB ps s)) (by have := HMM.out; show ns.length ≤ k; omega) HQ2.out)
                              have k4 : ¬ ((k : Int) < (M : Int)) := by omega
                              go_wp2_with fail
                              go_roundw
                              case rel => exact ⟨j + 1, by omega, by go_num, Lib.hid ⟨HM.out, HBR.out⟩⟩
                              case measure => (simp [intOf]) <;> omega
                        · have HKN := Lib.hid (memS_all (p := (fun s => !knownB ps s)) (by have := HN.out; omega) HQ.out)
                          have HB8 := Lib.hid HBO.out
                          have k2 : ¬ ((j : Int) < (N : Int)) := by omega
                          clear HQ HBO hlt
                          go_wp2_with fail
                          go_loopw [17] (fun i wr => ∃ j : Nat, j ≤ N ∧ i = .int .i64 j ∧ Hid ((memS (gs.take j)).any (fun s => !fitB ps s) = false ∧ Below w.heap.size w wr)) (fun i _ => N - (intOf i).toNat)
                          case atStart => exact ⟨0, by omega, rfl, Lib.hid ⟨rfl, HB8.out⟩⟩
                          case round =>
                            obtain ⟨j, hj, rfl, hH⟩ := hrel
                            obtain ⟨wo, rfl⟩ : ∃ x : World, x = wr := ⟨_, rfl⟩
                            have HQ := Lib.hid hH.out.1
                            have HBO := Lib.hid hH.out.2
                            clear hH
                            by_cases hlt : j < N
                            · obtain ⟨b, o, rfl, hbl, hcell⟩ := HI.out.at grL_len (by have := HN.out; omega)
                              obtain ⟨x, hx⟩ : ∃ x, gs[j]? = some x := ⟨_, List.getElem?_eq_getElem (by rw [← HN.out]; exact hlt)⟩
                              have HD0 := Lib.hid (hcell j _ hx 0 _ rfl)
                              have HD1 := Lib.hid (hcell j _ hx 1 _ rfl)
                              have HD2 := Lib.hid (hcell j _ hx 2 _ rfl)
                              have HBL := Lib.hid hbl
                              have k1 : (0 : Int) ≤ (j : Int) := by omega
                              have k2 : (j : Int) < (N : Int) := by omega
                              have HX := Lib.hid hx
                              clear hcell hbl hx
                              obtain ⟨nm, xa, xc, ns, dd⟩ := x
                              obtain ⟨M, hM⟩ : ∃ M, M = ns.length := ⟨_, rfl⟩
                              have HMM := Lib.hid hM
                              have HD1' := Lib.hid (show w.cell? ⟨b, o + j * 3 + 1, none⟩ = some (.slice xa M xc) by rw [hM]; exact HD1.out)
                              have HGX := Lib.hid (show InS w xa M 1 (flat stL ns) by rw [hM]; exact (HG.out _ (List.mem_of_getElem? HX.out)).1)
                              have hmm : M ≤ 9223372036854775807 := HGX.out.2.1
                              clear HD1 hM
                              go_wp2_with fail
                              go_loopw [18] (fun i wr => ∃ k : Nat, k ≤ M ∧ i = .int .i64 k ∧ Hid ((ns.take k).any (fun s => !fitB ps s) = false ∧ Below w.heap.size w wr)) (fun i _ => M - (intOf i).toNat)
                              case atStart => exact ⟨0, by omega, rfl, Lib.hid ⟨rfl, HBO.out⟩⟩
                              case round =>
                                obtain ⟨k, hk, rfl, hK⟩ := hrel
                                have HQ2 := Lib.hid hK.out.1
                                have HBR := Lib.hid hK.out.2
                                have c1 := (HBR.out.cell (p := ⟨b, o + j * 3 + 1, none⟩) HBL.out).trans HD1'.out
                                clear hK
                                by_cases hkl : k < M
                                · obtain ⟨b2, o2, rfl, hb2, hc2⟩ := InS.at (f := stL) (xs := ns) stL_len (by rw [← HMM.out]; exact HGX.out.keep HBR.out) (by have := HMM.out; omega)
                                  obtain ⟨y, hy⟩ : ∃ y, ns[k]? = some y := ⟨_, List.getElem?_eq_getElem (by rw [← HMM.out]; exact hkl)⟩
                                  have c3 := hc2 k _ hy 0 _ rfl
                                  rw [Nat.add_zero, Nat.mul_one] at c3
                                  have HY1 := Lib.hid hy
                                  have k3 : (0 : Int) ≤ (k : Int) := by omega
                                  have k4 : (k : Int) < (M : Int) := by omega
                                  clear hb2 hc2 hy
                                  obtain ⟨i, p, hpi0, hip, hfp⟩ := pt_at (known_of HKN.out (mem_memS HX.out HY1.out))
                                  have hpi := HPI.out y wr HBR.out
                                  rw [hpi0] at hpi
                                  have HPY := Lib.hid hpi
                                  have HIP := Lib.hid hip
                                  have HFP := Lib.hid hfp
                                  clear hpi hpi0 hip hfp
                                  go_wp2_with fail
                                  refine HPY.out.mono ?_
                                  rintro e w2 ⟨rfl, hb⟩
                                  have HB2 := Lib.hid (HBR.out.trans (hb.mono HBR.out.size))
                                  clear hb c1 c3
                                  obtain ⟨pb, po, rfl, hpbl, hpc⟩ := HP.out.at ptL_len (by have := (List.getElem?_eq_some_iff.1 HIP.out).1; omega)
                                  obtain ⟨pnm, pk, pr, u, lo, hi, st, sa, sn, sc, dk, dn, on, off⟩ := p
                                  have d0 := (HB2.out.cell (p := ⟨pb, po + i * 12 + 0, none⟩) hpbl).trans (hpc i _ HIP.out 0 _ rfl)
                                  have d1 := (HB2.out.cell (p := ⟨pb, po + i * 12 + 1, none⟩) hpbl).trans (hpc i _ HIP.out 1 _ rfl)
                                  have d2 := (HB2.out.cell (p := ⟨pb, po + i * 12 + 2, none⟩) hpbl).trans (hpc i _ HIP.out 2 _ rfl)
                                  have d3 := (HB2.out.cell (p := ⟨pb, po + i * 12 + 3, none⟩) hpbl).trans (hpc i _ HIP.out 3 _ rfl)
                                  have d4 := (HB2.out.cell (p := ⟨pb, po + i * 12 + 4, none⟩) hpbl).trans (hpc i _ HIP.out 4 _ rfl)
                                  have d5 := (HB2.out.cell (p := ⟨pb, po + i * 12 + 5, none⟩) hpbl).trans (hpc i _ HIP.out 5 _ rfl)
                                  have d6 := (HB2.out.cell (p := ⟨pb, po + i * 12 + 6, none⟩) hpbl).trans (hpc i _ HIP.out 6 _ rfl)
                                  have d7 := (HB2.out.cell (p := ⟨pb, po + i * 12 + 7, none⟩) hpbl).trans (hpc i _ HIP.out 7 _ rfl)
                                  have d8 := (HB2.out.cell (p := ⟨pb, po + i * 12 + 8, none⟩) hpbl).trans (hpc i _ HIP.out 8 _ rfl)
                                  have d9 := (HB2.out.cell (p := ⟨pb, po + i * 12 + 9, none⟩) hpbl).trans (hpc i _ HIP.out 9 _ rfl)
                                  have d10 := (HB2.out.cell (p := ⟨pb, po + i * 12 + 10, none⟩) hpbl).trans (hpc i _ HIP.out 10 _ rfl)
                                  have d11 := (HB2.out.cell (p := ⟨pb, po + i * 12 + 11, none⟩) hpbl).trans (hpc i _ HIP.out 11 _ rfl)
                                  rw [Nat.add_zero] at d0
                                  have k5 : (0 : Int) ≤ (i : Int) := by omega
                                  have k6 : (i : Int) < (M0 : Int) := by have h1 := (List.getElem?_eq_some_iff.1 HIP.out).1; have := HM0.out; omega
                                  have NW := Lib.hid (row_fresh w2 #[.string pnm, .int .i64 pk, .int .i64 pr, .string u, .int .i64 lo, .int .i64 hi, .int .i64 st, .slice sa sn sc, .int .i64 dk, .int .i64 dn, .int .i64 on, .int .i64 off] 91)
                                  have HB3 := Lib.hid (HB2.out.trans ((bel_fresh (w := w2) (Obj.cells #[.string pnm, .int .i64 pk, .int .i64 pr, .string u, .int .i64 lo, .int .i64 hi, .int .i64 st, .slice sa sn sc, .int .i64 dk, .int .i64 dn, .int .i64 on, .int .i64 off] 91)).mono HB2.out.size))
                                  clear hpbl hpc
                                  have n_0 := NW.out.c 0 _ rfl
                                  have n_1 := NW.out.c 1 _ rfl
                                  have n_2 := NW.out.c 2 _ rfl
                                  have n_3 := NW.out.c 3 _ rfl
                                  have n_4 := NW.out.c 4 _ rfl
                                  have n_5 := NW.out.c 5 _ rfl
                                  have n_6 := NW.out.c 6 _ rfl
                                  have n_7 := NW.out.c 7 _ rfl
                                  have n_8 := NW.out.c 8 _ rfl
                                  have n_9 := NW.out.c 9 _ rfl
                                  have n_10 := NW.out.c 10 _ rfl
                                  have n_11 := NW.out.c 11 _ rfl
                                  by_cases hr : pr = 2
                                  · subst hr
                                    by_cases hkk : pk = 2
                                    · subst hkk
                                      have HM2 := Lib.hid (show (ns.take (k + 1)).any (fun s => !fitB ps s) = false by rw [any_take_succ HY1.out, HQ2.out, Bool.false_or, HFP.out, show okP ⟨pnm, 2, 2, u, lo, hi, st, sa, sn, sc, dk, dn, on, off⟩ = true from by simp [okP]]; rfl)
                                      go_wp2_with fail
                                      go_roundw
                                      case rel => exact ⟨k + 1, by omega, by go_num, Lib.hid ⟨HM2.out, HB3.out⟩⟩
                                      case measure => (simp [intOf]) <;> omega
                                    · have HY := Lib.hid (HCV.out.trans (memE_11 HKN.out (mem_memS HX.out HY1.out) (HFP.out.trans (show okP ⟨pnm, pk, 2, u, lo, hi, st, sa, sn, sc, dk, dn, on, off⟩ = false from by simp [okP, hkk]))))
                                      go_wp2_with fail
                                      go_ret
                                      exact ⟨by rw [HY.out]; (first | done | rfl), HB3.out⟩
                                  · have HY := Lib.hid (HCV.out.trans (memE_11 HKN.out (mem_memS HX.out HY1.out) (HFP.out.trans (show okP ⟨pnm, pk, pr, u, lo, hi, st, sa, sn, sc, dk, dn, on, off⟩ = false from by simp [okP, hr]))))
                                    go_wp2_with fail
                                    go_ret
                                    exact ⟨by rw [HY.out]; (first | done | rfl), HB3.out⟩
                                · have HM := Lib.hid (show (memS (gs.take (j + 1))).any (fun s => !fitB ps s) = false by rw [memS_step HX.out, List.any_append, HQ.out, Bool.false_or]; exact any_take_all (p := (fun s => !fitB ps s)) (by have := HMM.out; show ns.length ≤ k; omega) HQ2.out)
                                  have k4 : ¬ ((k : Int) < (M : Int)) := by omega
                                  go_wp2_with fail
                                  go_roundw
                                  case rel => exact ⟨j + 1, by omega, by go_num, Lib.hid ⟨HM.out, HBR.out⟩⟩
                                  case measure => (simp [intOf]) <;> omega
                            · have HY := Lib.hid (HCV.out.trans (memE_0 HKN.out (memS_all (by have := HN.out; omega) HQ.out)))
                              have k2 : ¬ ((j : Int) < (N : Int)) := by omega
                              go_wp2_with fail
                              go_ret
                              exact ⟨by rw [HY.out]; (first | done | rfl), HBO.out⟩
end Go.Proofs.Ytojbhbifbennfaa
