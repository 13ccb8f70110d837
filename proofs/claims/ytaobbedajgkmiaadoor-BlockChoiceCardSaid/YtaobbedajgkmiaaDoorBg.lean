/- slices.IndexFunc, ContainsFunc over bounds; the closure of Params; areAllowed; agree at the timer's names. -/
import Derived.Test.YtaobbedajgkmiaaDoorBf
import Derived.Shelf.SlSorted.Search
namespace Go.Proofs.YtaobbedajgkmiaaDoor
open Go.RowKit Go.Shelf

def firstI (p : BndD → Bool) : List BndD → Nat → Int
  | [], _ => -1
  | x :: r, i => if p x = true then (i : Int) else firstI p r (i + 1)
theorem firstI_hit {p : BndD → Bool} {qs : List BndD} {j : Nat} {x : BndD} (hx : qs[j]? = some x) (h : p x = true) : firstI p (qs.drop j) j = j := by
  rw [drop_cons hx]; exact if_pos h
theorem firstI_miss {p : BndD → Bool} {qs : List BndD} {j : Nat} {x : BndD} (hx : qs[j]? = some x) (h : p x = false) : firstI p (qs.drop j) j = firstI p (qs.drop (j + 1)) (j + 1) := by
  rw [drop_cons hx]; exact if_neg (by rw [h]; simp)
theorem firstI_end (p : BndD → Bool) (qs : List BndD) : firstI p (qs.drop qs.length) qs.length = -1 := by rw [List.drop_length]; rfl
theorem firstI_any (p : BndD → Bool) (qs : List BndD) : ∀ i : Nat, decide (0 ≤ firstI p qs i) = qs.any p := by
  induction qs with
  | nil => intro i; rfl
  | cons x r ih =>
    intro i
    show decide (0 ≤ if p x = true then (i : Int) else firstI p r (i + 1)) = (p x || r.any p)
    by_cases h : p x = true
    · rw [if_pos h, h, Bool.true_or]; exact decide_eq_true (by omega)
    · rw [if_neg h, ih (i + 1), show p x = false by simpa using h, Bool.false_or]
/-- what is asked of a predicate that may lay blocks of its own -/
def PredQ (g : Nat) (lb : Array Value) (p : BndD → Bool) (w : World) : Prop := ∀ (W : World) (l : ByteArray) (k n d : Int), Below w.heap.size w W → Calls Tryd.prog g (#[.agg #[.string l, .int .i64 k, .int .i64 n, .int .i64 d]] ++ lb) W fun e w' => e = .returned (.bool (p ⟨l, k, n, d⟩)) ∧ Below W.heap.size W w'

set_option maxHeartbeats 4000000 in
set_option maxRecDepth 100000 in
theorem idx_any (g : Nat) (lb : Array Value) (p : BndD → Bool) (a : Option Addr) (cap : Nat) (qs : List BndD) (w : World) (eg : ∀ args w, (callFunc g args).run Tryd.prog w = .ok (.enter g args) w) (hp : PredQ g lb p w) (hin : InS w a qs.length 4 (flat bndL qs)) : Calls Tryd.prog 44 #[.slice a qs.length cap, .func (.func g) #[] lb] w fun e w' => e = .returned (.int .i64 (firstI p qs 0)) ∧ Below w.heap.size w w' := by
  obtain ⟨N, hN⟩ : ∃ N, N = qs.length := ⟨_, rfl⟩
  have HN := Lib.hid hN
  have HI := Lib.hid hin
  have HP := Lib.hid hp
  rw [← hN]
  clear hN hin hp
  go_enter Tryd.func44, Tryd.ntmps44
  go_wp2_with fail
  go_loopw [5, 8] (fun _ i wr => ∃ j : Nat, j ≤ N ∧ i = .int .i64 j ∧ Hid (firstI p qs 0 = firstI p (qs.drop j) j ∧ Below w.heap.size w wr)) (fun _ i _ => N - (intOf i).toNat)
  case atStart => exact ⟨0, by omega, rfl, Lib.hid ⟨rfl, Below.refl _ _⟩⟩
  case round =>
    obtain ⟨j, hj, rfl, hH⟩ := hrel
    by_cases hlt : j < N
    · have hjx : j < qs.length := by rw [← HN.out]; exact hlt
      obtain ⟨b, o, rfl, hbl, hcell⟩ := (HI.out.keep hH.out.2).at bndL_len (by omega)
      obtain ⟨⟨l, k, n, d⟩, hx⟩ : ∃ x, qs[j]? = some x := ⟨_, List.getElem?_eq_getElem hjx⟩
      have c0 := hcell j _ hx 0 _ rfl
      have c1 := hcell j _ hx 1 _ rfl
      have c2 := hcell j _ hx 2 _ rfl
      have c3 := hcell j _ hx 3 _ rfl
      rw [Nat.add_zero] at c0
      have hc := HP.out wr l k n d hH.out.2
      obtain ⟨F, hF⟩ : ∃ F, F = p ⟨l, k, n, d⟩ := ⟨_, rfl⟩
      rw [← hF] at hc
      have HC := Lib.hid hc
      have HBW := Lib.hid hH.out.2
      have HF := Lib.hid hF
      have HX := Lib.hid hx
      have HFI := Lib.hid hH.out.1
      have k1 : (0 : Int) ≤ (j : Int) := by omega
      have k2 : (j : Int) < (N : Int) := by omega
      have k3 : N ≤ 9223372036854775807 := by have := HI.out.2.1; have := HN.out; omega
      clear hjx hcell hx hc hF hH hbl
      cases F
      · have HM := Lib.hid (HFI.out.trans (firstI_miss HX.out HF.out.symm))
        go_wp2_with (go_at_fn g; refine HC.out.mono ?_; rintro e w' ⟨rfl, hb⟩)
        have HB2 := Lib.hid (HBW.out.trans (hb.mono HBW.out.size))
        go_roundw
        case rel => exact ⟨j + 1, by omega, by go_num, Lib.hid ⟨HM.out, HB2.out⟩⟩
        case measure => (simp [intOf]) <;> omega
      · have HM := Lib.hid (HFI.out.trans (firstI_hit HX.out HF.out.symm))
        go_wp2_with (go_at_fn g; refine HC.out.mono ?_; rintro e w' ⟨rfl, hb⟩)
        have HB2 := Lib.hid (HBW.out.trans (hb.mono HBW.out.size))
        go_ret
        exact ⟨by rw [HM.out]; (first | done | rfl), HB2.out⟩
    · obtain rfl : j = N := by omega
      have HM := Lib.hid (show firstI p qs 0 = -1 from hH.out.1.trans (by rw [HN.out]; exact firstI_end p qs))
      have HB2 := Lib.hid hH.out.2
      clear hH
      go_wp2_with fail
      go_ret
      exact ⟨by rw [HM.out]; (first | done | rfl), HB2.out⟩

set_option maxRecDepth 100000 in
theorem con_any (g : Nat) (lb : Array Value) (p : BndD → Bool) (a : Option Addr) (cap : Nat) (qs : List BndD) (w : World) (eg : ∀ args w, (callFunc g args).run Tryd.prog w = .ok (.enter g args) w) (hp : PredQ g lb p w) (hin : InS w a qs.length 4 (flat bndL qs)) : Calls Tryd.prog 29 #[.slice a qs.length cap, .func (.func g) #[] lb] w fun e w' => e = .returned (.bool (qs.any p)) ∧ Below w.heap.size w w' := by
  have HI := Lib.hid (idx_any g lb p a cap qs w eg hp hin)
  have HA := Lib.hid (firstI_any p qs 0)
  obtain ⟨N, hN⟩ : ∃ N, N = qs.length := ⟨_, rfl⟩
  rw [← hN] at HI ⊢
  obtain ⟨I, hI⟩ : ∃ I, I = firstI p qs 0 := ⟨_, rfl⟩
  rw [← hI] at HI HA
  clear eg hp hin hN hI
  go_enter Tryd.func29, Tryd.ntmps29
  go_wp2_with fail
  refine HI.out.mono ?_
  rintro e w1 ⟨rfl, hb⟩
  have HB := Lib.hid hb
  clear hb
  have HY := Lib.hid HA.out.symm
  go_wp2_with fail
  go_ret
  exact ⟨by rw [HY.out]; (first | done | rfl), HB.out⟩
def eqS (a b : ByteArray) : Bool := decide (a = b)
set_option maxRecDepth 100000 in
theorem prm1_any (nm : ByteArray) (lo hi df : Int) (pb : Nat) (qn : ByteArray) (qv : Int) (w : World) (hp : RowAt w pb [.string qn, .int .i64 qv]) : Calls Tryd.prog 30 #[.agg #[.string nm, .int .i64 lo, .int .i64 hi, .int .i64 df], .pointer (some ⟨pb, 0, none⟩)] w fun e w' => e = .returned (.bool (eqS nm qn)) ∧ Below w.heap.size w w' := by
  obtain ⟨W, g, hW, hg, R, B, sz⟩ := box1 w #[.string nm, .int .i64 lo, .int .i64 hi, .int .i64 df] 67
  have HR := Lib.hid R
  have HB := Lib.hid B
  have HP := Lib.hid (hp.keep B)
  go_enter Tryd.func30, Tryd.ntmps30
  go_upto_region 1 with fail
  rw [← hW]
  try rw [← hg]
  clear hW hg R B sz hp
  have r_0 := HR.out.c 0 _ rfl
  have r_1 := HR.out.c 1 _ rfl
  have r_2 := HR.out.c 2 _ rfl
  have r_3 := HR.out.c 3 _ rfl
  have p_0 := HP.out.c 0 _ rfl
  have p_1 := HP.out.c 1 _ rfl
  by_cases h : nm = qn
  · subst h
    have HE := Lib.hid (show eqS nm nm = true from decide_eq_true rfl)
    go_wp2_with fail
    go_ret
    exact ⟨by rw [HE.out]; (first | done | rfl | simp), HB.out⟩
  · have HE := Lib.hid (show eqS nm qn = false from decide_eq_false h)
    have h2 : (nm.toList == qn.toList) = false := by
      rw [beq_eq_false_iff_ne, toList_eq, toList_eq]
      intro e
      exact h (bytes_inj.1 e)
    clear h
    go_wp2_with fail
    go_ret
    exact ⟨by rw [HE.out]; (first | done | rfl | simp), HB.out⟩
/-- all numbers in their ranges -/
def inB : List BndD → List Int → Bool
  | [], [] => true
  | x :: r, v :: q => (decide (x.lo ≤ v) && decide (v ≤ x.hi)) && inB r q
  | _, _ => false
theorem inB_len : ∀ (r : List BndD) (q : List Int), r.length ≠ q.length → inB r q = false
  | [], [], h => absurd rfl h
  | [], _ :: _, _ => rfl
  | _ :: _, [], _ => rfl
  | x :: r, v :: q, h => by
    have := inB_len r q (fun e => h (by simp [e]))
    unfold inB; rw [this, Bool.and_false]
theorem inB_hit {pl : List BndD} {ps : List Int} {k : Nat} {x : BndD} {v : Int} (hx : pl[k]? = some x) (hv : ps[k]? = some v) (h : (decide (x.lo ≤ v) && decide (v ≤ x.hi)) = true) : inB (pl.drop k) (ps.drop k) = inB (pl.drop (k + 1)) (ps.drop (k + 1)) := by
  obtain ⟨h1, e1⟩ := List.getElem?_eq_some_iff.1 hx
  obtain ⟨h2, e2⟩ := List.getElem?_eq_some_iff.1 hv
  rw [List.drop_eq_getElem_cons h1, List.drop_eq_getElem_cons h2, e1, e2]
  show ((decide (x.lo ≤ v) && decide (v ≤ x.hi)) && _) = _
  rw [h, Bool.true_and]
theorem inB_miss {pl : List BndD} {ps : List Int} {k : Nat} {x : BndD} {v : Int} (hx : pl[k]? = some x) (hv : ps[k]? = some v) (h : (decide (x.lo ≤ v) && decide (v ≤ x.hi)) = false) : inB (pl.drop k) (ps.drop k) = false := by
  obtain ⟨h1, e1⟩ := List.getElem?_eq_some_iff.1 hx
  obtain ⟨h2, e2⟩ := List.getElem?_eq_some_iff.1 hv
  rw [List.drop_eq_getElem_cons h1, List.drop_eq_getElem_cons h2, e1, e2]
  show ((decide (x.lo ≤ v) && decide (v ≤ x.hi)) && _) = _
  rw [h, Bool.false_and]
def iL (x : Int) : List Value := [.int .i64 x]
theorem iL_len (x : Int) : (iL x).length = 1 := rfl
set_option maxHeartbeats 4000000 in
set_option maxRecDepth 100000 in
theorem allowed_any (rn : ByteArray) (a1 : Option Addr) (c1 : Nat) (i1 : Option Addr) (n1 d1 : Nat) (i2 : Option Addr) (n2 d2 : Nat) (rs rm : Int) (pl : List BndD) (pa : Option Addr) (pc : Nat) (ps : List Int) (w : World) (hp : InS w a1 pl.length 4 (flat bndL pl)) (hq : InS w pa ps.length 1 (flat iL ps)) :
    Calls Tryd.prog 31 #[.agg #[.string rn, .slice a1 pl.length c1, .slice i1 n1 d1, .slice i2 n2 d2, .int .i64 rs, .int .i64 rm], .slice pa ps.length pc] w fun e w' => e = .returned (.bool (inB pl ps)) ∧ Below w.heap.size w w' := by
  obtain ⟨N, hN⟩ : ∃ N, N = pl.length := ⟨_, rfl⟩
  obtain ⟨M, hM⟩ : ∃ M, M = ps.length := ⟨_, rfl⟩
  have HN := Lib.hid hN
  have HM := Lib.hid hM
  have HP := Lib.hid hp
  have HQ := Lib.hid hq
  have nN : N ≤ 9223372036854775807 := by rw [hN]; exact hp.2.1
  have nM : M ≤ 9223372036854775807 := by rw [hM]; exact hq.2.1
  rw [← hN, ← hM]
  clear hN hM hp hq
  obtain ⟨W, g, hW, hg, R, B, sz⟩ := box1 w #[.string rn, .slice a1 N c1, .slice i1 n1 d1, .slice i2 n2 d2, .int .i64 rs, .int .i64 rm] 30
  have HR := Lib.hid R
  have HB := Lib.hid B
  go_enter Tryd.func31, Tryd.ntmps31
  go_upto_region 1 with fail
  rw [← hW]
  try rw [← hg]
  clear hW hg R B sz
  by_cases hnm : M = N
  · subst hnm
    have r_0 := HR.out.c 0 _ rfl
    have r_1 := HR.out.c 1 _ rfl
    have r_2 := HR.out.c 2 _ rfl
    have r_3 := HR.out.c 3 _ rfl
    have r_4 := HR.out.c 4 _ rfl
    have r_5 := HR.out.c 5 _ rfl
    go_wp2_with fail
    clear r_0 r_1 r_2 r_3 r_4 r_5
    go_loopw [16] (fun i wr => ∃ k : Nat, k ≤ M ∧ i = .int .i64 k ∧ Hid (inB pl ps = inB (pl.drop k) (ps.drop k) ∧ Below w.heap.size w wr)) (fun i _ => M - (intOf i).toNat)
    case atStart => exact ⟨0, Nat.zero_le _, rfl, Lib.hid ⟨rfl, HB.out⟩⟩
    case round =>
      obtain ⟨k, hk, rfl, hH⟩ := hrel
      by_cases hlt : k < M
      · obtain ⟨bb, bo, rfl, hbl, hbc⟩ := (HP.out.keep hH.out.2).at bndL_len (by have := HN.out; omega)
        obtain ⟨qb, qo, rfl, hql, hqc⟩ := (HQ.out.keep hH.out.2).at iL_len (by have := HM.out; omega)
        obtain ⟨x, hx⟩ : ∃ x, pl[k]? = some x := ⟨_, List.getElem?_eq_getElem (by have := HN.out; omega)⟩
        obtain ⟨v, hv⟩ : ∃ x, ps[k]? = some x := ⟨_, List.getElem?_eq_getElem (by have := HM.out; omega)⟩
        have b0 := hbc k _ hx 0 _ rfl
        have b1 := hbc k _ hx 1 _ rfl
        have b2 := hbc k _ hx 2 _ rfl
        have b3 := hbc k _ hx 3 _ rfl
        have q0 := hqc k _ hv 0 _ rfl
        rw [Nat.add_zero] at b0
        rw [Nat.add_zero, Nat.mul_one] at q0
        have HX := Lib.hid hx
        have HV := Lib.hid hv
        obtain ⟨xn, xl, xh, xd⟩ := x
        have k1 : (0 : Int) ≤ (k : Int) := by omega
        have k2 : (k : Int) < (M : Int) := by omega
        have nal := (Below.refl wr.heap.size wr).alloc (Nat.le_refl _) (Obj.cells #[.string xn, .int .i64 xl, .int .i64 xh, .int .i64 xd] 67)
        have q1 := (nal.cell (p := ⟨qb, qo + k, none⟩) hql).trans q0
        have HF := Lib.hid (row_fresh wr #[.string xn, .int .i64 xl, .int .i64 xh, .int .i64 xd] 67)
        have HI := Lib.hid hH.out.1
        have B2 := Lib.hid (hH.out.2.trans (nal.mono hH.out.2.size))
        have hqne : qb ≠ wr.heap.size := Nat.ne_of_lt hql
        clear hx hv hbc hqc hH nal hbl
        go_upto_region 6 with fail
        by_cases g1 : xl ≤ v <;> by_cases g2 : v ≤ xh
        · have HJ := Lib.hid (HI.out.trans (inB_hit HX.out HV.out (by simp [g1, g2])))
          have e1 : decide (v < xl) = false := by rw [decide_eq_false_iff_not]; omega
          have e2 : decide (xh < v) = false := by rw [decide_eq_false_iff_not]; omega
          go_quiet (fail)
          (try simp only [Exit.then])
          have B3 := Lib.hid (B2.out.trans ((bel_drN nq).mono B2.out.size))
          go_wp2_with fail
          go_roundw
          case rel => exact ⟨k + 1, by omega, by go_num, Lib.hid ⟨HJ.out, B3.out⟩⟩
          case measure => (simp [intOf]) <;> omega
        all_goals
          have HJ := Lib.hid (HI.out.trans (inB_miss HX.out HV.out (by simp; omega)))
          first
            | (have e1 : decide (v < xl) = true := by rw [decide_eq_true_iff]; omega)
            | (have e1 : decide (v < xl) = false := by rw [decide_eq_false_iff_not]; omega
               have e2 : decide (xh < v) = true := by rw [decide_eq_true_iff]; omega)
          go_quiet (fail)
          (try simp only [Exit.then])
          have B3 := Lib.hid (B2.out.trans ((bel_drN nq).mono B2.out.size))
          go_wp2_with fail
          go_ret
          exact ⟨by rw [HJ.out]; (first | done | rfl), B3.out⟩
      · obtain rfl : k = M := by omega
        have HJ := Lib.hid (show inB pl ps = true by rw [hH.out.1, List.drop_of_length_le (by rw [← HN.out]; exact Nat.le_refl _), List.drop_of_length_le (by rw [← HM.out]; exact Nat.le_refl _)]; rfl)
        have B3 := Lib.hid hH.out.2
        clear hH
        go_wp2_with fail
        go_ret
        exact ⟨by rw [HJ.out]; (first | done | rfl), B3.out⟩
  · have r_0 := HR.out.c 0 _ rfl
    have r_1 := HR.out.c 1 _ rfl
    have r_2 := HR.out.c 2 _ rfl
    have r_3 := HR.out.c 3 _ rfl
    have r_4 := HR.out.c 4 _ rfl
    have r_5 := HR.out.c 5 _ rfl
    have HE := Lib.hid (inB_len pl ps (by rw [← HN.out, ← HM.out]; exact fun e => hnm e.symm))
    have h3 : decide ((M : Int) = (N : Int)) = false := by rw [decide_eq_false_iff_not]; omega
    have h4 : (M == N) = false := by rw [beq_eq_false_iff_ne]; exact hnm
    go_wp2_with fail
    go_ret
    exact ⟨by rw [HE.out]; (first | done | rfl), HB.out⟩
end Go.Proofs.YtaobbedajgkmiaaDoor
