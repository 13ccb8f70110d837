/- Contracts of the closures of winner, slices.IndexFunc and ContainsFunc over requests. -/
import Derived.Test.YtojbhbifbennfaaA
import Derived.Shelf.SlSorted.Search
namespace Go.Proofs.Ytojbhbifbennfaa
open Go.RowKit Go.Shelf

theorem askB_off {lo hi : Int} {x : RqD} (h : onB x.k x.n = false) : askB lo hi x = false := by unfold askB; rw [h]; rfl
theorem askB_lo {lo hi : Int} {x : RqD} (h : ¬ lo ≤ x.l) : askB lo hi x = false := by unfold askB; rw [decide_eq_false h, Bool.false_and, Bool.and_false]
theorem askB_hi {lo hi : Int} {x : RqD} (h : ¬ x.l ≤ hi) : askB lo hi x = false := by unfold askB; rw [decide_eq_false h, Bool.and_false, Bool.and_false]
theorem askB_yes {lo hi : Int} {x : RqD} (h : onB x.k x.n = true) (h1 : lo ≤ x.l) (h2 : x.l ≤ hi) : askB lo hi x = true := by unfold askB; rw [h, decide_eq_true h1, decide_eq_true h2]; rfl

set_option maxHeartbeats 4000000 in
set_option maxRecDepth 100000 in
theorem asks_any (lo hi l k n : Int) (b1 b2 : Nat) (w : World) (h1 : w.cell? ⟨b1, 0, none⟩ = some (.int .i64 lo)) (h2 : w.cell? ⟨b2, 0, none⟩ = some (.int .i64 hi)) : Calls Try.prog 83 #[.agg #[.int .i64 l, .int .i64 k, .int .i64 n], .pointer (some ⟨b1, 0, none⟩), .pointer (some ⟨b2, 0, none⟩)] w fun e w' => e = .returned (.bool (askB lo hi ⟨l, k, n⟩)) ∧ Below w.heap.size w w' := by
  obtain ⟨W, g, hW, hg, R, B, sz⟩ := box1 w #[.int .i64 l, .int .i64 k, .int .i64 n] 113
  have HR0 := Lib.hid R
  have HB0 := Lib.hid B
  have HC1 := Lib.hid h1
  have HC2 := Lib.hid h2
  have l1 : b1 < w.heap.size := World.block_lt_of_cell? _ _ h1
  have l2 : b2 < w.heap.size := World.block_lt_of_cell? _ _ h2
  have HL := Lib.hid (And.intro l1 l2)
  have hon := fun w => isOn_any k n w
  obtain ⟨F, hF⟩ : ∃ F, F = onB k n := ⟨_, rfl⟩
  rw [← hF] at hon
  have HON := Lib.hid hon
  have HF := Lib.hid hF
  clear R B sz h1 h2 l1 l2 hon hF
  go_enter Try.func83, Try.ntmps83
  go_wp2_with fail
  rw [← hW]
  try rw [← hg]
  clear hW hg
  have r_0 := HR0.out.c 0 _ rfl
  have r_1 := HR0.out.c 1 _ rfl
  have r_2 := HR0.out.c 2 _ rfl
  go_wp2_with fail
  refine (HON.out _).mono ?_
  rintro e w1 ⟨rfl, hb⟩
  have HR1 := Lib.hid (HR0.out.keep hb)
  have HB1 := Lib.hid (HB0.out.trans (hb.mono HB0.out.size))
  clear hb HR0 HB0 r_0 r_1 r_2
  have x1 := (HB1.out.cell (p := ⟨b1, 0, none⟩) HL.out.1).trans HC1.out
  have x2 := (HB1.out.cell (p := ⟨b2, 0, none⟩) HL.out.2).trans HC2.out
  have r_0 := HR1.out.c 0 _ rfl
  have r_1 := HR1.out.c 1 _ rfl
  have r_2 := HR1.out.c 2 _ rfl
  cases F
  · have HY := Lib.hid (askB_off (lo := lo) (hi := hi) (x := ⟨l, k, n⟩) HF.out.symm)
    go_wp2_with fail
    go_ret
    exact ⟨by rw [HY.out]; (first | done | rfl), HB1.out⟩
  by_cases h1 : lo ≤ l
  · by_cases h2 : l ≤ hi
    · have HY := Lib.hid (askB_yes (lo := lo) (hi := hi) (x := ⟨l, k, n⟩) HF.out.symm h1 h2)
      go_wp2_with fail
      go_ret
      exact ⟨by rw [HY.out]; (first | done | rfl), HB1.out⟩
    · have HY := Lib.hid ((askB_hi (lo := lo) (hi := hi) (x := ⟨l, k, n⟩) h2).trans (decide_eq_false h2).symm)
      go_wp2_with fail
      go_ret
      exact ⟨by rw [HY.out]; (first | done | rfl), HB1.out⟩
  · have HY := Lib.hid (askB_lo (lo := lo) (hi := hi) (x := ⟨l, k, n⟩) h1)
    go_wp2_with fail
    go_ret
    exact ⟨by rw [HY.out]; (first | done | rfl), HB1.out⟩

def firstI (p : RqD → Bool) : List RqD → Nat → Int
  | [], _ => -1
  | x :: r, i => if p x = true then (i : Int) else firstI p r (i + 1)
theorem firstI_hit {p : RqD → Bool} {qs : List RqD} {j : Nat} {x : RqD} (hx : qs[j]? = some x) (h : p x = true) : firstI p (qs.drop j) j = j := by
  rw [drop_cons hx]; exact if_pos h
theorem firstI_miss {p : RqD → Bool} {qs : List RqD} {j : Nat} {x : RqD} (hx : qs[j]? = some x) (h : p x = false) : firstI p (qs.drop j) j = firstI p (qs.drop (j + 1)) (j + 1) := by
  rw [drop_cons hx]; exact if_neg (by rw [h]; simp)
theorem firstI_end (p : RqD → Bool) (qs : List RqD) : firstI p (qs.drop qs.length) qs.length = -1 := by rw [List.drop_length]; rfl
theorem firstI_any (p : RqD → Bool) (qs : List RqD) : ∀ i : Nat, decide (0 ≤ firstI p qs i) = qs.any p := by
  induction qs with
  | nil => intro i; rfl
  | cons x r ih =>
    intro i
    show decide (0 ≤ if p x = true then (i : Int) else firstI p r (i + 1)) = (p x || r.any p)
    by_cases h : p x = true
    · rw [if_pos h, h, Bool.true_or]; exact decide_eq_true (by omega)
    · rw [if_neg h, ih (i + 1), show p x = false by simpa using h, Bool.false_or]
/-- what is asked of a predicate that may lay blocks of its own -/
def PredQ (g : Nat) (lb : Array Value) (p : RqD → Bool) (w : World) : Prop := ∀ (W : World) (l k n : Int), Below w.heap.size w W → Calls Try.prog g (#[.agg #[.int .i64 l, .int .i64 k, .int .i64 n]] ++ lb) W fun e w' => e = .returned (.bool (p ⟨l, k, n⟩)) ∧ Below W.heap.size W w'

set_option maxHeartbeats 4000000 in
set_option maxRecDepth 100000 in
theorem idx_any (g : Nat) (lb : Array Value) (p : RqD → Bool) (a : Option Addr) (cap : Nat) (qs : List RqD) (w : World) (eg : ∀ args w, (callFunc g args).run Try.prog w = .ok (.enter g args) w) (hp : PredQ g lb p w) (hin : InS w a qs.length 3 (flat rqL qs)) : Calls Try.prog 85 #[.slice a qs.length cap, .func (.func g) #[] lb] w fun e w' => e = .returned (.int .i64 (firstI p qs 0)) ∧ Below w.heap.size w w' := by
  obtain ⟨N, hN⟩ : ∃ N, N = qs.length := ⟨_, rfl⟩
  have HN := Lib.hid hN
  have HI := Lib.hid hin
  have HP := Lib.hid hp
  rw [← hN]
  clear hN hin hp
  go_enter Try.func85, Try.ntmps85
  go_wp2_with fail
  go_loopw [5, 8] (fun _ i wr => ∃ j : Nat, j ≤ N ∧ i = .int .i64 j ∧ Hid (firstI p qs 0 = firstI p (qs.drop j) j ∧ Below w.heap.size w wr)) (fun _ i _ => N - (intOf i).toNat)
  case atStart => exact ⟨0, by omega, rfl, Lib.hid ⟨rfl, Below.refl _ _⟩⟩
  case round =>
    obtain ⟨j, hj, rfl, hH⟩ := hrel
    by_cases hlt : j < N
    · have hjx : j < qs.length := by rw [← HN.out]; exact hlt
      obtain ⟨b, o, rfl, hbl, hcell⟩ := (HI.out.keep hH.out.2).at rqL_len (by omega)
      obtain ⟨⟨l, k, n⟩, hx⟩ : ∃ x, qs[j]? = some x := ⟨_, List.getElem?_eq_getElem hjx⟩
      have c0 := hcell j _ hx 0 _ rfl
      have c1 := hcell j _ hx 1 _ rfl
      have c2 := hcell j _ hx 2 _ rfl
      rw [Nat.add_zero] at c0
      have hc := HP.out wr l k n hH.out.2
      obtain ⟨F, hF⟩ : ∃ F, F = p ⟨l, k, n⟩ := ⟨_, rfl⟩
      rw [← hF] at hc
      have HC := Lib.hid hc
      have HBW := Lib.hid hH.out.2
      have HF := Lib.hid hF
      have HX := Lib.hid hx
      have HFI := Lib.hid hH.out.1
      have k1 : (0 : Int) ≤ (j : Int) := by omega
      have k2 : (j : Int) < (N : Int) := by omega
      have k3 : N ≤ 9223372036854775807 := by have := HI.out.2.1; have := HN.out; omega
      clear hjx hcell hx hc hF hH hbl
      cases F
      · have HM := Lib.hid (HFI.out.trans (firstI_miss HX.out HF.out.symm))
        go_wp2_with (go_at_fn g; refine HC.out.mono ?_; rintro e w' ⟨rfl, hb⟩)
        have HB2 := Lib.hid (HBW.out.trans (hb.mono HBW.out.size))
        go_roundw
        case rel => exact ⟨j + 1, by omega, by go_num, Lib.hid ⟨HM.out, HB2.out⟩⟩
        case measure => (simp [intOf]) <;> omega
      · have HM := Lib.hid (HFI.out.trans (firstI_hit HX.out HF.out.symm))
        go_wp2_with (go_at_fn g; refine HC.out.mono ?_; rintro e w' ⟨rfl, hb⟩)
        have HB2 := Lib.hid (HBW.out.trans (hb.mono HBW.out.size))
        go_ret
        exact ⟨by rw [HM.out]; (first | done | rfl), HB2.out⟩
    · obtain rfl : j = N := by omega
      have HM := Lib.hid (show firstI p qs 0 = -1 from hH.out.1.trans (by rw [HN.out]; exact firstI_end p qs))
      have HB2 := Lib.hid hH.out.2
      clear hH
      go_wp2_with fail
      go_ret
      exact ⟨by rw [HM.out]; (first | done | rfl), HB2.out⟩

set_option maxRecDepth 100000 in
theorem con_any (g : Nat) (lb : Array Value) (p : RqD → Bool) (a : Option Addr) (cap : Nat) (qs : List RqD) (w : World) (eg : ∀ args w, (callFunc g args).run Try.prog w = .ok (.enter g args) w) (hp : PredQ g lb p w) (hin : InS w a qs.length 3 (flat rqL qs)) : Calls Try.prog 81 #[.slice a qs.length cap, .func (.func g) #[] lb] w fun e w' => e = .returned (.bool (qs.any p)) ∧ Below w.heap.size w w' := by
  have HI := Lib.hid (idx_any g lb p a cap qs w eg hp hin)
  have HA := Lib.hid (firstI_any p qs 0)
  obtain ⟨N, hN⟩ : ∃ N, N = qs.length := ⟨_, rfl⟩
  rw [← hN] at HI ⊢
  obtain ⟨I, hI⟩ : ∃ I, I = firstI p qs 0 := ⟨_, rfl⟩
  rw [← hI] at HI HA
  clear eg hp hin hN hI
  go_enter Try.func81, Try.ntmps81
  go_wp2_with fail
  refine HI.out.mono ?_
  rintro e w1 ⟨rfl, hb⟩
  have HB := Lib.hid hb
  clear hb
  have HY := Lib.hid HA.out.symm
  go_wp2_with fail
  go_ret
  exact ⟨by rw [HY.out]; (first | done | rfl), HB.out⟩
end Go.Proofs.Ytojbhbifbennfaa
