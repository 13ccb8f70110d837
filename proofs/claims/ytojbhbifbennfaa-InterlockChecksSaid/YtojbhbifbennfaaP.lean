/- slices.IndexFunc and ContainsFunc over strings for any predicate; hasNames. -/
import Derived.Test.YtojbhbifbennfaaN
import Derived.Test.YtojbhbifbennfaaNb
namespace Go.Proofs.Ytojbhbifbennfaa
open Go.RowKit Go.Shelf

def stL (s : ByteArray) : List Value := [.string s]
theorem stL_len (s : ByteArray) : (stL s).length = 1 := rfl
def firstS (p : ByteArray → Bool) : List ByteArray → Nat → Int
  | [], _ => -1
  | x :: r, i => if p x = true then (i : Int) else firstS p r (i + 1)
theorem firstS_hit {p : ByteArray → Bool} {qs : List ByteArray} {j : Nat} {x : ByteArray} (hx : qs[j]? = some x) (h : p x = true) : firstS p (qs.drop j) j = j := by
  rw [drop_cons hx]; exact if_pos h
theorem firstS_miss {p : ByteArray → Bool} {qs : List ByteArray} {j : Nat} {x : ByteArray} (hx : qs[j]? = some x) (h : p x = false) : firstS p (qs.drop j) j = firstS p (qs.drop (j + 1)) (j + 1) := by
  rw [drop_cons hx]; exact if_neg (by rw [h]; simp)
theorem firstS_end (p : ByteArray → Bool) (qs : List ByteArray) : firstS p (qs.drop qs.length) qs.length = -1 := by rw [List.drop_length]; rfl
theorem firstS_any (p : ByteArray → Bool) (qs : List ByteArray) : ∀ i : Nat, decide (0 ≤ firstS p qs i) = qs.any p := by
  induction qs with
  | nil => intro i; rfl
  | cons x r ih =>
    intro i
    show decide (0 ≤ if p x = true then (i : Int) else firstS p r (i + 1)) = (p x || r.any p)
    by_cases h : p x = true
    · rw [if_pos h, h, Bool.true_or]; exact decide_eq_true (by omega)
    · rw [if_neg h, ih (i + 1), show p x = false by simpa using h, Bool.false_or]
def PredS (g : Nat) (lb : Array Value) (p : ByteArray → Bool) (w : World) : Prop := ∀ (W : World) (x : ByteArray), Below w.heap.size w W → Calls Try.prog g (#[.string x] ++ lb) W fun e w' => e = .returned (.bool (p x)) ∧ Below W.heap.size W w'

set_option maxHeartbeats 4000000 in
set_option maxRecDepth 100000 in
theorem sidx_any (g : Nat) (lb : Array Value) (p : ByteArray → Bool) (a : Option Addr) (cap : Nat) (qs : List ByteArray) (w : World) (eg : ∀ args w, (callFunc g args).run Try.prog w = .ok (.enter g args) w) (hp : PredS g lb p w) (hin : InS w a qs.length 1 (flat stL qs)) : Calls Try.prog 98 #[.slice a qs.length cap, .func (.func g) #[] lb] w fun e w' => e = .returned (.int .i64 (firstS p qs 0)) ∧ Below w.heap.size w w' := by
  obtain ⟨N, hN⟩ : ∃ N, N = qs.length := ⟨_, rfl⟩
  have HN := Lib.hid hN
  have HI := Lib.hid hin
  have HP := Lib.hid hp
  rw [← hN]
  clear hN hin hp
  go_enter Try.func98, Try.ntmps98
  go_wp2_with fail
  go_loopw [5, 8] (fun _ i wr => ∃ j : Nat, j ≤ N ∧ i = .int .i64 j ∧ Hid (firstS p qs 0 = firstS p (qs.drop j) j ∧ Below w.heap.size w wr)) (fun _ i _ => N - (intOf i).toNat)
  case atStart => exact ⟨0, by omega, rfl, Lib.hid ⟨rfl, Below.refl _ _⟩⟩
  case round =>
    obtain ⟨j, hj, rfl, hH⟩ := hrel
    by_cases hlt : j < N
    · have hjx : j < qs.length := by rw [← HN.out]; exact hlt
      obtain ⟨b, o, rfl, hbl, hcell⟩ := (HI.out.keep hH.out.2).at stL_len (by omega)
      obtain ⟨x, hx⟩ : ∃ x, qs[j]? = some x := ⟨_, List.getElem?_eq_getElem hjx⟩
      have c0 := hcell j _ hx 0 _ rfl
      rw [Nat.add_zero, Nat.mul_one] at c0
      have hc := HP.out wr x hH.out.2
      obtain ⟨F, hF⟩ : ∃ F, F = p x := ⟨_, rfl⟩
      rw [← hF] at hc
      have HC := Lib.hid hc
      have HBW := Lib.hid hH.out.2
      have HF := Lib.hid hF
      have HX := Lib.hid hx
      have HFI := Lib.hid hH.out.1
      have k1 : (0 : Int) ≤ (j : Int) := by omega
      have k2 : (j : Int) < (N : Int) := by omega
      have k3 : N ≤ 9223372036854775807 := by have := HI.out.2.1; have := HN.out; omega
      clear hjx hcell hx hc hF hH hbl
      cases F
      · have HM := Lib.hid (HFI.out.trans (firstS_miss HX.out HF.out.symm))
        go_wp2_with (go_at_fn g; refine HC.out.mono ?_; rintro e w' ⟨rfl, hb⟩)
        have HB2 := Lib.hid (HBW.out.trans (hb.mono HBW.out.size))
        go_roundw
        case rel => exact ⟨j + 1, by omega, by go_num, Lib.hid ⟨HM.out, HB2.out⟩⟩
        case measure => (simp [intOf]) <;> omega
      · have HM := Lib.hid (HFI.out.trans (firstS_hit HX.out HF.out.symm))
        go_wp2_with (go_at_fn g; refine HC.out.mono ?_; rintro e w' ⟨rfl, hb⟩)
        have HB2 := Lib.hid (HBW.out.trans (hb.mono HBW.out.size))
        go_ret
        exact ⟨by rw [HM.out]; (first | done | rfl), HB2.out⟩
    · obtain rfl : j = N := by omega
      have HM := Lib.hid (show firstS p qs 0 = -1 from hH.out.1.trans (by rw [HN.out]; exact firstS_end p qs))
      have HB2 := Lib.hid hH.out.2
      clear hH
      go_wp2_with fail
      go_ret
      exact ⟨by rw [HM.out]; (first | done | rfl), HB2.out⟩

set_option maxRecDepth 100000 in
theorem scon_any (g : Nat) (lb : Array Value) (p : ByteArray → Bool) (a : Option Addr) (cap : Nat) (qs : List ByteArray) (w : World) (eg : ∀ args w, (callFunc g args).run Try.prog w = .ok (.enter g args) w) (hp : PredS g lb p w) (hin : InS w a qs.length 1 (flat stL qs)) : Calls Try.prog 75 #[.slice a qs.length cap, .func (.func g) #[] lb] w fun e w' => e = .returned (.bool (qs.any p)) ∧ Below w.heap.size w w' := by
  have HI := Lib.hid (sidx_any g lb p a cap qs w eg hp hin)
  have HA := Lib.hid (firstS_any p qs 0)
  obtain ⟨N, hN⟩ : ∃ N, N = qs.length := ⟨_, rfl⟩
  rw [← hN] at HI ⊢
  obtain ⟨I, hI⟩ : ∃ I, I = firstS p qs 0 := ⟨_, rfl⟩
  rw [← hI] at HI HA
  clear eg hp hin hN hI
  go_enter Try.func75, Try.ntmps75
  go_wp2_with fail
  refine HI.out.mono ?_
  rintro e w1 ⟨rfl, hb⟩
  have HB := Lib.hid hb
  clear hb
  have HY := Lib.hid HA.out.symm
  go_wp2_with fail
  go_ret
  exact ⟨by rw [HY.out]; (first | done | rfl), HB.out⟩
def noNameB (s : ByteArray) : Bool := !nameB s
theorem noName_any (s : ByteArray) (w : World) : Calls Try.prog 73 #[.string s] w fun e w' => e = .returned (.bool (noNameB s)) ∧ Below w.heap.size w w' := by
  have hn := fun w => name_any s w
  obtain ⟨F, hF⟩ : ∃ F, F = nameB s := ⟨_, rfl⟩
  rw [← hF] at hn
  have HNM := Lib.hid hn
  have HY := Lib.hid (show noNameB s = !F by unfold noNameB; rw [hF])
  clear hn hF
  go_enter Try.func73, Try.ntmps73
  go_wp2_with fail
  refine (HNM.out _).mono ?_
  rintro e w1 ⟨rfl, hb⟩
  have HB1 := Lib.hid hb
  clear hb
  go_wp2_with fail
  go_ret
  exact ⟨by rw [HY.out]; (first | done | rfl), HB1.out⟩
theorem eg_noName : ∀ args w, (callFunc 73 args).run Try.prog w = .ok (.enter 73 args) w := enters_of Try.func73 (by kernel_rfl) rfl
def hasNamesB (nm : ByteArray) (ns : List ByteArray) : Bool := nameB nm && !ns.any noNameB

set_option maxHeartbeats 4000000 in
set_option maxRecDepth 100000 in
theorem hasNames_any (nm : ByteArray) (pa : Option Addr) (pc : Nat) (ns : List ByteArray) (dd : Int) (w : World) (hin : InS w pa ns.length 1 (flat stL ns)) : Calls Try.prog 40 #[.agg #[.string nm, .slice pa ns.length pc, .int .i64 dd]] w fun e w' => e = .returned (.bool (hasNamesB nm ns)) ∧ Below w.heap.size w w' := by
  have hn := fun w => name_any nm w
  obtain ⟨F, hF⟩ : ∃ F, F = nameB nm := ⟨_, rfl⟩
  rw [← hF] at hn
  have HNM := Lib.hid hn
  have hco := fun (W' : World) (hb : Below w.heap.size w W') => scon_any 73 #[] noNameB pa pc ns W' eg_noName (fun W2 x _ => noName_any x W2) (hin.keep hb)
  obtain ⟨D, hD⟩ : ∃ D, D = ns.any noNameB := ⟨_, rfl⟩
  rw [← hD] at hco
  obtain ⟨W, g, hW, hg, R1, B, sz⟩ := box1 w #[.string nm, .slice pa ns.length pc, .int .i64 dd] 33
  have HB0 := Lib.hid B
  have HG0 := Lib.hid R1
  have HY := Lib.hid (show hasNamesB nm ns = (F && !D) by unfold hasNamesB; rw [hF, hD])
  obtain ⟨N, hN⟩ : ∃ N, N = ns.length := ⟨_, rfl⟩
  rw [← hN] at hco HG0 hW ⊢
  have HCO := Lib.hid hco
  clear hn hF hD hco R1 B sz hin hN
  go_enter Try.func40, Try.ntmps40
  go_upto_region 2 with fail
  rw [← hW]
  try rw [← hg]
  clear hW hg
  have g_0 := HG0.out.c 0 _ rfl
  have g_1 := HG0.out.c 1 _ rfl
  have g_2 := HG0.out.c 2 _ rfl
  go_wp2_with fail
  refine (HNM.out _).mono ?_
  rintro e w1 ⟨rfl, hb⟩
  have HG1 := Lib.hid (HG0.out.keep hb)
  have HB1 := Lib.hid (HB0.out.trans (hb.mono HB0.out.size))
  clear hb g_0 g_1 g_2
  have g_0 := HG1.out.c 0 _ rfl
  have g_1 := HG1.out.c 1 _ rfl
  have g_2 := HG1.out.c 2 _ rfl
  cases F
  · go_wp2_with fail
    go_ret
    exact ⟨by rw [HY.out]; (first | done | rfl), HB1.out⟩
  · go_wp2_with fail
    refine (HCO.out _ HB1.out).mono ?_
    rintro e w2 ⟨rfl, hb⟩
    have HB2 := Lib.hid (HB1.out.trans (hb.mono HB1.out.size))
    clear hb
    go_wp2_with fail
    go_ret
    exact ⟨by rw [HY.out]; (first | done | rfl), HB2.out⟩
end Go.Proofs.Ytojbhbifbennfaa
