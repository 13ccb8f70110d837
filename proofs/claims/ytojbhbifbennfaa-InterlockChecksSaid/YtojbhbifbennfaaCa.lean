/- Groups in plain terms; slices.IndexFunc and ContainsFunc over groups for any predicate; the closures of Check. -/
import Derived.Test.YtojbhbifbennfaaS
namespace Go.Proofs.Ytojbhbifbennfaa
open Go.RowKit Go.Shelf

theorem bel_fresh {w : World} (ob : Obj) : Below w.heap.size w (w.alloc ob) := (Below.refl _ _).alloc (Nat.le_refl _) ob
structure GrD where
  nm : ByteArray
  a : Option Addr
  c : Nat
  ns : List ByteArray
  dd : Int
def grL (x : GrD) : List Value := [.string x.nm, .slice x.a x.ns.length x.c, .int .i64 x.dd]
theorem grL_len (x : GrD) : (grL x).length = 3 := rfl
def grV (x : GrD) : Value := .agg #[.string x.nm, .slice x.a x.ns.length x.c, .int .i64 x.dd]
/-- a group's points lie where it says -/
def GoodG (w : World) (x : GrD) : Prop := InS w x.a x.ns.length 1 (flat stL x.ns) ∧ (∀ s ∈ x.ns, s.size ≤ maxLen) ∧ x.nm.size ≤ maxLen
theorem GoodG.keep {w w' : World} {x : GrD} (h : GoodG w x) (hb : Below w.heap.size w w') : GoodG w' x := ⟨h.1.keep hb, h.2⟩
def firstG (p : GrD → Bool) : List GrD → Nat → Int
  | [], _ => -1
  | x :: r, i => if p x = true then (i : Int) else firstG p r (i + 1)
theorem firstG_hit {p : GrD → Bool} {qs : List GrD} {j : Nat} {x : GrD} (hx : qs[j]? = some x) (h : p x = true) : firstG p (qs.drop j) j = j := by
  rw [drop_cons hx]; exact if_pos h
theorem firstG_miss {p : GrD → Bool} {qs : List GrD} {j : Nat} {x : GrD} (hx : qs[j]? = some x) (h : p x = false) : firstG p (qs.drop j) j = firstG p (qs.drop (j + 1)) (j + 1) := by
  rw [drop_cons hx]; exact if_neg (by rw [h]; simp)
theorem firstG_end (p : GrD → Bool) (qs : List GrD) : firstG p (qs.drop qs.length) qs.length = -1 := by rw [List.drop_length]; rfl
theorem firstG_any (p : GrD → Bool) (qs : List GrD) : ∀ i : Nat, decide (0 ≤ firstG p qs i) = qs.any p := by
  induction qs with
  | nil => intro i; rfl
  | cons x r ih =>
    intro i
    show decide (0 ≤ if p x = true then (i : Int) else firstG p r (i + 1)) = (p x || r.any p)
    by_cases h : p x = true
    · rw [if_pos h, h, Bool.true_or]; exact decide_eq_true (by omega)
    · rw [if_neg h, ih (i + 1), show p x = false by simpa using h, Bool.false_or]
def PredG (g : Nat) (lb : Array Value) (p : GrD → Bool) (qs : List GrD) (w : World) : Prop := ∀ (W : World) (x : GrD), x ∈ qs → Below w.heap.size w W → Calls Try.prog g (#[grV x] ++ lb) W fun e w' => e = .returned (.bool (p x)) ∧ Below W.heap.size W w'

set_option maxHeartbeats 4000000 in
set_option maxRecDepth 100000 in
theorem gidx_any (g : Nat) (lb : Array Value) (p : GrD → Bool) (a : Option Addr) (cap : Nat) (qs : List GrD) (w : World) (eg : ∀ args w, (callFunc g args).run Try.prog w = .ok (.enter g args) w) (hp : PredG g lb p qs w) (hin : InS w a qs.length 3 (flat grL qs)) : Calls Try.prog 72 #[.slice a qs.length cap, .func (.func g) #[] lb] w fun e w' => e = .returned (.int .i64 (firstG p qs 0)) ∧ Below w.heap.size w w' := by
  obtain ⟨N, hN⟩ : ∃ N, N = qs.length := ⟨_, rfl⟩
  have HN := Lib.hid hN
  have HI := Lib.hid hin
  have HP := Lib.hid hp
  rw [← hN]
  clear hN hin hp
  go_enter Try.func72, Try.ntmps72
  go_wp2_with fail
  go_loopw [5, 8] (fun _ i wr => ∃ j : Nat, j ≤ N ∧ i = .int .i64 j ∧ Hid (firstG p qs 0 = firstG p (qs.drop j) j ∧ Below w.heap.size w wr)) (fun _ i _ => N - (intOf i).toNat)
  case atStart => exact ⟨0, by omega, rfl, Lib.hid ⟨rfl, Below.refl _ _⟩⟩
  case round =>
    obtain ⟨j, hj, rfl, hH⟩ := hrel
    by_cases hlt : j < N
    · have hjx : j < qs.length := by rw [← HN.out]; exact hlt
      obtain ⟨b, o, rfl, hbl, hcell⟩ := (HI.out.keep hH.out.2).at grL_len (by omega)
      obtain ⟨x, hx⟩ : ∃ x, qs[j]? = some x := ⟨_, List.getElem?_eq_getElem hjx⟩
      have c0 := hcell j _ hx 0 _ rfl
      have c1 := hcell j _ hx 1 _ rfl
      have c2 := hcell j _ hx 2 _ rfl
      rw [Nat.add_zero] at c0
      have hc := HP.out wr x (List.mem_of_getElem? hx) hH.out.2
      obtain ⟨F, hF⟩ : ∃ F, F = p x := ⟨_, rfl⟩
      rw [← hF] at hc
      unfold grV at hc
      have HC := Lib.hid hc
      have HBW := Lib.hid hH.out.2
      have HF := Lib.hid hF
      have HX := Lib.hid hx
      have HFI := Lib.hid hH.out.1
      have k1 : (0 : Int) ≤ (j : Int) := by omega
      have k2 : (j : Int) < (N : Int) := by omega
      have k3 : N ≤ 9223372036854775807 := by have := HI.out.2.1; have := HN.out; omega
      clear hjx hcell hx hc hF hH hbl
      cases F
      · have HM := Lib.hid (HFI.out.trans (firstG_miss HX.out HF.out.symm))
        go_wp2_with (go_at_fn g; refine HC.out.mono ?_; rintro e w' ⟨rfl, hb⟩)
        have HB2 := Lib.hid (HBW.out.trans (hb.mono HBW.out.size))
        go_roundw
        case rel => exact ⟨j + 1, by omega, by go_num, Lib.hid ⟨HM.out, HB2.out⟩⟩
        case measure => (simp [intOf]) <;> omega
      · have HM := Lib.hid (HFI.out.trans (firstG_hit HX.out HF.out.symm))
        go_wp2_with (go_at_fn g; refine HC.out.mono ?_; rintro e w' ⟨rfl, hb⟩)
        have HB2 := Lib.hid (HBW.out.trans (hb.mono HBW.out.size))
        go_ret
        exact ⟨by rw [HM.out]; (first | done | rfl), HB2.out⟩
    · obtain rfl : j = N := by omega
      have HM := Lib.hid (show firstG p qs 0 = -1 from hH.out.1.trans (by rw [HN.out]; exact firstG_end p qs))
      have HB2 := Lib.hid hH.out.2
      clear hH
      go_wp2_with fail
      go_ret
      exact ⟨by rw [HM.out]; (first | done | rfl), HB2.out⟩

set_option maxRecDepth 100000 in
theorem gcon_any (g : Nat) (lb : Array Value) (p : GrD → Bool) (a : Option Addr) (cap : Nat) (qs : List GrD) (w : World) (eg : ∀ args w, (callFunc g args).run Try.prog w = .ok (.enter g args) w) (hp : PredG g lb p qs w) (hin : InS w a qs.length 3 (flat grL qs)) : Calls Try.prog 37 #[.slice a qs.length cap, .func (.func g) #[] lb] w fun e w' => e = .returned (.bool (qs.any p)) ∧ Below w.heap.size w w' := by
  have HI := Lib.hid (gidx_any g lb p a cap qs w eg hp hin)
  have HA := Lib.hid (firstG_any p qs 0)
  obtain ⟨N, hN⟩ : ∃ N, N = qs.length := ⟨_, rfl⟩
  rw [← hN] at HI ⊢
  obtain ⟨I, hI⟩ : ∃ I, I = firstG p qs 0 := ⟨_, rfl⟩
  rw [← hI] at HI HA
  clear eg hp hin hN hI
  go_enter Try.func37, Try.ntmps37
  go_wp2_with fail
  refine HI.out.mono ?_
  rintro e w1 ⟨rfl, hb⟩
  have HB := Lib.hid hb
  clear hb
  have HY := Lib.hid HA.out.symm
  go_wp2_with fail
  go_ret
  exact ⟨by rw [HY.out]; (first | done | rfl), HB.out⟩
def manyB (x : GrD) : Bool := decide (16 < (x.ns.length : Int))
theorem many_any (x : GrD) (w : World) : Calls Try.prog 38 #[grV x] w fun e w' => e = .returned (.bool (manyB x)) ∧ Below w.heap.size w w' := by
  obtain ⟨nm, a, c, ns, dd⟩ := x
  unfold grV manyB
  obtain ⟨N, hN⟩ : ∃ N, N = ns.length := ⟨_, rfl⟩
  rw [← hN]
  obtain ⟨W, g, hW, hg, R1, B, sz⟩ := box1 w #[.string nm, .slice a N c, .int .i64 dd] 33
  have HG := Lib.hid R1
  have HB := Lib.hid B
  clear R1 B sz hN
  go_enter Try.func38, Try.ntmps38
  go_wp2_with fail
  go_ret
  exact ⟨by simp, (Below.refl _ _).alloc (Nat.le_refl _) _⟩
def fewB (x : GrD) : Bool := decide ((x.ns.length : Int) < 2)
theorem few_any (x : GrD) (w : World) : Calls Try.prog 43 #[grV x] w fun e w' => e = .returned (.bool (fewB x)) ∧ Below w.heap.size w w' := by
  obtain ⟨nm, a, c, ns, dd⟩ := x
  unfold grV fewB
  obtain ⟨N, hN⟩ : ∃ N, N = ns.length := ⟨_, rfl⟩
  rw [← hN]
  obtain ⟨W, g, hW, hg, R1, B, sz⟩ := box1 w #[.string nm, .slice a N c, .int .i64 dd] 33
  have HG := Lib.hid R1
  have HB := Lib.hid B
  clear R1 B sz hN
  go_enter Try.func43, Try.ntmps43
  go_wp2_with fail
  go_ret
  exact ⟨by simp, (Below.refl _ _).alloc (Nat.le_refl _) _⟩
def undeadB (x : GrD) : Bool := !dB x.dd
theorem undead_any (x : GrD) (w : World) : Calls Try.prog 41 #[grV x] w fun e w' => e = .returned (.bool (undeadB x)) ∧ Below w.heap.size w w' := by
  obtain ⟨nm, a, c, ns, dd⟩ := x
  unfold grV undeadB
  obtain ⟨N, hN⟩ : ∃ N, N = ns.length := ⟨_, rfl⟩
  have hd := fun w => dead_any dd w
  obtain ⟨F, hF⟩ : ∃ F, F = dB dd := ⟨_, rfl⟩
  rw [← hF] at hd
  have HD := Lib.hid hd
  rw [← hN, ← hF]
  obtain ⟨W, g, hW, hg, R1, B, sz⟩ := box1 w #[.string nm, .slice a N c, .int .i64 dd] 33
  have HG := Lib.hid R1
  have HB := Lib.hid B
  clear R1 B sz hN hd hF
  go_enter Try.func41, Try.ntmps41
  go_upto_region 1 with fail
  rw [← hW]
  try rw [← hg]
  clear hW hg
  have g_0 := HG.out.c 0 _ rfl
  have g_1 := HG.out.c 1 _ rfl
  have g_2 := HG.out.c 2 _ rfl
  go_wp2_with fail
  refine (HD.out _).mono ?_
  rintro e w1 ⟨rfl, hb⟩
  have HB1 := Lib.hid (HB.out.trans (hb.mono HB.out.size))
  clear hb
  go_wp2_with fail
  go_ret
  exact ⟨rfl, HB1.out⟩
def unnamedB (x : GrD) : Bool := !hasNamesB x.nm x.ns
theorem unnamed_any (x : GrD) (w : World) (hg : GoodG w x) : Calls Try.prog 39 #[grV x] w fun e w' => e = .returned (.bool (unnamedB x)) ∧ Below w.heap.size w w' := by
  have hd := fun (W' : World) (hb : Below w.heap.size w W') => hasNames_any x.nm x.a x.c x.ns x.dd W' (hg.1.keep hb)
  obtain ⟨F, hF⟩ : ∃ F, F = hasNamesB x.nm x.ns := ⟨_, rfl⟩
  rw [← hF] at hd
  have HY := Lib.hid (show unnamedB x = !F by unfold unnamedB; rw [hF])
  obtain ⟨nm, a, c, ns, dd⟩ := x
  have hd : ∀ (W' : World), Below w.heap.size w W' → Calls Try.prog 40 #[.agg #[.string nm, .slice a ns.length c, .int .i64 dd]] W' fun e w' => e = .returned (.bool F) ∧ Below W'.heap.size W' w' := hd
  unfold grV
  show Calls Try.prog 39 #[.agg #[.string nm, .slice a ns.length c, .int .i64 dd]] w _
  obtain ⟨N, hN⟩ : ∃ N, N = ns.length := ⟨_, rfl⟩
  rw [← hN] at hd ⊢
  have HD := Lib.hid hd
  obtain ⟨W, g, hW, hg, R1, B, sz⟩ := box1 w #[.string nm, .slice a N c, .int .i64 dd] 33
  have HG := Lib.hid R1
  have HB := Lib.hid B
  clear R1 B sz hN hd hF
  go_enter Try.func39, Try.ntmps39
  go_upto_region 1 with fail
  rw [← hW]
  try rw [← hg]
  clear hW hg
  have g_0 := HG.out.c 0 _ rfl
  have g_1 := HG.out.c 1 _ rfl
  have g_2 := HG.out.c 2 _ rfl
  go_wp2_with fail
  refine (HD.out _ HB.out).mono ?_
  rintro e w1 ⟨rfl, hb⟩
  have HB1 := Lib.hid (HB.out.trans (hb.mono HB.out.size))
  clear hb
  go_wp2_with fail
  go_ret
  exact ⟨by rw [HY.out]; (first | done | rfl), HB1.out⟩
theorem some_any (g : Nat) (p : GrD → Bool) (bc : Nat) (a : Option Addr) (cap : Nat) (qs : List GrD) (w : World) (eg : ∀ args w, (callFunc g args).run Try.prog w = .ok (.enter g args) w) (hp : PredG g #[] p qs w) (hc : w.cell? ⟨bc, 0, none⟩ = some (.slice a qs.length cap)) (hin : InS w a qs.length 3 (flat grL qs)) : Calls Try.prog 36 #[.func (.func g) #[] #[], .pointer (some ⟨bc, 0, none⟩)] w fun e w' => e = .returned (.bool (qs.any p)) ∧ Below w.heap.size w w' := by
  have HC := Lib.hid (gcon_any g #[] p a cap qs w eg hp hin)
  obtain ⟨N, hN⟩ : ∃ N, N = qs.length := ⟨_, rfl⟩
  rw [← hN] at HC hc
  clear eg hp hin hN
  go_enter Try.func36, Try.ntmps36
  go_wp2_with fail
  refine HC.out.mono ?_
  rintro e w1 ⟨rfl, hb⟩
  have HB := Lib.hid hb
  clear hb
  go_wp2_with fail
  go_ret
  exact ⟨rfl, HB.out⟩
theorem eg_many : ∀ args w, (callFunc 38 args).run Try.prog w = .ok (.enter 38 args) w := enters_of Try.func38 (by kernel_rfl) rfl
theorem eg_unnamed : ∀ args w, (callFunc 39 args).run Try.prog w = .ok (.enter 39 args) w := enters_of Try.func39 (by kernel_rfl) rfl
theorem eg_undead : ∀ args w, (callFunc 41 args).run Try.prog w = .ok (.enter 41 args) w := enters_of Try.func41 (by kernel_rfl) rfl
theorem eg_few : ∀ args w, (callFunc 43 args).run Try.prog w = .ok (.enter 43 args) w := enters_of Try.func43 (by kernel_rfl) rfl
end Go.Proofs.Ytojbhbifbennfaa
