/- fixed.total, Add, Mean of any list; the functions in the maps of block.Eval. -/
import Derived.Test.YtaobbedajgkmiaaDoorMp
import Derived.Test.YtaobbedajgkmiaaDoorFa
import Derived.Test.YtaobbedajgkmiaaDoorBg
import Derived.Deep.QuietTactic
import Derived.BigQuiet
import Derived.Deep.RegionHeld3
namespace Go.Proofs.YtaobbedajgkmiaaDoor
open Go.RowKit Go.Shelf

set_option linter.unusedVariables false
set_option linter.unusedSimpArgs false
def addI (a b : Int) : Int := clampI (clampI a + clampI b)
set_option maxHeartbeats 400000 in
theorem add_any (a b : Int) (w : World) :
    Calls Tryd.prog 50 #[.int .i64 a, .int .i64 b] w fun e w' => e = .returned (.int .i64 (addI a b)) ∧ Below w.heap.size w w' := by
  go_enter Tryd.func50, Tryd.ntmps50
  go_wp2_with fail
  refine (total_two a b _ _ _ (by simp [World.cell?_alloc_new]) (by simp [World.cell?_alloc_new])).mono ?_
  rintro e w1 ⟨rfl, rfl⟩
  go_wp2_with fail
  refine (clamp_any _ _).mono ?_
  rintro e w1 ⟨rfl, rfl⟩
  go_wp2_with fail
  go_ret
  exact ⟨rfl, (Below.refl _ _).alloc (Nat.le_refl _) _⟩
/-- the sum of the first k clamped numbers -/
def totI (ns : List Int) : Nat → Int
  | 0 => 0
  | k + 1 => totI ns k + clampI (ns.getD k 0)
theorem totI_range (ns : List Int) : ∀ k : Nat, -((k : Int) * 1000000000000) ≤ totI ns k ∧ totI ns k ≤ (k : Int) * 1000000000000
  | 0 => by simp [totI]
  | k + 1 => by
    have h := totI_range ns k
    have c := clampI_range (ns.getD k 0)
    show -(((k + 1 : Nat) : Int) * 1000000000000) ≤ totI ns k + clampI (ns.getD k 0) ∧ totI ns k + clampI (ns.getD k 0) ≤ ((k + 1 : Nat) : Int) * 1000000000000
    omega
theorem iL_cells {w : World} {ns : List Int} {bb o : Nat} (hc : ∀ i x, ns[i]? = some x → ∀ j v, (iL x)[j]? = some v → w.cell? ⟨bb, o + i * 1 + j, none⟩ = some v) (i : Nat) (x : Int) (h : ns[i]? = some x) : w.cell? ⟨bb, o + i, none⟩ = some (.int .i64 x) := by
  have := hc i x h 0 _ rfl
  simpa using this
set_option maxHeartbeats 1000000 in
theorem total_any (ns : List Int) (h20 : ns.length ≤ 20) (a : Option Addr) (c : Nat) (w : World) (hin : InS w a ns.length 1 (flat iL ns)) :
    Calls Tryd.prog 81 #[.slice a ns.length c] w fun e w' => e = .returned (.int .i64 (totI ns ns.length)) ∧ w = w' := by
  have HIN := Lib.hid hin
  obtain ⟨N, hN⟩ : ∃ N, N = ns.length := ⟨_, rfl⟩
  have HN := Lib.hid hN
  rw [← hN] at h20 ⊢
  clear hin hN
  go_enter Tryd.func81, Tryd.ntmps81
  go_wp2_with fail
  go_loop [3, 8] (fun s i => ∃ k : Nat, k ≤ N ∧ i = .int .i64 k ∧ s = .int .i64 (totI ns k)) (fun _ i => N - (intOf i).toNat)
  case atStart => exact ⟨0, Nat.zero_le _, rfl, rfl⟩
  case round =>
    obtain ⟨k, hk, rfl, rfl⟩ := hrel
    by_cases hlt : k < N
    · obtain ⟨bb, o, rfl, hl, hc⟩ := InS.at iL_len HIN.out (by have := HN.out; omega)
      obtain ⟨x, hx⟩ : ∃ x, ns[k]? = some x := ⟨_, List.getElem?_eq_getElem (by have := HN.out; omega)⟩
      have cx := iL_cells hc k x hx
      have HS := Lib.hid (show totI ns (k + 1) = totI ns k + clampI x by show totI ns k + clampI (ns.getD k 0) = _; rw [List.getD_eq_getElem?_getD, hx]; rfl)
      have r1 := totI_range ns k
      have r2 := clampI_range x
      have kx := clamp_any x w
      obtain ⟨T, hT⟩ : ∃ T, T = totI ns k := ⟨_, rfl⟩
      obtain ⟨C, hC⟩ : ∃ C, C = clampI x := ⟨_, rfl⟩
      rw [← hT] at HS r1 ⊢
      rw [← hC] at HS r2 kx
      have KX := Lib.hid kx
      have t1 : -20000000000000 ≤ T := by omega
      have t2 : T ≤ 20000000000000 := by omega
      clear hT hC hx hc hl r1 kx
      go_wp2_with fail
      refine KX.out.mono ?_
      rintro e w' ⟨rfl, rfl⟩
      go_wp2_with fail
      go_round
      case rel => exact ⟨k + 1, by omega, by go_num, by rw [HS.out]⟩
      case measure => (simp [intOf]) <;> omega
    · obtain rfl : k = N := by omega
      go_wp2_with fail
      go_ret
      exact ⟨rfl, rfl⟩
def meanI (ns : List Int) : Int := quoI (totI ns ns.length) ns.length
set_option maxHeartbeats 1000000 in
theorem mean_any (ns : List Int) (h20 : ns.length ≤ 20) (a : Option Addr) (c : Nat) (w : World) (hin : InS w a ns.length 1 (flat iL ns)) :
    Calls Tryd.prog 62 #[.slice a ns.length c] w fun e w' => e = .returned (.int .i64 (meanI ns)) ∧ Below w.heap.size w w' := by
  have r0 := totI_range ns ns.length
  have HM := Lib.hid (show meanI ns = quoI (totI ns ns.length) ns.length from rfl)
  have ht := total_any ns h20 a c w hin
  obtain ⟨T, hT⟩ : ∃ T, T = totI ns ns.length := ⟨_, rfl⟩
  rw [← hT] at HM ht r0
  obtain ⟨N, hN⟩ : ∃ N, N = ns.length := ⟨_, rfl⟩
  rw [← hN] at HM ht r0 h20 ⊢
  have hp := fun w => product_any T 1 w (by omega) (by omega) (by omega) (by omega)
  rw [Int.mul_one] at hp
  have Hp := Lib.hid hp
  have Hz := Lib.hid fun w => quotient_any T N w (by omega) (by omega) (by omega) (by omega)
  have Ht := Lib.hid ht
  clear ht r0 hT hin hp hN
  go_enter Tryd.func62, Tryd.ntmps62
  go_wp2_with fail
  refine Ht.out.mono ?_
  rintro e w1 ⟨rfl, rfl⟩
  go_wp2_with fail
  refine (Hp.out _).mono ?_
  rintro e w1 ⟨rfl, hb1⟩
  have Hb1 := Lib.hid hb1
  clear hb1
  go_wp2_with fail
  refine (Hz.out _).mono ?_
  rintro e w2 ⟨rfl, hb2⟩
  have Hb2 := Lib.hid (Hb1.out.trans (hb2.mono Hb1.out.size))
  clear hb2
  go_wp2_with fail
  go_ret
  exact ⟨by rw [HM.out]; rfl, Hb2.out⟩
/-- what a function of the map is to answer for params and numbers -/
def OpOk (f : Nat) (G : List Int → List Int → Prop) (op : List Int → List Int → Int) : Prop := ∀ (ps ns : List Int), G ps ns → ∀ (pa : Option Addr) (pc : Nat) (na : Option Addr) (nc : Nat) (w : World), InS w pa ps.length 1 (flat iL ps) → InS w na ns.length 1 (flat iL ns) → Calls Tryd.prog f #[.slice pa ps.length pc, .slice na ns.length nc] w fun e w' => e = .returned (.int .i64 (op ps ns)) ∧ Below w.heap.size w w'
theorem one_at {w : World} {a : Option Addr} {x : Int} (h : InS w a 1 1 (flat iL [x])) : ∃ b o, a = some ⟨b, o, none⟩ ∧ b < w.heap.size ∧ w.cell? ⟨b, o, none⟩ = some (.int .i64 x) := by
  obtain ⟨b, o, rfl, hl, hc⟩ := InS.at iL_len (show InS w a [x].length 1 (flat iL [x]) from h) (by simp)
  exact ⟨b, o, rfl, hl, by have := iL_cells hc 0 x rfl; rwa [Nat.add_zero] at this⟩
theorem two_at {w : World} {a : Option Addr} {x y : Int} (h : InS w a 2 1 (flat iL [x, y])) : ∃ b o, a = some ⟨b, o, none⟩ ∧ b < w.heap.size ∧ w.cell? ⟨b, o, none⟩ = some (.int .i64 x) ∧ w.cell? ⟨b, o + 1, none⟩ = some (.int .i64 y) := by
  obtain ⟨b, o, rfl, hl, hc⟩ := InS.at iL_len (show InS w a [x, y].length 1 (flat iL [x, y]) from h) (by simp)
  exact ⟨b, o, rfl, hl, by have := iL_cells hc 0 x rfl; rwa [Nat.add_zero] at this, iL_cells hc 1 y rfl⟩
theorem bdrewF (B : Nat) (w : World) (n : Nat) : Below B w (w.drewN n) := ⟨rfl, rfl, rfl, Nat.le_refl _, fun _ _ => rfl⟩
set_option maxHeartbeats 2000000 in
theorem op_abs : OpOk 48 (fun ps ns => ∃ a : Int, ns = [a] ∧ -1000000000000 ≤ a ∧ a ≤ 1000000000000) (fun ps ns => max (ns.getD 0 0) (-(ns.getD 0 0))) := by
  rintro ps ns ⟨a, rfl, ha1, ha2⟩ pa pc na nc w hp hn
  obtain ⟨bb, o, rfl, hl, c0⟩ := one_at hn
  clear hp hn hl
  simp only [List.length_cons, List.length_nil, Nat.zero_add]
  go_enter Tryd.func48, Tryd.ntmps48
  go_wp2_with fail
  go_quiet ((fail))
  (try simp only [Exit.then])
  go_wp2_with fail
  go_ret
  exact ⟨rfl, bdrewF _ _ _⟩
set_option maxHeartbeats 2000000 in
theorem op_neg : OpOk 66 (fun ps ns => ∃ a : Int, ns = [a] ∧ -1000000000000 ≤ a ∧ a ≤ 1000000000000) (fun ps ns => -(ns.getD 0 0)) := by
  rintro ps ns ⟨a, rfl, ha1, ha2⟩ pa pc na nc w hp hn
  obtain ⟨bb, o, rfl, hl, c0⟩ := one_at hn
  clear hp hn hl
  simp only [List.length_cons, List.length_nil, Nat.zero_add]
  go_enter Tryd.func66, Tryd.ntmps66
  go_wp2_with fail
  go_ret
  exact ⟨rfl, Below.refl _ _⟩
set_option maxHeartbeats 2000000 in
theorem op_not : OpOk 67 (fun ps ns => ∃ a : Int, ns = [a] ∧ -1000000000000 ≤ a ∧ a ≤ 1000000000000) (fun ps ns => 1 - (ns.getD 0 0)) := by
  rintro ps ns ⟨a, rfl, ha1, ha2⟩ pa pc na nc w hp hn
  obtain ⟨bb, o, rfl, hl, c0⟩ := one_at hn
  clear hp hn hl
  simp only [List.length_cons, List.length_nil, Nat.zero_add]
  go_enter Tryd.func67, Tryd.ntmps67
  go_wp2_with fail
  go_ret
  exact ⟨rfl, Below.refl _ _⟩
set_option maxHeartbeats 2000000 in
theorem op_add : OpOk 49 (fun ps ns => ∃ a c : Int, ns = [a, c]) (fun ps ns => addI (ns.getD 0 0) (ns.getD 1 0)) := by
  rintro ps ns ⟨a, c, rfl⟩ pa pc na nc w hp hn
  obtain ⟨bb, o, rfl, hl, c0, c1⟩ := two_at hn
  clear hp
  simp only [List.length_cons, List.length_nil, Nat.zero_add, Nat.reduceAdd]
  go_enter Tryd.func49, Tryd.ntmps49
  go_wp2_with fail
  go_region_held3 (fun w' => w'.cell? ⟨bb, o, none⟩ = some (.int .i64 a) ∧ w'.cell? ⟨bb, o + 1, none⟩ = some (.int .i64 c)) (first | go_keep) (((with_reducible refine (add_any _ _ _).mono ?_); rintro e w2 ⟨rfl, hb2⟩; have q0 := (hb2.cell (p := ⟨bb, o, none⟩) hl).trans c0; have q1 := (hb2.cell (p := ⟨bb, o + 1, none⟩) hl).trans c1))
  all_goals
    rename_i hHeld
    clear hHeld
    go_wp2_with fail
    go_ret
    first
      | exact ⟨rfl, hb2⟩
      | exact ⟨rfl, (Below.refl w.heap.size w).drew.trans hb2⟩
set_option maxHeartbeats 2000000 in
theorem op_sub : OpOk 69 (fun ps ns => ∃ a c : Int, ns = [a, c]) (fun ps ns => subI (ns.getD 0 0) (ns.getD 1 0)) := by
  rintro ps ns ⟨a, c, rfl⟩ pa pc na nc w hp hn
  obtain ⟨bb, o, rfl, hl, c0, c1⟩ := two_at hn
  clear hp
  simp only [List.length_cons, List.length_nil, Nat.zero_add, Nat.reduceAdd]
  go_enter Tryd.func69, Tryd.ntmps69
  go_wp2_with fail
  go_region_held3 (fun w' => w'.cell? ⟨bb, o, none⟩ = some (.int .i64 a) ∧ w'.cell? ⟨bb, o + 1, none⟩ = some (.int .i64 c)) (first | go_keep) (((with_reducible refine (sub_any _ _ _).mono ?_); rintro e w2 ⟨rfl, hb2⟩; have q0 := (hb2.cell (p := ⟨bb, o, none⟩) hl).trans c0; have q1 := (hb2.cell (p := ⟨bb, o + 1, none⟩) hl).trans c1))
  all_goals
    rename_i hHeld
    clear hHeld
    go_wp2_with fail
    go_ret
    first
      | exact ⟨rfl, hb2⟩
      | exact ⟨rfl, (Below.refl w.heap.size w).drew.trans hb2⟩
set_option maxHeartbeats 2000000 in
theorem op_mul : OpOk 64 (fun ps ns => ∃ a c : Int, ns = [a, c]) (fun ps ns => mulDivI (ns.getD 0 0) (ns.getD 1 0) 1000) := by
  rintro ps ns ⟨a, c, rfl⟩ pa pc na nc w hp hn
  obtain ⟨bb, o, rfl, hl, c0, c1⟩ := two_at hn
  clear hp
  simp only [List.length_cons, List.length_nil, Nat.zero_add, Nat.reduceAdd]
  go_enter Tryd.func64, Tryd.ntmps64
  go_wp2_with fail
  go_region_held3 (fun w' => w'.cell? ⟨bb, o, none⟩ = some (.int .i64 a) ∧ w'.cell? ⟨bb, o + 1, none⟩ = some (.int .i64 c)) (first | go_keep) (((with_reducible refine (mul_any _ _ _).mono ?_); rintro e w2 ⟨rfl, hb2⟩; have q0 := (hb2.cell (p := ⟨bb, o, none⟩) hl).trans c0; have q1 := (hb2.cell (p := ⟨bb, o + 1, none⟩) hl).trans c1))
  all_goals
    rename_i hHeld
    clear hHeld
    go_wp2_with fail
    go_ret
    first
      | exact ⟨rfl, hb2⟩
      | exact ⟨rfl, (Below.refl w.heap.size w).drew.trans hb2⟩
set_option maxHeartbeats 2000000 in
theorem op_and : OpOk 51 (fun ps ns => 1 ≤ ns.length) (fun ps ns => minK ns ns.length) := by
  rintro ps ns h1 pa pc na nc w hp hn
  have KX := Lib.hid (slmin_any ns h1 na nc w hn)
  obtain ⟨N, hN⟩ : ∃ N, N = ns.length := ⟨_, rfl⟩
  have HMN := Lib.hid (show minK ns N = minK ns ns.length by rw [hN])
  rw [← hN] at KX ⊢
  clear hp hn h1 hN
  go_enter Tryd.func51, Tryd.ntmps51
  go_wp2_with fail
  refine KX.out.mono ?_
  rintro e w1 ⟨rfl, rfl⟩
  go_wp2_with fail
  go_ret
  exact ⟨by rw [← HMN.out]; rfl, Below.refl _ _⟩
set_option maxHeartbeats 2000000 in
theorem op_or : OpOk 68 (fun ps ns => 1 ≤ ns.length) (fun ps ns => maxK ns ns.length) := by
  rintro ps ns h1 pa pc na nc w hp hn
  have KX := Lib.hid (slmax_any ns h1 na nc w hn)
  obtain ⟨N, hN⟩ : ∃ N, N = ns.length := ⟨_, rfl⟩
  have HMN := Lib.hid (show maxK ns N = maxK ns ns.length by rw [hN])
  rw [← hN] at KX ⊢
  clear hp hn h1 hN
  go_enter Tryd.func68, Tryd.ntmps68
  go_wp2_with fail
  refine KX.out.mono ?_
  rintro e w1 ⟨rfl, rfl⟩
  go_wp2_with fail
  go_ret
  exact ⟨by rw [← HMN.out]; rfl, Below.refl _ _⟩
set_option maxHeartbeats 2000000 in
theorem op_max : OpOk 59 (fun ps ns => 1 ≤ ns.length) (fun ps ns => maxK ns ns.length) := by
  rintro ps ns h1 pa pc na nc w hp hn
  have KX := Lib.hid (slmax_any ns h1 na nc w hn)
  obtain ⟨N, hN⟩ : ∃ N, N = ns.length := ⟨_, rfl⟩
  have HMN := Lib.hid (show maxK ns N = maxK ns ns.length by rw [hN])
  rw [← hN] at KX ⊢
  clear hp hn h1 hN
  go_enter Tryd.func59, Tryd.ntmps59
  go_wp2_with fail
  refine KX.out.mono ?_
  rintro e w1 ⟨rfl, rfl⟩
  go_wp2_with fail
  go_ret
  exact ⟨by rw [← HMN.out]; rfl, Below.refl _ _⟩
set_option maxHeartbeats 2000000 in
theorem op_min : OpOk 63 (fun ps ns => 1 ≤ ns.length) (fun ps ns => minK ns ns.length) := by
  rintro ps ns h1 pa pc na nc w hp hn
  have KX := Lib.hid (slmin_any ns h1 na nc w hn)
  obtain ⟨N, hN⟩ : ∃ N, N = ns.length := ⟨_, rfl⟩
  have HMN := Lib.hid (show minK ns N = minK ns ns.length by rw [hN])
  rw [← hN] at KX ⊢
  clear hp hn h1 hN
  go_enter Tryd.func63, Tryd.ntmps63
  go_wp2_with fail
  refine KX.out.mono ?_
  rintro e w1 ⟨rfl, rfl⟩
  go_wp2_with fail
  go_ret
  exact ⟨by rw [← HMN.out]; rfl, Below.refl _ _⟩
set_option maxHeartbeats 2000000 in
theorem op_mean : OpOk 61 (fun ps ns => ns.length ≤ 20) (fun ps ns => meanI ns) := by
  rintro ps ns h1 pa pc na nc w hp hn
  have KX := Lib.hid (mean_any ns h1 na nc w hn)
  obtain ⟨N, hN⟩ : ∃ N, N = ns.length := ⟨_, rfl⟩
  rw [← hN] at KX ⊢
  clear hp hn h1 hN
  go_enter Tryd.func61, Tryd.ntmps61
  go_wp2_with fail
  refine KX.out.mono ?_
  rintro e w1 ⟨rfl, hb⟩
  go_wp2_with fail
  go_ret
  exact ⟨rfl, hb⟩
set_option maxHeartbeats 2000000 in
theorem op_limit : OpOk 56 (fun ps ns => ∃ a x y : Int, ns = [a] ∧ ps = [x, y]) (fun ps ns => min (max (ns.getD 0 0) (ps.getD 0 0)) (ps.getD 1 0)) := by
  rintro ps ns ⟨a, l, h, rfl, rfl⟩ pa pc na nc w hp hn
  obtain ⟨bb, o, rfl, hl, c0⟩ := one_at hn
  obtain ⟨pb, po, rfl, hpl, p0, p1⟩ := two_at hp
  clear hp hn hl hpl
  simp only [List.length_cons, List.length_nil, Nat.zero_add, Nat.reduceAdd]
  go_enter Tryd.func56, Tryd.ntmps56
  go_wp2_with fail
  go_quiet ((fail))
  (try simp only [Exit.then])
  go_wp2_with fail
  go_ret
  exact ⟨rfl, bdrewF _ _ _⟩
set_option maxHeartbeats 2000000 in
theorem op_xor : OpOk 71 (fun ps ns => ∃ a c : Int, ns = [a, c] ∧ (a = 0 ∨ a = 1) ∧ (c = 0 ∨ c = 1)) (fun ps ns => if ns.getD 0 0 = ns.getD 1 0 then 0 else 1) := by
  rintro ps ns ⟨a, c, rfl, ha, hc⟩ pa pc na nc w hp hn
  obtain ⟨bb, o, rfl, hl, c0, c1⟩ := two_at hn
  clear hp hn hl
  simp only [List.length_cons, List.length_nil, Nat.zero_add, Nat.reduceAdd]
  rcases ha with rfl | rfl <;> rcases hc with rfl | rfl
  all_goals
    go_enter Tryd.func71, Tryd.ntmps71
    go_wp2_with fail
    go_quiet ((fail))
    (try simp only [Exit.then])
    go_wp2_with fail
    go_ret
    exact ⟨rfl, bdrewF _ _ _⟩
set_option maxHeartbeats 1000000 in
theorem sel_choose (st last : Int) (h1 : 1 ≤ st) (h2 : st ≤ 16) (w : World) : Calls Tryd.prog 72 #[.int .i64 st, .int .i64 last] w fun e w' => e = .returned (.int .i64 (min st last)) ∧ w = w' := by
  go_enter Tryd.func72, Tryd.ntmps72
  go_wp2_with fail
  go_ret
  exact ⟨rfl, rfl⟩
set_option maxHeartbeats 1000000 in
theorem sel_pick (s last : Int) (h1 : 0 ≤ s) (h2 : s ≤ 1) (h3 : 1 ≤ last) (h4 : last ≤ 20) (w : World) : Calls Tryd.prog 73 #[.int .i64 s, .int .i64 last] w fun e w' => e = .returned (.int .i64 (last - s)) ∧ w = w' := by
  go_enter Tryd.func73, Tryd.ntmps73
  go_wp2_with fail
  go_ret
  exact ⟨rfl, rfl⟩
end Go.Proofs.YtaobbedajgkmiaaDoor
