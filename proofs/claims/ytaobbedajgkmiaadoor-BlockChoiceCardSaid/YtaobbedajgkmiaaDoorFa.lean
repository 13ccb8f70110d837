/- Leaves of block.Eval: kindOf, isPossible, cmp.Or of two numbers, slices.Min, slices.Max. -/
import Derived.Test.YtaobbedajgkmiaaDoorSl
import Derived.Test.YtaobbedajgkmiaaDoorShelf
import Derived.Laws.OwnMore
import Derived.Laws.EntriesVeiled
import Derived.Deep.CutBlock
import Derived.Below
import Derived.LoopTactic
namespace Go.Proofs.YtaobbedajgkmiaaDoor
open Go.RowKit Go.Shelf

set_option linter.unusedVariables false
set_option linter.unusedSimpArgs false
def kindI (s : ByteArray) : Int := if s = ⟨#[98, 105, 110, 97, 114, 121]⟩ then 2 else if s = ⟨#[109, 117, 108, 116, 105]⟩ then 3 else 1
theorem loopE (s : ByteArray) : ∀ (n i : Nat) (r : List UInt8), s.size - i = n → ByteArray.toList.loop s i r = r.reverse ++ s.data.toList.drop i
  | 0, i, r, h => by
    unfold ByteArray.toList.loop
    rw [if_neg (by omega), List.drop_of_length_le (by simpa using (by omega : s.size ≤ i)), List.append_nil]
  | n + 1, i, r, h => by
    unfold ByteArray.toList.loop
    have hi : i < s.data.toList.length := by simpa using (by omega : i < s.size)
    rw [if_pos (by omega), loopE s n (i + 1) _ (by omega), List.reverse_cons, List.append_assoc, List.drop_eq_getElem_cons hi]
    have e : s.get! i = s.data.toList[i] := by
      have hs : i < s.size := by omega
      simp [ByteArray.get!, getElem!_pos, hs]
    rw [e]; rfl
theorem toL_eq (s : ByteArray) : s.toList = s.data.toList := by
  unfold ByteArray.toList
  rw [loopE s _ 0 [] rfl]; rfl
theorem bytes_no {a : ByteArray} {l : List UInt8} (h : ¬ a = ⟨l.toArray⟩) : (a.toList == l) = false ∧ (a.toList != l) = true := by
  have h2 : ¬ a.toList = l := by
    rw [toL_eq]
    intro e
    apply h
    rw [← e]
  exact ⟨beq_eq_false_iff_ne.2 h2, bne_iff_ne.2 h2⟩
set_option maxHeartbeats 1000000 in
theorem bkind_any (s : ByteArray) (w : World) : Calls Tryd.prog 40 #[.string s] w fun e w' => e = .returned (.int .i64 (kindI s)) ∧ w = w' := by
  by_cases h1 : s = ⟨#[98, 105, 110, 97, 114, 121]⟩
  · subst h1
    go_enter Tryd.func40, Tryd.ntmps40
    go_wp2_with fail
    go_ret
    exact ⟨rfl, rfl⟩
  · by_cases h2 : s = ⟨#[109, 117, 108, 116, 105]⟩
    · subst h2
      go_enter Tryd.func40, Tryd.ntmps40
      go_wp2_with fail
      go_ret
      exact ⟨rfl, rfl⟩
    · have HE := Lib.hid (show kindI s = 1 by unfold kindI; rw [if_neg h1, if_neg h2])
      have e1 := (bytes_no (l := [98, 105, 110, 97, 114, 121]) h1).1
      have e2 := (bytes_no (l := [109, 117, 108, 116, 105]) h2).1
      clear h1 h2
      go_enter Tryd.func40, Tryd.ntmps40
      go_wp2_with fail
      go_ret
      exact ⟨by rw [HE.out]; (first | done | rfl), rfl⟩
def PossP (k n : Int) : Prop := k = 1 ∨ (k = 2 ∧ (n = 0 ∨ n = 1)) ∨ (k = 3 ∧ 1 ≤ n ∧ n ≤ 16)
set_option maxHeartbeats 1000000 in
theorem poss_yes (k n : Int) (h : PossP k n) (w : World) : Calls Tryd.prog 75 #[.agg #[.int .i64 k, .int .i64 n]] w fun e w' => e = .returned (.bool true) ∧ Below w.heap.size w w' := by
  rcases h with rfl | ⟨rfl, rfl | rfl⟩ | ⟨rfl, h1, h2⟩
  · obtain ⟨W, g, hW, hg, R, B, sz⟩ := box1 w #[.int .i64 1, .int .i64 n] 51
    have c0 := R.c 0 _ rfl
    have c1 := R.c 1 _ rfl
    have HB := Lib.hid B
    clear R B sz
    go_enter Tryd.func75, Tryd.ntmps75
    go_upto_region 1 with fail
    rw [← hW]
    try rw [← hg]
    clear hW hg
    go_wp2_with fail
    go_ret
    exact ⟨rfl, HB.out⟩
  · obtain ⟨W, g, hW, hg, R, B, sz⟩ := box1 w #[.int .i64 2, .int .i64 0] 51
    have c0 := R.c 0 _ rfl
    have c1 := R.c 1 _ rfl
    have HB := Lib.hid B
    clear R B sz
    go_enter Tryd.func75, Tryd.ntmps75
    go_upto_region 1 with fail
    rw [← hW]
    try rw [← hg]
    clear hW hg
    go_wp2_with fail
    go_ret
    exact ⟨rfl, HB.out⟩
  · obtain ⟨W, g, hW, hg, R, B, sz⟩ := box1 w #[.int .i64 2, .int .i64 1] 51
    have c0 := R.c 0 _ rfl
    have c1 := R.c 1 _ rfl
    have HB := Lib.hid B
    clear R B sz
    go_enter Tryd.func75, Tryd.ntmps75
    go_upto_region 1 with fail
    rw [← hW]
    try rw [← hg]
    clear hW hg
    go_wp2_with fail
    go_ret
    exact ⟨rfl, HB.out⟩
  · have e1 : decide ((1 : Int) ≤ n) = true := decide_eq_true h1
    have e2 : decide (n ≤ (16 : Int)) = true := decide_eq_true h2
    obtain ⟨W, g, hW, hg, R, B, sz⟩ := box1 w #[.int .i64 3, .int .i64 n] 51
    have c0 := R.c 0 _ rfl
    have c1 := R.c 1 _ rfl
    have HB := Lib.hid B
    clear R B sz
    go_enter Tryd.func75, Tryd.ntmps75
    go_upto_region 1 with fail
    rw [← hW]
    try rw [← hg]
    clear hW hg
    go_wp2_with fail
    go_ret
    exact ⟨rfl, HB.out⟩
set_option maxHeartbeats 1000000 in
theorem or_kap (x κ : Int) (b o c : Nat) (w : World) (hκ : ¬ κ = 0) (hx : x = 0 ∨ x = κ) (h0 : w.cell? ⟨b, o, none⟩ = some (.int .i64 x)) (h1 : w.cell? ⟨b, o + 1, none⟩ = some (.int .i64 κ)) :
    Calls Tryd.prog 74 #[.slice (some ⟨b, o, none⟩) 2 c] w fun e w' => e = .returned (.int .i64 κ) ∧ w = w' := by
  have e1 : (κ == 0) = false := beq_eq_false_iff_ne.2 hκ
  have e2 : (κ != 0) = true := bne_iff_ne.2 hκ
  clear hκ
  rcases hx with rfl | rfl
  · go_enter Tryd.func74, Tryd.ntmps74
    go_wp2_with fail
    go_loop [8] (fun i => i = .int .i64 0 ∨ i = .int .i64 1) (fun i => 2 - (intOf i).toNat)
    case atStart => exact .inl rfl
    case round =>
      rcases hrel with rfl | rfl
      · go_wp2_with fail
        go_round
        case rel => exact .inr rfl
        case measure => simp [intOf]
      · go_wp2_with fail
        go_ret
        exact ⟨rfl, rfl⟩
  · go_enter Tryd.func74, Tryd.ntmps74
    go_wp2_with fail
    go_loop [8] (fun i => i = .int .i64 0) (fun i => 2 - (intOf i).toNat)
    case atStart => rfl
    case round =>
      subst hrel
      go_wp2_with fail
      go_ret
      exact ⟨rfl, rfl⟩
/-- the min of the first k numbers, 1 ≤ k -/
def minK (ns : List Int) : Nat → Int
  | 0 => ns.getD 0 0
  | k + 1 => if k = 0 then ns.getD 0 0 else min (minK ns k) (ns.getD k 0)
theorem minK_one (ns : List Int) : minK ns 1 = ns.getD 0 0 := rfl
theorem minK_succ (ns : List Int) (k : Nat) (h : 1 ≤ k) : minK ns (k + 1) = min (minK ns k) (ns.getD k 0) := if_neg (by omega)
set_option maxHeartbeats 2000000 in
theorem slmin_any (ns : List Int) (h0 : 1 ≤ ns.length) (a : Option Addr) (c : Nat) (w : World) (hin : InS w a ns.length 1 (flat (fun x : Int => [Value.int .i64 x]) ns)) :
    Calls Tryd.prog 52 #[.slice a ns.length c] w fun e w' => e = .returned (.int .i64 (minK ns ns.length)) ∧ w = w' := by
  obtain ⟨bb, o, rfl, hlt, hc⟩ := InS.at (f := fun x : Int => [Value.int .i64 x]) (sz := 1) (fun _ => rfl) hin h0
  have HC := Lib.hid (fun (i : Nat) (x : Int) (h : ns[i]? = some x) => show w.cell? ⟨bb, o + i, none⟩ = some (.int .i64 x) by have := hc i x h 0 _ rfl; simpa using this)
  obtain ⟨N, hN⟩ : ∃ N, N = ns.length := ⟨_, rfl⟩
  have HN := Lib.hid hN
  have HL := Lib.hid (show N ≤ 9223372036854775807 by rw [hN]; exact hin.2.1)
  rw [← hN] at h0 ⊢
  clear hc hin hlt hN
  obtain ⟨x0, hx0⟩ : ∃ x, ns[0]? = some x := ⟨_, List.getElem?_eq_getElem (by have := HN.out; omega)⟩
  have c0 := HC.out 0 x0 hx0
  rw [Nat.add_zero] at c0
  have HX0 := Lib.hid (show ns.getD 0 0 = x0 by rw [List.getD_eq_getElem?_getD, hx0]; rfl)
  have n0 : decide ((N : Int) < 1) = false := decide_eq_false (by omega)
  have n1 : decide (0 < N) = true := decide_eq_true (by omega)
  clear hx0
  go_enter Tryd.func52, Tryd.ntmps52
  go_wp2_with fail
  go_loop [3, 4] (fun m i => ∃ k : Nat, 1 ≤ k ∧ k ≤ N ∧ i = .int .i64 k ∧ m = .int .i64 (minK ns k)) (fun _ i => N - (intOf i).toNat)
  case atStart => exact ⟨1, Nat.le_refl _, h0, rfl, by rw [minK_one, HX0.out]⟩
  case round =>
    obtain ⟨k, hk1, hk, rfl, rfl⟩ := hrel
    clear c0 n0 n1
    by_cases hlt : k < N
    · obtain ⟨x, hx⟩ : ∃ x, ns[k]? = some x := ⟨_, List.getElem?_eq_getElem (by have := HN.out; omega)⟩
      have cx := HC.out k x hx
      have HS := Lib.hid (show minK ns (k + 1) = min (minK ns k) x by rw [minK_succ ns k hk1, List.getD_eq_getElem?_getD, hx]; rfl)
      obtain ⟨m, hm⟩ : ∃ m, m = minK ns k := ⟨_, rfl⟩
      rw [← hm] at HS ⊢
      clear hm hx
      have n3 : N ≤ 9223372036854775807 := HL.out
      go_wp2_with fail
      go_round
      case rel => exact ⟨k + 1, by omega, by omega, by go_num, by rw [HS.out]⟩
      case measure => (simp [intOf]) <;> omega
    · obtain rfl : k = N := by omega
      go_wp2_with fail
      go_ret
      exact ⟨rfl, rfl⟩
/-- the max of the first k numbers, 1 ≤ k -/
def maxK (ns : List Int) : Nat → Int
  | 0 => ns.getD 0 0
  | k + 1 => if k = 0 then ns.getD 0 0 else max (maxK ns k) (ns.getD k 0)
theorem maxK_one (ns : List Int) : maxK ns 1 = ns.getD 0 0 := rfl
theorem maxK_succ (ns : List Int) (k : Nat) (h : 1 ≤ k) : maxK ns (k + 1) = max (maxK ns k) (ns.getD k 0) := if_neg (by omega)
set_option maxHeartbeats 2000000 in
theorem slmax_any (ns : List Int) (h0 : 1 ≤ ns.length) (a : Option Addr) (c : Nat) (w : World) (hin : InS w a ns.length 1 (flat (fun x : Int => [Value.int .i64 x]) ns)) :
    Calls Tryd.prog 60 #[.slice a ns.length c] w fun e w' => e = .returned (.int .i64 (maxK ns ns.length)) ∧ w = w' := by
  obtain ⟨bb, o, rfl, hlt, hc⟩ := InS.at (f := fun x : Int => [Value.int .i64 x]) (sz := 1) (fun _ => rfl) hin h0
  have HC := Lib.hid (fun (i : Nat) (x : Int) (h : ns[i]? = some x) => show w.cell? ⟨bb, o + i, none⟩ = some (.int .i64 x) by have := hc i x h 0 _ rfl; simpa using this)
  obtain ⟨N, hN⟩ : ∃ N, N = ns.length := ⟨_, rfl⟩
  have HN := Lib.hid hN
  have HL := Lib.hid (show N ≤ 9223372036854775807 by rw [hN]; exact hin.2.1)
  rw [← hN] at h0 ⊢
  clear hc hin hlt hN
  obtain ⟨x0, hx0⟩ : ∃ x, ns[0]? = some x := ⟨_, List.getElem?_eq_getElem (by have := HN.out; omega)⟩
  have c0 := HC.out 0 x0 hx0
  rw [Nat.add_zero] at c0
  have HX0 := Lib.hid (show ns.getD 0 0 = x0 by rw [List.getD_eq_getElem?_getD, hx0]; rfl)
  have n0 : decide ((N : Int) < 1) = false := decide_eq_false (by omega)
  have n1 : decide (0 < N) = true := decide_eq_true (by omega)
  clear hx0
  go_enter Tryd.func60, Tryd.ntmps60
  go_wp2_with fail
  go_loop [3, 4] (fun m i => ∃ k : Nat, 1 ≤ k ∧ k ≤ N ∧ i = .int .i64 k ∧ m = .int .i64 (maxK ns k)) (fun _ i => N - (intOf i).toNat)
  case atStart => exact ⟨1, Nat.le_refl _, h0, rfl, by rw [maxK_one, HX0.out]⟩
  case round =>
    obtain ⟨k, hk1, hk, rfl, rfl⟩ := hrel
    clear c0 n0 n1
    by_cases hlt : k < N
    · obtain ⟨x, hx⟩ : ∃ x, ns[k]? = some x := ⟨_, List.getElem?_eq_getElem (by have := HN.out; omega)⟩
      have cx := HC.out k x hx
      have HS := Lib.hid (show maxK ns (k + 1) = max (maxK ns k) x by rw [maxK_succ ns k hk1, List.getD_eq_getElem?_getD, hx]; rfl)
      obtain ⟨m, hm⟩ : ∃ m, m = maxK ns k := ⟨_, rfl⟩
      rw [← hm] at HS ⊢
      clear hm hx
      have n3 : N ≤ 9223372036854775807 := HL.out
      go_wp2_with fail
      go_round
      case rel => exact ⟨k + 1, by omega, by omega, by go_num, by rw [HS.out]⟩
      case measure => (simp [intOf]) <;> omega
    · obtain rfl : k = N := by omega
      go_wp2_with fail
      go_ret
      exact ⟨rfl, rfl⟩
end Go.Proofs.YtaobbedajgkmiaaDoor
