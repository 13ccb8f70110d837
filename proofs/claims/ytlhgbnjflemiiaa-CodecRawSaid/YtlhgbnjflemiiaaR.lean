/- The law's own small, over a list of values that came in. -/
import Derived.Test.YtlhgbnjflemiiaaQ
namespace Go.Proofs.Ytlhgbnjflemiiaa
open Go.RowKit

/-- the cells of a value -/
structure VCells (w : World) (b o : Nat) (v : V) : Prop where
  c0 : w.cell? ⟨b, o, none⟩ = some (.int .i64 v.K)
  c1 : w.cell? ⟨b, o + 1, none⟩ = some (.bool v.B)
  c2 : w.cell? ⟨b, o + 2, none⟩ = some (.int .u64 v.U)
  c3 : w.cell? ⟨b, o + 3, none⟩ = some (.int .i64 v.N)
  c4 : w.cell? ⟨b, o + 4, none⟩ = some (.string v.S)
/-- what is known of a value that came in -/
structure V.In (v : V) : Prop where
  u : v.U < 18446744073709551616
  n1 : -9223372036854775808 ≤ v.N
  n2 : v.N ≤ 9223372036854775807
  s : v.S.size ≤ 9223372036854775807
/-- a list of values that came in -/
def IsVals (w : World) (a : Option Addr) (len : Nat) (vs : List V) : Prop :=
  (len = 0 ∧ vs = []) ∨ ∃ b off, a = some ⟨b, off, none⟩ ∧ b < w.heap.size ∧ len = vs.length ∧ len ≤ 9223372036854775807 ∧ ∀ i (hi : i < vs.length), VCells w b (off + i * 5) vs[i] ∧ vs[i].In

def SPost (vs : List V) (w : World) (e : Ending) (w' : World) : Prop :=
  ∃ r : Bool, e = .returned (.bool r) ∧ (r = true → vs.length ≤ 60 ∧ ∀ v ∈ vs, v.S.size ≤ 70000) ∧ w = w'

/-- the sizes of the first i, as 'small' adds them -/
def ssum (vs : List V) (i : Nat) : Nat := ((vs.take i).map fun v => min v.S.size 100000).sum
theorem ssum_succ (vs : List V) (i : Nat) (h : i < vs.length) : ssum vs (i + 1) = ssum vs i + min vs[i].S.size 100000 := by
  unfold ssum
  rw [List.take_succ_eq_append_getElem h, List.map_append, List.sum_append]
  rfl
theorem ssum_le (vs : List V) : ∀ i, ssum vs i ≤ i * 100000
  | 0 => by simp [ssum]
  | i + 1 => by
    have := ssum_le vs i
    by_cases h : i < vs.length
    · rw [ssum_succ vs i h]; omega
    · have e : ssum vs (i + 1) = ssum vs i := by unfold ssum; rw [List.take_of_length_le (by omega), List.take_of_length_le (by omega)]
      omega
theorem mem_le_sum : ∀ (l : List Nat) (x : Nat), x ∈ l → x ≤ l.sum
  | [], _, h => by cases h
  | a :: l, x, h => by
    rw [List.sum_cons]
    rcases List.mem_cons.1 h with rfl | h
    · omega
    · have := mem_le_sum l x h; omega
theorem ssum_all (vs : List V) (h : ssum vs vs.length ≤ 70000) : ∀ v ∈ vs, v.S.size ≤ 70000 := by
  intro v hv
  unfold ssum at h
  rw [List.take_length] at h
  have := mem_le_sum _ _ (List.mem_map.2 ⟨v, hv, rfl⟩ : min v.S.size 100000 ∈ vs.map fun v => min v.S.size 100000)
  omega

set_option maxHeartbeats 1000000 in
theorem small_some (b off cap : Nat) (vs : List V) (w : World) (_hb : b < w.heap.size) (hl : vs.length ≤ 9223372036854775807) (hc : ∀ i (hi : i < vs.length), VCells w b (off + i * 5) vs[i] ∧ vs[i].In) :
    Calls Try.prog 10 #[.slice (some ⟨b, off, none⟩) vs.length cap] w (SPost vs w) := by
  have HC := Lib.hid hc; clear hc
  go_enter Try.func10, Try.ntmps10
  go_wp2
  go_loop [3, 4] (fun n i => ∃ k : Nat, k ≤ vs.length ∧ k ≤ 70 ∧ i = .int .i64 k ∧ n = .int .i64 (ssum vs k)) (fun _ i => 70 - (intOf i).toNat)
  case atStart => exact ⟨0, by omega, by omega, rfl, by simp [ssum]⟩
  case round =>
    obtain ⟨k, hk, hk70, rfl, rfl⟩ := hrel
    have hs := ssum_le vs k
    by_cases hlt : k < vs.length
    · by_cases h70 : k < 70
      · have c4 := (HC.out k hlt).1.c4
        have hS := (HC.out k hlt).2.s
        have hss := Lib.hid (ssum_succ vs k hlt)
        generalize vs[k] = v at c4 hS hss
        go_wp2
        go_round
        case rel => exact ⟨k + 1, by omega, by omega, by go_num, by rw [hss.out]; go_num⟩
        case measure => simp [intOf]; omega
      · have h60 : ¬ vs.length ≤ 60 := by omega
        go_wp2
        go_ret
        exact ⟨false, rfl, (fun h => by cases h), rfl⟩
    · obtain rfl : k = vs.length := by omega
      have ha := Lib.hid (ssum_all vs)
      by_cases h60 : vs.length ≤ 60
      · go_wp2
        go_ret
        exact ⟨_, rfl, fun h => ⟨h60, ha.out (by have := of_decide_eq_true h; omega)⟩, rfl⟩
      · go_wp2
        go_ret
        exact ⟨false, rfl, (fun h => by cases h), rfl⟩

set_option maxHeartbeats 400000 in
theorem small_none (a : Option Addr) (cap : Nat) (w : World) : Calls Try.prog 10 #[.slice a 0 cap] w (SPost [] w) := by
  go_enter Try.func10, Try.ntmps10
  go_wp2
  refine wp_loop_rounds 1 ?_
  rw [rounds_succ]
  go_wp2
  go_ret
  exact ⟨true, rfl, fun _ => ⟨by simp, (fun v h => by cases h)⟩, rfl⟩

theorem small_any (a : Option Addr) (len cap : Nat) (vs : List V) (w : World) (h : IsVals w a len vs) : Calls Try.prog 10 #[.slice a len cap] w (SPost vs w) := by
  rcases h with ⟨rfl, rfl⟩ | ⟨b, off, rfl, hb, rfl, hl, hc⟩
  · exact small_none a cap w
  · exact small_some b off cap vs w hb hl hc
end Go.Proofs.Ytlhgbnjflemiiaa
