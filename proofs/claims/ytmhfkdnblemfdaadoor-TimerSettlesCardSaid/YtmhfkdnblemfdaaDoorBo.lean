/- elapsed, lasts, ondelay of a relay. -/
import Derived.Test.YtmhfkdnblemfdaaDoorBn
namespace Go.Proofs.YtmhfkdnblemfdaaDoor
open Go.RowKit Go.Shelf

theorem elapsed_any (rb sb n i : Nat) (v0 v1 v2 v3 v4 v5 v6 : Value) (x dt : Int) (L : List Value) (hi : i < n) (hb : -1000000 ≤ x ∧ x ≤ 1000000) (hd : 0 ≤ dt ∧ dt ≤ 1000000) (w : World) (hr : RelAt w rb sb n v0 v1 v2 v3 v4 v5 v6) (hs : RowAt w sb L) (hx : L[i]? = some (.int .i64 x)) :
    Calls Tryd.prog 61 #[.pointer (some ⟨rb, 0, none⟩), .int .i64 (i : Int), .int .i64 dt] w fun e w' => e = .returned (.int .i64 (x - 1 + dt)) ∧ w = w' := by
  have r7 := hr.c 7 _ rfl
  have s0 := hs.c i _ hx
  have h0 : (0 : Int) ≤ (i : Int) := by omega
  have h1 : (i : Int) < (n : Int) := by omega
  have w1 : IntKind.i64.wrap (x - 1) = x - 1 := IntWalk.i64_in _ (by omega)
  have w2 : IntKind.i64.wrap (x - 1 + dt) = x - 1 + dt := IntWalk.i64_in _ (by omega)
  clear hr hs hx hb hd
  go_enter Tryd.func61, Tryd.ntmps61
  go_wp2_with fail
  go_ret
  exact ⟨rfl, rfl⟩
def lastsN (sec time : Int) : Int := if sec < time then sec + 1 else 0
set_option maxHeartbeats 2000000 in
theorem lasts_any (rb sb n i : Nat) (v0 v1 v2 v3 v4 v5 v6 : Value) (x sec time : Int) (L : List Value) (hi : i < n) (hc : -1000000 ≤ sec ∧ sec ≤ 10000000) (w : World) (hr : RelAt w rb sb n v0 v1 v2 v3 v4 v5 v6) (hs : RowAt w sb L) (hx : L[i]? = some (.int .i64 x)) :
    Calls Tryd.prog 60 #[.pointer (some ⟨rb, 0, none⟩), .int .i64 (i : Int), .int .i64 sec, .int .i64 time] w fun e w' => e = .returned (.bool (decide (sec < time))) ∧ RowAt w' sb (L.set i (.int .i64 (lastsN sec time))) ∧ w.grownBy w' (some sb) := by
  have r7 := hr.c 7 _ rfl
  have s0 := hs.c i _ hx
  have sz := hs.fz
  have hl : i < L.length := (List.getElem?_eq_some_iff.1 hx).1
  have h0 : (0 : Int) ≤ (i : Int) := by omega
  have h1 : (i : Int) < (n : Int) := by omega
  by_cases ht : sec < time
  · have HE := Lib.hid (show lastsN sec time = sec + 1 from if_pos ht)
    have HD := Lib.hid (show decide (sec < time) = true from decide_eq_true ht)
    have w1 : IntKind.i64.wrap (sec + 1) = sec + 1 := IntWalk.i64_in _ (by omega)
    have hg : ¬ (time ≤ sec) := by omega
    have HS := Lib.hid (row_set hs i hl (.int .i64 (sec + 1)))
    have HG := Lib.hid (grown_cell w sb i (.int .i64 (sec + 1)))
    clear hr hs hx hc ht
    go_enter Tryd.func60, Tryd.ntmps60
    go_wp2_with fail
    go_ret
    exact ⟨(by first | rfl | (rw [HD.out]; rfl)), by rw [HE.out]; exact HS.out, HG.out⟩
  · have HE := Lib.hid (show lastsN sec time = 0 from if_neg ht)
    have HD := Lib.hid (show decide (sec < time) = false from decide_eq_false ht)
    have hg : time ≤ sec := by omega
    have HS := Lib.hid (row_set hs i hl (.int .i64 0))
    have HG := Lib.hid (grown_cell w sb i (.int .i64 0))
    clear hr hs hx hc ht
    go_enter Tryd.func60, Tryd.ntmps60
    go_wp2_with fail
    go_ret
    exact ⟨(by first | rfl | (rw [HD.out]; rfl)), by rw [HE.out]; exact HS.out, HG.out⟩
end Go.Proofs.YtmhfkdnblemfdaaDoor
